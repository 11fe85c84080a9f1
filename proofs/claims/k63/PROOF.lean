import PyProof.Rows.All
import Wide.All
import OpenK.AllK
import Wide.FinOn
import Lean
import PyProof.EqAt
import PyProof.EqKinds
import PyProof.TupleCall
import PyProof.WalksEnum
import PyProof.EnumMake
import PyProof.ZipIter
import PyProof.ReprStr
import PyProof.StrBlockG
import PyProof.StrWalks
import PyProof.FString5
import PyProof.ConsumeWalk
import PyProof.SumAny
import PyProof.StrCalls2
import KE.KDictList
import PyProof.Draws
import PyProof.StrBlock2
import PyProof.DictIter
import PyProof.ExcInit
import PyProof.ExcClass3
import PyProof.FString
import PyProof.FitsInt
import PyProof.StrLawsRepr
import PyProof.Rows.Range3
import PyProof.StrCalls
import PyProof.ListRange
import PyProof.AttrMissHeap
import KE.KDictOf
import PyProof.StrCalls3
import PyProof.FactsAll.dict_2
import PyProof.MeetsIn
import PyProof.Cells
import KE.KDictSum
import PyProof.DictWalks
import KE.KRevIter
import PyProof.FactsAll.subtypes_3
import PyProof.Rows.SortWalk
import KE.KSortedM
import PyProof.Rows.SortStr
import PyProof.MinMaxWalk
import PyProof.WalkInts
import PyProof.SeqI3
import PyProof.Rows.CallKwBuiltin
import KE.KUnpack
import PyProof.Rows.SeqMore2
import PyProof.LongRange
import PyProof.MeetsDictList
import PyProof.DictTruth
import PySem.Challenge.RW_strokegrow_k63_whole_elders_hold_the_wor
theorem AA3 {a b:Nat}(h:Nat.ble a b=true:=by rfl):a<=b:=Nat.le_of_ble_eq_true h
set_option Elab.async false
set_option linter.all false
set_option maxRecDepth 100000
section
open List renaming getElem?_eq_getElem→fe, length_map→Bn, getD_eq_getElem?_getD→E2, getElem?_set_self→Ja, getElem?_set_ne→J4, getElem?_map→J7, getElem?_eq_some_iff→KP, mem_cons_of_mem→KY, mem_cons→K4, length_drop→La, length_range→Lo, range→Lp, length_cons→Lr, mem_cons_self→Lu, map_cons→Lv, mem_append_right→Lw, getElem?_append_left→Lx, getElem?_append_right→Ly, length_append→Lz, map_map→LB, length_take→LC, size_toArray→LF, getElem?_range→LH, getElem_mem→LI, mem_map→LK, getElem?_eq_none→LL, flatten_cons→LN, find?_cons→LO, take_length→LP, map_append→LQ, replicate→LR, mem_range→LU, getElem?_replicate→LW, getElem?_cons_succ→LY, take_add_one→L3, take_of_length_le→L5, append_nil→L6, pairwise_iff_getElem→L7, lookup_cons→L9, mem_iff_getElem→Mb, getElem_map→Md, mem_append→Me, filter_eq_self→Mi, nodup_cons→Mm, prefix_append_right_inj→Mn, getElem_take→Mo, mem_of_mem_drop→Mq, not_mem_nil→Mr, map_congr_left→Ms, all_cons→Mu, any_cons→Mv, foldl_cons→Mw, lookup→Mx, drop_zero→MA, take_append_drop→MB, all_eq_true→ME, mem_append_left→MG, mem_of_getElem?→MH, mem_of_mem_take→MI, forIn_cons→MK, filterMap_cons→ML, drop_drop→MN
open PySem.Heap renaming get?_push_of_some→k0, lt_size→KJ, get?_push_size→K3, size_push→LZ, SameBut→Ma
open Exists renaming elim→k3
open Nat renaming le_refl→G1, lt_of_lt_of_le→K2, ne_of_lt→Lq, le_trans→LA, zero_le→LD, le_of_ble_eq_true→L8, lt_irrefl→Mc, lt_succ_self→Mj, le_succ→Mp, le_of_lt→My, ne_of_gt→Mz, le_of_not_lt→MC, succ_ne_self→MD
open Bool renaming false_ne_true→K8, and_eq_true→LX, false_eq_true→Ml, eq_iff_iff→MJ
open Int renaming emod_lt_of_pos→LG, emod_nonneg→LM, toNat_natCast→Mf
open Or renaming inr→LJ, inl→LV
open Option renaming isSome_map→Mg, isSome_iff_exists→Mt
open Array renaming length_toList→Mh
namespace L2
open PySem PySem.Spec PyProof.Rows
noncomputable abbrev Key:=Sum Int Str
noncomputable def kU:Key->Value->Bool
 | .inl k,v=>Value.isInt k v
 | .inr x,v=>Value.isStrOf x v
noncomputable def FC (w:World):Key->Int
 | .inl k=>hashInt k
 | .inr x=>hashStr w x
theorem a0:∀ {k:Key} {v:Value},kU k v=true->(∃ i t,k=Sum.inl i/\v=Value.int i t)\/(∃ x t,k=Sum.inr x/\v=Value.str x t)
 | .inl i,v,h=>by
   obtain⟨t,e⟩:=Value.isInt_shape (k:=i) (v:=v) h
   exact .inl ⟨i,t,rfl,e⟩
 | .inr x,v,h=>by
   obtain⟨t,e⟩:=Value.isStrOf_shape (x:=x) (v:=v) h
   exact .inr ⟨x,t,rfl,e⟩
theorem rC (i:Int)(t:Tok):kU (.inl i) (.int i t)=true:=by simp[kU,Value.isInt]
theorem rD (x:Str)(t:Tok):kU (.inr x) (.str x t)=true:=by simp[kU,Value.isStrOf]
theorem Aj (a b:Int):decide ((Sum.inl a:Key)=Sum.inl b)=(a == b):=by
 by_cases e:a=b
 . subst e;simp
 . have h:¬ (Sum.inl a:Key)=Sum.inl b:=fun q=>e (Sum.inl.inj q)
   rw[decide_eq_false h]
   exact(beq_eq_false_iff_ne.mpr e).symm
theorem Ak (a b:Str):decide ((Sum.inr a:Key)=Sum.inr b)=decide (a=b):=by
 by_cases e:a=b
 . subst e;simp
 . have h:¬ (Sum.inr a:Key)=Sum.inr b:=fun q=>e (Sum.inr.inj q)
   rw[decide_eq_false h,decide_eq_false e]
theorem Al (a:Int)(b:Str):decide ((Sum.inl a:Key)=Sum.inr b)=false:=decide_eq_false (fun q=>nomatch q)
theorem Am (a:Str)(b:Int):decide ((Sum.inr a:Key)=Sum.inl b)=false:=decide_eq_false (fun q=>nomatch q)
noncomputable def aX (prog:Program)(w:World):PySem.KeyKind prog w Key where
 is:=kU
 hash:=FC w
 inj:=fun v a b ha hb=>by
   rcases a0 ha with⟨i,t,rfl,rfl⟩ | ⟨x,t,rfl,rfl⟩
   . rcases a0 hb with⟨j,u,rfl,e⟩ | ⟨y,u,rfl,e⟩
     . injection e with e1 _;rw[e1]
     . exact nomatch e
   . rcases a0 hb with⟨j,u,rfl,e⟩ | ⟨y,u,rfl,e⟩
     . exact nomatch e
     . injection e with e1 _;rw[e1]
 byValue:=fun k v h=>by
   rcases a0 h with⟨i,t,rfl,rfl⟩ | ⟨x,t,rfl,rfl⟩ <;> rfl
 pyHash:=fun hv h=>by
   rcases a0 hv with⟨i,t,rfl,rfl⟩ | ⟨x,t,rfl,rfl⟩
   . exact wpAny_pyHash_int h
   . exact wpAny_pyHash_str h
 eqBool:=fun hu hv h=>by
   rcases a0 hu with⟨i,t,rfl,rfl⟩ | ⟨x,t,rfl,rfl⟩
   . rcases a0 hv with⟨j,u,rfl,rfl⟩ | ⟨y,u,rfl,rfl⟩
     . rw[Aj] at h;exact wpAny_eqBool_int h
     . rw[Al] at h;exact SeqAt.EqAt.int_str i t y u _ _ _ _ h
   . rcases a0 hv with⟨j,u,rfl,rfl⟩ | ⟨y,u,rfl,rfl⟩
     . rw[Am] at h;exact SeqAt.EqAt.str_int x t j u _ _ _ _ h
     . rw[Ak] at h;exact wpAny_eqBool_str h
 «strs»:=fun k x t v h=>by
   rcases a0 h with⟨i,u,rfl,e⟩ | ⟨y,u,rfl,e⟩
   . exact nomatch e
   . injection e with e1 _
     subst e1
     cases v <;> rfl
theorem nh (prog:Program)(w:World)(i:Int)(t:Tok):(aX prog w).is (.inl i) (.int i t)=true:=rC i t
theorem ni (prog:Program)(w:World)(x:Str)(t:Tok):(aX prog w).is (.inr x) (.str x t)=true:=rD x t
inductive V where
 | aW | bl (b:Bool) | int (i:Int) | str (x:Str) | rE (b:Array UInt8) | zF (b:UInt64) | ref (a:Addr) | ty (n:String)
 deriving DecidableEq
def RelV:V->Value->Prop
 | .aW,u=>u=Value.none
 | .bl b,u=>u=Value.bool b
 | .int i,u=>∃ t,u=Value.int i t
 | .str x,u=>∃ t,u=Value.str x t
 | .rE b,u=>∃ t,u=Value.bytes b t
 | .zF b,u=>∃ t,u=Value.float b t
 | .ref a,u=>u=Value.ref a
 | .ty n,u=>u=Value.type n
abbrev Vals:List V->List Value->Prop:=Paired RelV
theorem Vals.length {xs:List V}{us:List Value}(r:Vals xs us):xs.length=us.length:=Paired.length r
theorem Vals.get:∀ {xs:List V} {us:List Value} {i:Nat} {x:V},Vals xs us->xs[i]?=some x->∃ u,us[i]?=some u/\RelV x u
 | _,_,_,_,.nil,e=>by simp at e
 | _,_,0,_,.cons r _,e=>by simp at e;subst e;exact⟨_,rfl,r⟩
 | _,_,i+1,x,.cons _ t,e=>by
   obtain⟨u,h1,h2⟩:=Vals.get (i:=i) (x:=x) t (by simpa using e)
   exact⟨u,by simpa using h1,h2⟩
theorem Vals.append:∀ {xs ys:List V} {us ws:List Value},Vals xs us->Vals ys ws->Vals (xs ++ ys) (us ++ ws)
 | _,_,_,_,.nil,s=>s
 | _,_,_,_,.cons r t,s=>.cons r (Vals.append t s)
theorem Vals.take:∀ {xs:List V} {us:List Value} (n:Nat),Vals xs us->Vals (xs.take n) (us.take n)
 | _,_,0,_=>.nil
 | _,_,_+1,.nil=>.nil
 | _,_,n+1,.cons r t=>.cons r (Vals.take n t)
theorem Vals.drop:∀ {xs:List V} {us:List Value} (n:Nat),Vals xs us->Vals (xs.drop n) (us.drop n)
 | _,_,0,r=>r
 | _,_,_+1,.nil=>.nil
 | _,_,n+1,.cons _ t=>Vals.drop n t
def eJ:Option V->Option Value->Prop
 | some v,some u=>RelV v u
 | none,none=>True
 | _,_=>False
def KV {κ:Type}:List (κ×V)->List (κ×Value)->Prop:=Paired fun(p:κ×V) (q:κ×Value)=>p.1=q.1/\RelV p.2 q.2
noncomputable def kV:Key->V
 | .inl i=>.int i
 | .inr x=>.str x
inductive FD where
 | int (i:Int)
 | bK (kds:List (Key×Int))
 | lst (ns:List Int)
 | tup (K:W.Frag) (ns:List Int)
 | obj (C:Addr) (fs:List (Str×FD))
noncomputable abbrev ng:=List (Addr×(Nat->List (Key×FD)))
inductive HO where
   | lst (xs:List V)
   | tup (xs:List V)
   | dK (kvs:List (Key×V)) | dT (kvs:List (List Key×V))
   | set (S:Int->Bool) (n:Nat)
   | ins (C dx:Addr) (fs:List (Str×V))
   | own (x:Addr)
   | xd (fs:List (Str×V))
   | met (f x:Addr)
   | FE (lo hi:Int)
   | a7 (o:Obj) (u:HO)
   | An (ps:Array Value)
   | ext (φ:Heap->Prop)
   | memo (ls:ng)
 | iL (ls:ng) (ns:List Nat)
   | part (p:Addr)
   | kd (tg:Option (Addr×Nat)) (o:Obj) (kvs:List (Key×V))
   | kx (o:Obj) (u:HO)
noncomputable abbrev Hp:=Addr->Option HO
noncomputable def upd (H:Hp)(a:Addr)(o:HO):Hp:=fun b=>if b=a then some o else H b
theorem ak {H:Hp}{a:Addr}{o:HO}:upd H a o a=some o:=by unfold upd;rw[if_pos rfl]
theorem aj {H:Hp}{a b:Addr}{o:HO}(h:b≠a):upd H a o b=H b:=by unfold upd;rw[if_neg h]
theorem CM {H:Hp}{a b:Addr}{o u:HO}(h:H a=some o)(h':H b=some u)(d:o≠u):a≠b:=by
 intro e;subst e;rw[h] at h';exact d (Option.some.inj h')
theorem ao {H:Hp}{a b:Addr}{o:HO}(h:H a=some o)(h':H b=none):a≠b:=by
 intro e;subst e;rw[h] at h';cases h'
def g8:Option HO->Prop
 | some (.memo _)=>True
 | some (.iL _ _)=>True
 | some (.part _)=>True
 | _=>False
def Kept:HO->Prop
 | .kd _ _ _=>True
 | .kx _ _=>True
 | .tup _=>True
 | _=>False
def TupAt (K:W.Frag)(H:Hp)(a:Addr)(xs:List V):Prop:=
 H a=some (.tup xs) \/
   ∃ (o:Obj) (aF:Array Value) (n:Nat),K.lookup a=some o/\o.cls=.type "tuple"/\o.data=.seq aF n/\aF.size<=sizeLine/\Vals xs aF.toList
mutual
inductive Fz (H:Hp):V->FD->Prop
 | int (i:Int):Fz H (.int i) (.int i)
 | bK {a:Addr} {tg:Option (Addr×Nat)} {o:Obj} {kds:List (Key×Int)}:H a=some (.kd tg o (kds.map fun kd=>(kd.1,V.int kd.2)))->Fz H (.ref a) (.bK kds)
 | lst {a:Addr} {o:Obj} {ns:List Int}:H a=some (.kx o (.lst (ns.map V.int)))->Fz H (.ref a) (.lst ns)
 | tup {a:Addr} {K:W.Frag} {ns:List Int}:TupAt K H a (ns.map V.int)->Fz H (.ref a) (.tup K ns)
 | obj {a C dx:Addr} {o:Obj} {fv:List (Str×V)} {fs:List (Str×FD)}:H a=some (.kx o (.ins C dx fv))->xB H fv fs->Fz H (.ref a) (.obj C fs)
inductive xB (H:Hp):List (Str×V)->List (Str×FD)->Prop
 | nil:xB H [] []
 | cons {k:Str} {v:V} {d:FD} {vs:List (Str×V)} {ds:List (Str×FD)}:Fz H v d->xB H vs ds->xB H ((k,v)::vs) ((k,d)::ds)
end
inductive xH (H:Hp):List (Key×V)->List (Key×FD)->Prop
 | nil:xH H [] []
 | cons {k:Key} {v:V} {d:FD} {kvs:List (Key×V)} {kds:List (Key×FD)}:Fz H v d->xH H kvs kds->xH H ((k,v)::kvs) ((k,d)::kds)
def Ao (H:Hp)(p:Addr)(i:Nat)(aF:List Value)(fd:List (Key×FD)):Prop:=∃ q o kvs,aF[i]?=some (.ref q)/\H q=some (.kd (some (p,i)) o kvs)/\xH H kvs fd
def qb (H:Hp)(h:Heap)(p:Addr)(f:Nat->List (Key×FD))(n:Nat):Prop:=∃ aF c,h.get? p=some { cls:=.type "list",data:=.seq (aF:List Value).toArray c}/\aF.length=n/\∀ i,i < n->Ao H p i aF (f i)
def jD (H:Hp)(h:Heap)(a:Addr)(ls:ng)(ns:List Nat):Prop:=(∃ f,ls[0]?=some (a,f))/\ls.length=ns.length/\(∀ (j:Nat) (p:Addr) (f:Nat->List (Key×FD)),ls[j]?=some (p,f)->(p=a\/H p=some (.part a)))/\(ls.map (·.1)).Nodup/\(∀ n∈ns,n<=10000)/\∀ (j:Nat) (p:Addr) (f:Nat->List (Key×FD)) (n:Nat),ls[j]?=some (p,f)->ns[j]?=some n->qb H h p f n
section
variable (P:Program)(w:World)
def aM (H:Hp)(h:Heap)(a:Addr):HO->Prop
 | .lst xs=>xs.length<=sizeLine/\∃ (aF:List Value) (n:Nat),Vals xs aF/\h.get? a=some { cls:=.type "list",data:=.seq aF.toArray n}
 | .tup xs=>xs.length<=sizeLine/\∃ aF:List Value,Vals xs aF/\IsTup h a aF.toArray
 | .dK kvs=>kvs.length<=sizeLine/\(a == sysModules)=false/\∃ vs,KV kvs vs/\h.DictOf (aX P w) a vs
 | .dT kvs=>kvs.length<=sizeLine/\(a == sysModules)=false/\∃ xs:List (List Key×Addr×Value),
     Paired (fun(p:List Key×V) (q:List Key×Addr×Value)=>p.1=q.1/\H q.2.1=some (.tup (p.1.map kV))/\RelV p.2 q.2.2) kvs xs /\
     ∃ o es ep,h.get? a=some o/\o.ExactDict/\o.data=.dict es ep/\es.toList=xs.map (entryOfKey (tupleKind (aX P w)))/\(xs.map (·.1)).Nodup
 | .set S n=>h.SetOf (intKind P w) a S n
 | .ins C dx fs=>H dx=some (.own a)/\fs.length<=1000/\dx≠a/\h.get? a=some (W.instObj C dx) /\
     ∃ mA,h.Ns1 dx mA/\(∀ f,eJ (fs.lookup f) (mA f))/\PySem.Within mA (fs.map (·.1))
 | .own _=>∃ o,h.get? a=some o
 | .xd fs=>∃ mA,h.Ns1 a mA/\∀ f,eJ (fs.lookup f) (mA f)
 | .FE lo hi=>∃ t u v,h.get? a=some { cls:=.type "range",data:=.fields #[.int lo t,.int hi u,.int 1 v]}
 | .a7 o u=>h.get? a=some o/\aM H h a u
 | .An ps=>h.get? a=some { cls:=.none,data:=.fields ps}
 | .met f x=>h.get? a=some (W.methodObj (.ref f) (.ref x))
 | .ext φ=>φ h/\(∃ o,h.get? a=some o)/\∀ h1 h2:Heap,φ h1->(∀ o,h1.get? a=some o->h2.get? a=some o)->φ h2
 | .memo ls=>(∃ o,h.get? a=some o)/\∃ n,0 < n/\jD H h a ls (LR ls.length n)
 | .iL ls ns=>(∃ o,h.get? a=some o)/\jD H h a ls ns
 | .part _=>∃ o,h.get? a=some o
 | .kd tg o kvs=>h.get? a=some o/\(kvs.length<=sizeLine/\(a == sysModules)=false/\∃ vs,KV kvs vs/\h.DictOf (aX P w) a vs) /\
     ∀ p i,tg=some (p,i)->g8 (H p)/\∃ aF c,h.get? p=some { cls:=.type "list",data:=.seq (aF:List Value).toArray c}/\aF[i]?=some (.ref a)
 | .kx o u=>h.get? a=some o/\aM H h a u
def gj (H:Hp)(h:Heap):Prop:=∀ a o,H a=some o->aM P w H h a o
end
section
variable {P:Program}{w:World}{H H':Hp}{h h':Heap}{a:Addr}{o:HO}
theorem aM.lt (x:aM P w H h a o):a < h.objs.size:=by
 cases o with
 | lst xs=>obtain⟨_,_,_,_,e⟩:=x;exact KJ e
 | tup xs=>obtain⟨_,_,_,p⟩:=x;exact p.lt
 | dK kvs=>obtain⟨_,_,_,_,o,_,_,e,_⟩:=x;exact KJ e
 | dT kvs=>obtain⟨_,_,_,_,o,_,_,e,_⟩:=x;exact KJ e
 | set S n=>obtain⟨o,_,_,_,e,_⟩:=x;exact KJ e
 | ins C dx fs=>obtain⟨_,_,_,e,_⟩:=x;exact KJ e
 | own y=>obtain⟨_,e⟩:=x;exact KJ e
 | xd fs=>obtain⟨_,⟨_,_,_,e,_⟩,_⟩:=x;exact KJ e
 | FE lo hi=>obtain⟨_,_,_,e⟩:=x;exact KJ e
 | a7 ob u=>obtain⟨e,_⟩:=x;exact KJ e
 | An ps=>exact KJ (show h.get? a=some _ from x)
 | met f y=>exact KJ (show h.get? a=some _ from x)
 | ext φ=>obtain⟨_,⟨_,e⟩,_⟩:=x;exact KJ e
 | memo ls=>obtain⟨⟨_,e⟩,_⟩:=x;exact KJ e
 | iL ls ns=>obtain⟨⟨_,e⟩,_⟩:=x;exact KJ e
 | part y=>obtain⟨_,e⟩:=x;exact KJ e
 | kd tg ob kvs=>exact KJ x.1
 | kx ob u=>exact KJ x.1
theorem Paired.Ap {α β:Type}{F G:α->β->Prop}:∀ {l₁:List α} {l₂:List β},Paired F l₁ l₂->(∀ a b,F a b->G a b)->Paired G l₁ l₂
 | _,_,.nil,_=>.nil
 | _,_,.cons r t,f=>.cons (f _ _ r) (Paired.Ap t f)
structure Kp (H H':Hp):Prop where
 st:∀ b u,H b=some u->Kept u->H' b=some u
 mem:∀ b,g8 (H b)->g8 (H' b)
 part:∀ b x,H b=some (.part x)->H' b=some (.part x)
theorem Kp.kd (kp:Kp H H')(b:Addr)(tg:Option (Addr×Nat))(o:Obj)(kvs:List (Key×V))(e:H b=some (.kd tg o kvs)):H' b=some (.kd tg o kvs):=kp.st b _ e trivial
theorem Kp.refl:Kp H H:=⟨fun _ _ e _=>e,fun _ e=>e,fun _ _ e=>e⟩
theorem Kp.of (s:∀ b u,H b=some u->H' b=some u):Kp H H':=⟨fun _ _ e _=>s _ _ e,fun b e=>by
 cases q:H b with
 | none=>rw[q] at e;exact e.elim
 | some u=>rw[s b u q,<- q];exact e,fun _ _ e=>s _ _ e⟩
theorem TupAt.kp {K:W.Frag}{xs:List V}(k:∀ b u,H b=some u->Kept u->H' b=some u)(h:TupAt K H a xs):TupAt K H' a xs:=h.imp (fun e=>k _ _ e trivial) id
mutual
theorem Fz.st (k:∀ b u,H b=some u->Kept u->H' b=some u):∀ {v:V} {d:FD},Fz H v d->Fz H' v d
 | _,_,.int i=>.int i
 | _,_,.bK e=>.bK (k _ _ e trivial)
 | _,_,.lst e=>.lst (k _ _ e trivial)
 | _,_,.tup e=>.tup (e.kp k)
 | _,_,.obj e f=>.obj (k _ _ e trivial) (xB.st k f)
theorem xB.st (k:∀ b u,H b=some u->Kept u->H' b=some u):∀ {v:List (Str×V)} {d:List (Str×FD)},xB H v d->xB H' v d
 | _,_,.nil=>.nil
 | _,_,.cons h t=>.cons (Fz.st k h) (xB.st k t)
end
theorem Fz.kp (kp:Kp H H'){v:V}{d:FD}(h:Fz H v d):Fz H' v d:=h.st kp.st
theorem xH.kp (kp:Kp H H'):∀ {kvs:List (Key×V)} {kds:List (Key×FD)},xH H kvs kds->xH H' kvs kds
 | _,_,.nil=>.nil
 | _,_,.cons h t=>.cons (h.kp kp) (xH.kp kp t)
theorem qb.kp {p:Addr}{f:Nat->List (Key×FD)}{n:Nat}(kp:Kp H H')(x:qb H h p f n)(k:∀ u,h.get? p=some u->h'.get? p=some u):qb H' h' p f n:=by
 obtain⟨aF,c,e,hl,hi⟩:=x
 exact⟨aF,c,k _ e,hl,fun i hn=>let ⟨q,o,kvs,h1,h2,h3⟩:=hi i hn;⟨q,o,kvs,h1,kp.kd _ _ _ _ h2,h3.kp kp⟩⟩
theorem jD.kp {ls:ng}{ns:List Nat}(kp:Kp H H')(x:jD H h a ls ns)(k:∀ b u,b=a\/H b=some (.part a)->h.get? b=some u->h'.get? b=some u):jD H' h' a ls ns:=by
 obtain⟨h1,h2,h3,h4,h5,h6⟩:=x
 exact⟨h1,h2,fun j p f e=>(h3 j p f e).imp id fun z=>kp.part _ _ z,h4,h5,fun j p f n e1 e2=>(h6 j p f n e1 e2).kp kp fun u e=>k p u (h3 j p f e1) e⟩
def Hz (h:Heap)(p:Addr)(i:Nat)(c:Addr):Prop:=∃ aF n,h.get? p=some { cls:=.type "list",data:=.seq (aF:List Value).toArray n}/\aF[i]?=some (.ref c)
theorem aM.CN (x:aM P w H h a o)(k:∀ b u,(b=a\/H b=some (.own a)\/H b=some (.part a))->h.get? b=some u->h'.get? b=some u)(ho:∀ b,H b=some (.own a)->H' b=some (.own a))(ht:∀ b xs,H b=some (.tup xs)->H' b=some (.tup xs))(kp:Kp H H')(hl:∀ p i c,g8 (H p)->Hz h p i c->Hz h' p i c):aM P w H' h' a o:=by
 induction o with
 | lst xs=>obtain⟨z,aF,n,r,e⟩:=x;exact⟨z,aF,n,r,k _ _ (.inl rfl) e⟩
 | tup xs=>obtain⟨z,aF,r,ob,e,c⟩:=x;exact⟨z,aF,r,ob,k _ _ (.inl rfl) e,c⟩
 | dK kvs=>obtain⟨z,y,vs,r,ob,es,ep,e,c⟩:=x;exact⟨z,y,vs,r,ob,es,ep,k _ _ (.inl rfl) e,c⟩
 | dT kvs=>
   obtain⟨z,y,xs,r,ob,es,ep,e,c⟩:=x
   exact⟨z,y,xs,Paired.Ap r fun p q z=>⟨z.1,ht _ _ z.2.1,z.2.2⟩,ob,es,ep,k _ _ (.inl rfl) e,c⟩
 | set S n=>obtain⟨ob,es,ep,t,e,c⟩:=x;exact⟨ob,es,ep,t,k _ _ (.inl rfl) e,c⟩
 | ins C dx fs=>
   obtain⟨d,z,ne,e,mA,⟨od,es,ep,e2,c⟩,r⟩:=x
   exact⟨ho _ d,z,ne,k _ _ (.inl rfl) e,mA,⟨od,es,ep,k _ _ (.inr (.inl d)) e2,c⟩,r⟩
 | own y=>obtain⟨ob,e⟩:=x;exact⟨ob,k _ _ (.inl rfl) e⟩
 | xd fs=>obtain⟨mA,⟨od,es,ep,e,c⟩,r⟩:=x;exact⟨mA,⟨od,es,ep,k _ _ (.inl rfl) e,c⟩,r⟩
 | FE lo hi=>obtain⟨t,u,v,e⟩:=x;exact⟨t,u,v,k _ _ (.inl rfl) e⟩
 | a7 ob u ih=>obtain⟨e,q⟩:=x;exact⟨k _ _ (.inl rfl) e,ih q⟩
 | An ps=>
   have e:h.get? a=some { cls:=.none,data:=.fields ps}:=x
   show h'.get? a=some { cls:=.none,data:=.fields ps}
   exact k a _ (.inl rfl) e
 | met f y=>
   have e:h.get? a=some (W.methodObj (.ref f) (.ref y)):=x
   show h'.get? a=some (W.methodObj (.ref f) (.ref y))
   exact k a _ (.inl rfl) e
 | ext φ=>obtain⟨p,⟨o,e⟩,st⟩:=x;exact⟨st _ _ p fun o q=>k _ _ (.inl rfl) q,⟨o,k _ _ (.inl rfl) e⟩,st⟩
 | memo ls=>
   obtain⟨⟨o,e⟩,n,hn,q⟩:=x
   refine⟨⟨o,k _ _ (.inl rfl) e⟩,n,hn,q.kp kp fun b u hb=>k b u ?_⟩
   rcases hb with z | z
   . exact .inl z
   . exact .inr (.inr z)
 | iL ls ns=>
   obtain⟨⟨o,e⟩,q⟩:=x
   refine⟨⟨o,k _ _ (.inl rfl) e⟩,q.kp kp fun b u hb=>k b u ?_⟩
   rcases hb with z | z
   . exact .inl z
   . exact .inr (.inr z)
 | part y=>obtain⟨o,e⟩:=x;exact⟨o,k _ _ (.inl rfl) e⟩
 | kd tg ob kvs=>
   obtain⟨e,⟨z,y,vs,r,IL,es,ep,e',c⟩,q⟩:=x
   refine⟨k _ _ (.inl rfl) e,⟨z,y,vs,r,IL,es,ep,k _ _ (.inl rfl) e',c⟩,fun p i ht=>?_⟩
   obtain⟨q1,q2⟩:=q p i ht
   exact⟨kp.mem _ q1,hl p i _ q1 q2⟩
 | kx ob u ih=>obtain⟨e,q⟩:=x;exact⟨k _ _ (.inl rfl) e,ih q⟩
theorem aM.oT (x:aM P w H h a o)(k:∀ b u,(b=a\/H b=some (.own a)\/g8 (H b))->h.get? b=some u->h'.get? b=some u)(ho:∀ b,H b=some (.own a)->H' b=some (.own a))(ht:∀ b xs,H b=some (.tup xs)->H' b=some (.tup xs))(kp:Kp H H'):aM P w H' h' a o:=
 x.CN (fun b u hb=>k b u (by
   rcases hb with z | z | z
   . exact .inl z
   . exact .inr (.inl z)
   . exact .inr (.inr (by rw[z];trivial)))) ho ht kp fun p i c hm ⟨aF,n,e,q⟩=>⟨aF,n,k p _ (.inr (.inr hm)) e,q⟩
theorem gj.lt (x:gj P w H h)(e:H a=some o):a < h.objs.size:=(x a o e).lt
theorem gj.fresh (x:gj P w H h)(e:h.objs.size<=a):H a=none:=by
 cases q:H a with
 | none=>rfl
 | some u=>exact absurd (K2 (x.lt q) e) (Mc _)
theorem gj.kept (x:gj P w H h)(k:∀ b u,h.get? b=some u->h'.get? b=some u):gj P w H h':=fun a o e=>
 (x a o e).oT (fun b u _ q=>k b u q) (fun _ q=>q) (fun _ _ q=>q) .refl
theorem gj.laid (x:gj P w H h)(k:∀ b u,h.get? b=some u->h'.get? b=some u)(hp:h.objs.size<=a)(new:aM P w (upd H a o) h' a o):gj P w (upd H a o) h':=fun b u e=>by
 have hn:=x.fresh hp
 by_cases hb:b=a
 . subst hb;rw[ak] at e;cases e;exact new
 . rw[aj hb] at e
   exact(x b u e).oT (fun c v _ q=>k c v q) (fun c q=>by rw[aj (ao q hn)];exact q) (fun c xs q=>by rw[aj (ao q hn)];exact q) (.of fun c u q=>by rw[aj (ao q hn)];exact q)
end
def Rd (H:Hp)(a:Addr)(u:HO):Prop:=H a=some u\/(∃ o,H a=some (.a7 o u))\/(∃ tg o kvs,H a=some (.kd tg o kvs)/\u=.dK kvs)\/∃ o,H a=some (.kx o u)
theorem Rd.of {H:Hp}{a:Addr}{u:HO}(h:H a=some u):Rd H a u:=.inl h
theorem Rd.ok {P:Program}{w:World}{H:Hp}{h:Heap}{a:Addr}{u:HO}(r:Rd H a u)(x:gj P w H h):aM P w H h a u:=by
 rcases r with r | ⟨o,r⟩ | ⟨tg,o,kvs,r,rfl⟩ | ⟨o,r⟩
 . exact x a u r
 . obtain⟨_,q⟩:=x a _ r
   exact q
 . obtain⟨_,q,_⟩:=x a _ r
   exact q
 . obtain⟨_,q⟩:=x a _ r
   exact q
def CA:Option HO->Prop
 | some (.lst _)=>True
 | some (.dK _)=>True
 | some (.dT _)=>True
 | some (.set _ _)=>True
 | some (.ins _ _ _)=>True
 | some (.ext _)=>True
 | _=>False
section
variable {P:Program}{w:World}{H:Hp}{h h':Heap}{x e:Addr}{o':HO}
theorem gj.write (ok:gj P w H h)(mu:CA (H x))(he:e=x\/H e=some (.own x))(k:∀ b u,b≠e->h.get? b=some u->h'.get? b=some u)(CB:∃ u,h'.get? e=some u)(new:aM P w (upd H x o') h' x o'):gj P w (upd H x o') h':=fun b u q=>by
 have lS:∀ c y,H c=some (.own y)->c≠x:=fun c y r z=>by subst z;rw[r] at mu;exact mu
 have FF:∀ c xs,H c=some (.tup xs)->c≠x:=fun c xs r z=>by subst z;rw[r] at mu;exact mu
 by_cases hb:b=x
 . subst hb;rw[ak] at q;cases q;exact new
 . rw[aj hb] at q
   by_cases rF:b=e
   . have q':H b=some (.own x):=by
       rcases he with z | z
       . exact absurd (rF.trans z) hb
       . rw[rF];exact z
     rw[q] at q';cases q'
     obtain⟨v,hv⟩:=CB
     exact⟨v,by rw[rF];exact hv⟩
   . have HA:∀ c u,H c=some u->¬ CA (some u)->c≠x:=fun c u r nm z=>by subst z;rw[r] at mu;exact nm mu
     have HB:∀ c,g8 (H c)->c≠x:=fun c r z=>by
       subst z
       cases qq:H c with
       | none=>rw[qq] at r;exact r
       | some u=>rw[qq] at r mu;cases u <;> first | exact mu | exact r
     refine(ok b u q).oT (fun c v hc r=>k c v ?_ r) (fun c r=>by rw[aj (lS c b r)];exact r) (fun c xs r=>by rw[aj (FF c xs r)];exact r) ⟨fun c u r kq=>by rw[aj (HA c _ r (by cases u <;> first | exact(show False from kq).elim | exact fun z=>z))];exact r,fun c r=>by rw[aj (HB c r)];exact r,fun c y r=>by rw[aj (HA c _ r fun z=>z)];exact r⟩
     rcases hc with rfl | hc | hc
     . exact rF
     . rintro rfl
       rcases he with z | z
       . exact lS c b hc z
       . rw[hc] at z;cases z;exact hb rfl
     . rintro rfl
       rcases he with z | z
       . exact HB c hc z
       . rw[z] at hc;exact hc
end
structure Un (fs ex:List Addr)(H H':Hp)(h h':Heap):Prop where
 keep:∀ b o,h.get? b=some o->H b=none->b ∉ fs->b ∉ ex->h'.get? b=some o
 slot:∀ b o,h.get? b=some o->H b=none->b∈fs->b ∉ ex->∃ sl,h'.get? b=some { o with slots:=sl}
 free:∀ b o,h.get? b=some o->H b=none->b ∉ ex->H' b=none
 there:∀ b o,h.get? b=some o->b ∉ ex->∃ o',h'.get? b=some o'
 nq:∀ b xs,H b=some (.tup xs)->H' b=some (.tup xs)
 lT:∀ b o u,H b=some (.a7 o u)->H' b=some (.a7 o u)
 nr:∀ b ps,H b=some (.An ps)->∃ more,H' b=some (.An (ps ++ more))
section
variable {fs ex:List Addr}{H H1:Hp}{h h1 h':Heap}{a x e:Addr}{o:HO}
theorem Un.any (u:Un fs ex H H1 h h1){b:Addr}{ob:Obj}(q:h.get? b=some ob)(n:H b=none)(hx:b ∉ ex):∃ sl,h1.get? b=some { ob with slots:=sl}:=by
 by_cases hb:b∈fs
 . exact u.slot b ob q n hb hx
 . exact⟨ob.slots,u.keep b ob q n hb hx⟩
theorem Un.kept (k:∀ b u,h.get? b=some u->h'.get? b=some u):Un fs ex H H h h':=
 ⟨fun b ob q _ _ _=>k b ob q,fun b ob q _ _ _=>⟨ob.slots,k b ob q⟩,fun _ _ _ n _=>n,fun b ob q _=>⟨ob,k b ob q⟩,fun _ _ q=>q,fun _ _ _ q=>q,fun _ ps q=>⟨#[],by rw[q];simp⟩⟩
theorem Un.refl:Un fs ex H H h h:=Un.kept fun _ _ q=>q
theorem Un.laid (k:∀ b u,h.get? b=some u->h'.get? b=some u)(hp:h.objs.size<=a)(hn:H a=none):Un fs ex H (upd H a o) h h' where
 keep:=fun b u q _ _ _=>k b u q
 slot:=fun b u q _ _ _=>⟨u.slots,k b u q⟩
 free:=fun b u q n _=>by rw[aj (Lq (K2 (KJ q) hp))];exact n
 there:=fun b u q _=>⟨u,k b u q⟩
 nq:=fun b xs q=>by rw[aj (ao q hn)];exact q
 lT:=fun b u xs q=>by rw[aj (ao q hn)];exact q
 nr:=fun b ps q=>⟨#[],by rw[aj (ao q hn),q];simp⟩
theorem Un.write (mu:CA (H x))(he:e=x\/H e=some (.own x))(k:∀ b u,b≠e->h.get? b=some u->h'.get? b=some u)(CB:∃ u,h'.get? e=some u):Un fs ex H (upd H x o) h h':=by
 have hx:∀ b,H b=none->b≠x:=fun b n z=>by subst z;rw[n] at mu;exact mu
 have hb:∀ b,H b=none->b≠e:=fun b n z=>by
   subst z
   rcases he with r | r
   . exact hx b n r
   . rw[n] at r;cases r
 have hm:∀ b u,H b=some u->¬ CA (some u)->b≠x:=fun b u q nm z=>by subst z;rw[q] at mu;exact nm mu
 refine⟨fun b u q n _ _=>k b u (hb b n) q,fun b u q n _ _=>⟨u.slots,k b u (hb b n) q⟩,fun b u q n _=>by rw[aj (hx b n)];exact n,fun b u q _=>?_,
   fun b xs q=>by rw[aj (hm b _ q fun z=>z)];exact q,fun b u xs q=>by rw[aj (hm b _ q fun z=>z)];exact q,fun b ps q=>⟨#[],by rw[aj (hm b _ q fun z=>z),q];simp⟩⟩
 by_cases rF:b=e
 . subst rF;exact CB
 . exact⟨u,k b u rF q⟩
end
noncomputable def EH (h:Heap)(H:Hp):List Addr:=(Lp h.objs.size).filter fun a=>(H a).isSome
noncomputable def lU (h:Heap)(H:Hp):Heap:=PySem.W.hideAll h (EH h H)
theorem rG (h:Heap)(H:Hp):(lU h H).objs.size=h.objs.size:=W.hideAll_size _ _
theorem tQ {h:Heap}{H:Hp}{b:Addr}{o:Obj}(e:h.get? b=some o)(n:H b=none):(lU h H).get? b=some o:=
 W.hideAll_get _ e fun hm=>by
   have q:(H b).isSome=true:=(List.mem_filter.mp hm).2
   rw[n] at q;simp at q
theorem xI {h:Heap}{H:Hp}{b:Addr}{o:Obj}(e:(lU h H).get? b=some o):h.get? b=some o/\H b=none:=by
 have e':h.get? b=some o:=W.of_hideAll (EH h H) e
 refine⟨e',?_⟩
 cases q:H b with
 | none=>rfl
 | some x=>
   have hm:b∈EH h H:=List.mem_filter.mpr ⟨LU.mpr (KJ e'),by simp[q]⟩
   have z:(lU h H).get? b=none:=W.hideAll_none (EH h H) hm
   rw[z] at e;cases e
noncomputable def xJ (g h:Heap)(L:Addr):List (Addr×Obj):=(Lp h.objs.size).filterMap fun a=>if a=L\/(g.get? a).isSome=true then none else (h.get? a).map fun o=>(a,o)
noncomputable def rest (g h:Heap)(L d:Addr):List (Addr×Obj):=(xJ g h L).filter fun p=>decide (p.1≠d)
structure Mod (K:W.Frag)(mg:Str->Option Value)(base:Heap):Prop where
 CO:K.In base
 glob:base.Ns mainGlobals mg
 blt:∃ mb,base.Ns builtinsNs mb/\∀ x:Str,x≠"__name__"->mb x=bootBuiltins x
 nolimit:base.NoLimit
structure Cx where
 prog:Program
 w:World
 K:W.Frag
 mg:Str->Option Value
 base:Heap
 A:Around
 N:List Str
 s₀:Shared
 H₀:Hp
 env:Env
 outer:List Env
 stack:List Env
 ex:List Addr
 fn:Str->Bool
 calm:Bool
 pn:List (Addr×Obj)
 xe:Value->Shared->Prop
noncomputable def tR (l:List Env):List Addr:=l.filterMap (·.frame)
noncomputable abbrev Cx.fs (X:Cx):List Addr:=tR X.outer
def nu (sc:Scope)(x:Str):Prop:=sc.names.lookup x=some .local\/sc.names.lookup x=some .cell\/sc.names.lookup x=some .free
def Loc (sc:Scope)(x:Str):Prop:=sc.names.lookup x=some .local\/sc.names.lookup x=some .cell
def Look (env:Env)(h:Heap)(m:Str->Option Value)(x:Str)(u:Value):Prop:=
 (env.kindOf x=some .local/\m x=some u)\/((env.kindOf x=some .cell\/env.kindOf x=some .free)/\∃ c,env.cells.lookup x=some c/\h.IsCell c (some u))
structure Cx.Ok (X:Cx):Prop where
 mod:Mod X.K X.mg X.base
 kind:X.env.scope.kind=.function
 glob:X.env.globals=mainGlobals
 blt:X.env.builtins=builtinsNs
 above:X.s₀.heap.objs.size<=X.env.locals
 inj:∀ x y c,X.env.cells.lookup x=some c->X.env.cells.lookup y=some c->x=y
 has:∀ x,(X.env.kindOf x=some .cell\/X.env.kindOf x=some .free)->∃ c,X.env.cells.lookup x=some c
 CP:∀ x c,X.fn x=true->X.env.cells.lookup x=some c->X.s₀.heap.objs.size<=c
 hd:X.calm=true->X.A.handled=none
 frames:X.A.frames=some X.stack
 EI:X.stack=X.outer\/(X.stack=X.env::X.outer/\X.env.frame=some X.env.locals)
 CC:∀ b∈X.ex,b≠X.env.locals/\∀ x c,X.env.cells.lookup x=some c->c≠b
 bs:∀ b o,X.base.get? b=some o->X.s₀.heap.get? b=some o/\X.H₀ b=none
 tS:X.base.objs.size<=X.s₀.heap.objs.size
 rH:∀ b o,X.base.get? b=some o->b ∉ X.ex
 rJ:∀ b∈X.ex,b ∉ X.fs
 iU:X.s₀.heap.FunFrames X.base X.outer
 Aq:∀ b∈X.fs,X.H₀ b=none
structure Inv (X:Cx)(pins:List (Addr×Obj))(σ:List (Option V))(H:Hp)(s:Shared):Prop where
 ok:X.Ok
 os:s.os=X.s₀.os
 bare:AllBare s.gens
 base:Un X.fs X.ex X.H₀ H X.s₀.heap s.heap
 loc:∃ m,s.heap.Ns X.env.locals m/\∀ (i:Nat) (x:Str) (v:V),X.N[i]?=some x->σ[i]?=some (some v)->nu X.env.scope x->∃ u,RelV v u/\Look X.env s.heap m x u
 cell:∀ x c,X.env.cells.lookup x=some c->∃ v,s.heap.IsCell c v
 free:H X.env.locals=none
 gm:∀ x c,X.env.cells.lookup x=some c->H c=none
 pin:∀ p∈X.pn ++ pins,s.heap.get? p.1=some p.2/\H p.1=none/\p.1≠X.env.locals/\p.1 ∉ X.fs/\∀ v,p.2.data≠.cell v
 aO:gj X.prog X.w H s.heap
 len:σ.length=X.N.length
section
variable {X:Cx}{pins:List (Addr×Obj)}{σ:List (Option V)}{H H':Hp}{s:Shared}{h':Heap}
theorem Cx.Ok.CQ (ok:X.Ok){b:Addr}{o:Obj}(e:X.base.get? b=some o):b ∉ X.fs:=fun hb=>by
 have:=(ok.iU.mem hb).1
 rw[e] at this;cases this
theorem Inv.bs (I:Inv X pins σ H s):∀ b o,X.base.get? b=some o->s.heap.get? b=some o/\H b=none:=fun b o e=>
 ⟨I.base.keep b o (I.ok.bs b o e).1 (I.ok.bs b o e).2 (I.ok.CQ e) (I.ok.rH b o e),I.base.free b o (I.ok.bs b o e).1 (I.ok.bs b o e).2 (I.ok.rH b o e)⟩
theorem Inv.bk (I:Inv X pins σ H s):∀ b o,X.base.get? b=some o->s.heap.get? b=some o:=fun b o e=>(I.bs b o e).1
theorem Inv.mod (I:Inv X pins σ H s):Mod X.K X.mg X.base:=I.ok.mod
theorem Inv.dW (I:Inv X pins σ H s):X.K.In s.heap:=I.ok.mod.CO.keeps I.bk
theorem Inv.lt (I:Inv X pins σ H s):X.env.locals < s.heap.objs.size:=let ⟨_,hn,_⟩:=I.loc;hn.lt
theorem Inv.sz (I:Inv X pins σ H s):X.s₀.heap.objs.size<=s.heap.objs.size:=LA I.ok.above (My I.lt)
theorem Inv.FH (I:Inv X pins σ H s){a:Addr}(h:s.heap.objs.size<=a):a ∉ X.fs:=fun hb=>by
 obtain⟨_,o,ho,_⟩:=I.ok.iU.mem hb
 exact absurd (K2 (KJ ho) (LA I.sz h)) (Mc _)
theorem Inv.rK (I:Inv X pins σ H s):∀ x c,X.env.cells.lookup x=some c->c≠X.env.locals:=fun x c e z=>by
 obtain⟨v,o,ho,hd⟩:=I.cell x c e
 obtain⟨m,⟨o',es,ep,tT,FI,_⟩,_⟩:=I.loc
 rw[z,tT] at ho;cases ho;rw[FI] at hd;cases hd
theorem Inv.iU (I:Inv X pins σ H s):s.heap.FunFrames X.base X.outer:=by
 have all:∀ (l:List Env),(∀ b∈tR l,b∈X.fs)->X.s₀.heap.FunFrames X.base l->s.heap.FunFrames X.base l:=by
   intro l
   induction l with
   | nil=>intro _ _;trivial
   | cons env r ih=>
     intro hs hl
     obtain⟨hk,⟨L,o,hf,hn,ho,hd⟩,hr⟩:=hl
     have hL:L∈X.fs:=hs L (by unfold tR;rw[ML,hf];exact Lu)
     obtain⟨sl,e⟩:=I.base.slot L o ho (I.ok.Aq L hL) hL fun z=>I.ok.rJ L z hL
     exact⟨hk,⟨L,_,hf,hn,e,hd⟩,ih (fun b hb=>hs b (by unfold tR;rw[ML,hf];exact KY _ hb)) hr⟩
 exact all X.outer (fun _ hb=>hb) I.ok.iU
theorem Inv.stack (I:Inv X pins σ H s):s.heap.FunFrames X.base X.stack:=by
 rcases I.ok.EI with e | ⟨e,hf⟩
 . rw[e];exact I.iU
 . rw[e]
   obtain⟨m,hn,_⟩:=I.loc
   refine .cons (by rw[I.ok.kind];decide) hf hn ?_ I.iU
   exact Heap.get?_none_of_le (LA I.ok.tS I.ok.above)
theorem Inv.lV (I:Inv X pins σ H s):∀ b∈tR X.stack,b∈X.env.locals::X.fs:=fun b hb=>by
 rcases I.ok.EI with e | ⟨e,hf⟩
 . rw[e] at hb;exact KY _ hb
 . rw[e] at hb
   unfold tR at hb
   rw[ML,hf] at hb
   exact hb
theorem Inv.lW (I:Inv X pins σ H s):∀ b∈tR X.stack,H b=none:=fun b hb=>by
 rcases K4.mp (I.lV b hb) with e | hb
 . rw[e];exact I.free
 . obtain⟨_,o,ho,_⟩:=I.ok.iU.mem hb
   exact I.base.free b o ho (I.ok.Aq b hb) fun z=>I.ok.rJ b z hb
theorem Inv.step {g':Array GenState}{t':Nat}{d':Drawn}{ch:List Addr}(I:Inv X pins σ H s)(iM:∀ b∈ch,(b∈X.ex\/X.s₀.heap.objs.size<=b)/\b≠X.env.locals/\(∀ x c,X.env.cells.lookup x=some c->c≠b)/\∀ p∈X.pn ++ pins,p.1≠b)(keep:∀ b o,b≠X.env.locals->b ∉ X.fs->b ∉ ch->s.heap.get? b=some o->H b=none->h'.get? b=some o)(slot:∀ b o,b≠X.env.locals->b∈X.fs->b ∉ ch->s.heap.get? b=some o->H b=none->∃ sl,h'.get? b=some { o with slots:=sl})(free:∀ b o,b ∉ ch->s.heap.get? b=some o->H b=none->H' b=none)(there:∀ b o,b ∉ ch->s.heap.get? b=some o->∃ o',h'.get? b=some o')(nq:∀ b xs,H b=some (.tup xs)->H' b=some (.tup xs))(lT:∀ b o u,H b=some (.a7 o u)->H' b=some (.a7 o u))(nr:∀ b ps,H b=some (.An ps)->∃ more,H' b=some (.An (ps ++ more)))(ns:∀ m,s.heap.Ns X.env.locals m->h'.Ns X.env.locals m)(aO:gj X.prog X.w H' h')(hg:AllBare g'):Inv X pins σ H' { s with heap:=h',gens:=g',drawn:=d',toks:=t'}:=by
 have HC:∀ b o,X.s₀.heap.get? b=some o->b≠X.env.locals:=fun b o e=>Lq (K2 (KJ e) I.ok.above)
 have EJ:∀ b o,X.s₀.heap.get? b=some o->b ∉ X.ex->b ∉ ch:=fun b o e hx hb=>by
   rcases (iM b hb).1 with z | z
   . exact hx z
   . exact absurd (K2 (KJ e) z) (Mc _)
 have cellK:∀ x c,X.env.cells.lookup x=some c->∀ v,s.heap.IsCell c v->h'.IsCell c v:=fun x c e v ⟨o,ho,hd⟩=>by
   have CS:c ∉ ch:=fun z=>(iM c z).2.2.1 x c e rfl
   by_cases hc:c∈X.fs
   . obtain⟨sl,q⟩:=slot c o (I.rK x c e) hc CS ho (I.gm x c e)
     exact⟨_,q,hd⟩
   . exact⟨o,keep c o (I.rK x c e) hc CS ho (I.gm x c e),hd⟩
 refine⟨I.ok,I.os,hg,⟨fun b o e n hb hx=>?_,fun b o e n hb hx=>?_,fun b o e n hx=>?_,fun b o e hx=>?_,fun b xs e=>nq b xs (I.base.nq b xs e),fun b o xs e=>lT b o xs (I.base.lT b o xs e),fun b ps e=>?_⟩,?_,fun x c e=>?_,?_,fun x c e=>?_,fun p hp=>?_,aO,I.len⟩
 . exact keep b o (HC b o e) hb (EJ b o e hx) (I.base.keep b o e n hb hx) (I.base.free b o e n hx)
 . obtain⟨sl,e1⟩:=I.base.slot b o e n hb hx
   obtain⟨IM,e2⟩:=slot b _ (HC b o e) hb (EJ b o e hx) e1 (I.base.free b o e n hx)
   exact⟨IM,e2⟩
 . obtain⟨o',e1⟩:=I.base.there b o e hx
   exact free b o' (EJ b o e hx) e1 (I.base.free b o e n hx)
 . obtain⟨o',e1⟩:=I.base.there b o e hx
   exact there b o' (EJ b o e hx) e1
 . obtain⟨m1,e1⟩:=I.base.nr b ps e
   obtain⟨m2,e2⟩:=nr b _ e1
   exact⟨m1 ++ m2,by rw[e2,Array.append_assoc]⟩
 . obtain⟨m,hn,hl⟩:=I.loc
   refine⟨m,ns m hn,fun i x v e1 e2 e3=>?_⟩
   obtain⟨u,r,l⟩:=hl i x v e1 e2 e3
   refine⟨u,r,?_⟩
   rcases l with l | ⟨k,c,e,z⟩
   . exact .inl l
   . exact .inr ⟨k,c,e,cellK x c e _ z⟩
 . obtain⟨v,z⟩:=I.cell x c e
   exact⟨v,cellK x c e v z⟩
 . obtain⟨m,⟨o,_,_,ho,_⟩,_⟩:=I.loc
   exact free _ o (fun z=>(iM _ z).2.1 rfl) ho I.free
 . obtain⟨v,o,ho,hd⟩:=I.cell x c e
   exact free c o (fun z=>(iM c z).2.2.1 x c e rfl) ho (I.gm x c e)
 . obtain⟨e,n,ne,nf,d⟩:=I.pin p hp
   have CS:p.1 ∉ ch:=fun z=>(iM p.1 z).2.2.2 p hp rfl
   exact⟨keep p.1 p.2 ne nf CS e n,free p.1 p.2 CS e n,ne,nf,d⟩
theorem Inv.un {t':Nat}(I:Inv X pins σ H s)(u:Un X.fs [] H H' s.heap h')(aO:gj X.prog X.w H' h'):Inv X pins σ H' { s with heap:=h',toks:=t'}:=by
 obtain⟨m,⟨o,es,ep,ho,r⟩,_⟩:=id I.loc
 obtain⟨sl,hL⟩:=u.any ho I.free (by simp)
 exact I.step (g':=s.gens) (d':=s.drawn) (ch:=[]) (fun _ z=>nomatch z) (fun b o _ hb _ e n=>u.keep b o e n hb (by simp)) (fun b o _ hb _ e n=>u.slot b o e n hb (by simp)) (fun b o _ e n=>u.free b o e n (by simp)) (fun b o _ e=>u.there b o e (by simp)) u.nq u.lT u.nr (fun m' hm=>by
   obtain⟨o',FJ,FK,tT,r'⟩:=hm
   rw[ho] at tT;cases tT
   exact⟨_,FJ,FK,hL,r'⟩) aO I.bare
theorem Inv.call {g':Array GenState}{t':Nat}{d':Drawn}{ch:List Addr}(I:Inv X pins σ H s)(u:Un (tR X.stack) ch H H' s.heap h')(aO:gj X.prog X.w H' h')(hg:AllBare g')(iM:∀ b∈ch,(b∈X.ex\/X.s₀.heap.objs.size<=b)/\b≠X.env.locals/\(∀ x c,X.env.cells.lookup x=some c->c≠b)/\∀ p∈X.pn ++ pins,p.1≠b):Inv X pins σ H' { s with heap:=h',gens:=g',drawn:=d',toks:=t'}:=by
 obtain⟨m,⟨o,es,ep,ho,r⟩,_⟩:=id I.loc
 obtain⟨sl,hL⟩:=u.any ho I.free fun z=>(iM _ z).2.1 rfl
 exact I.step (ch:=ch) iM (fun b o hL hb hc e n=>u.keep b o e n (fun z=>(K4.mp (I.lV b z)).elim hL hb) hc) (fun b o _ _ hc e n=>u.any e n hc) (fun b o hc e n=>u.free b o e n hc) (fun b o hc e=>u.there b o e hc) u.nq u.lT u.nr (fun m' hm=>by
   obtain⟨o',FJ,FK,tT,r'⟩:=hm
   rw[ho] at tT;cases tT
   exact⟨_,FJ,FK,hL,r'⟩) aO hg
theorem Inv.turned {t':Nat}{it:Addr}(I:Inv X pins σ H s)(k:∀ b o,b≠it->s.heap.get? b=some o->h'.get? b=some o)(hn:H it=none)(hL:it≠X.env.locals)(h1:it∈X.ex\/X.s₀.heap.objs.size<=it)(h2:∀ x c,X.env.cells.lookup x=some c->c≠it)(h3:∀ p∈X.pn ++ pins,p.1≠it):Inv X pins σ H { s with heap:=h',toks:=t'}:=by
 have zG:∀ b u,H b=some u->b≠it:=fun b u e z=>by rw[z,hn] at e;cases e
 refine I.step (g':=s.gens) (d':=s.drawn) (ch:=[it]) (fun b hb=>?_) (fun b o _ _ hc e _=>k b o (fun z=>hc (by simp[z])) e) (fun b o _ _ hc e _=>⟨o.slots,k b o (fun z=>hc (by simp[z])) e⟩) (fun _ _ _ _ n=>n)
   (fun b o hc e=>⟨o,k b o (fun z=>hc (by simp[z])) e⟩) (fun _ _ e=>e) (fun _ _ _ e=>e) (fun b ps e=>⟨#[],by rw[e];simp⟩) (fun m hm=>?_) (fun b u e=>?_) I.bare
 . have e:b=it:=by simpa using hb
   subst e
   exact⟨h1,hL,h2,h3⟩
 . obtain⟨o,es,ep,ho,r⟩:=hm
   exact⟨o,es,ep,k _ o (Ne.symm hL) ho,r⟩
 . refine(I.aO b u e).oT (fun c v hc q=>k c v ?_ q) (fun _ q=>q) (fun _ _ q=>q) .refl
   rcases hc with z | z | z
   . rw[z];exact zG b u e
   . exact zG c _ z
   . exact fun z'=>by rw[z',hn] at z;exact z
theorem Inv.tok (I:Inv X pins σ H s)(t:Nat):Inv X pins σ H { s with toks:=t}:=I.un (h':=s.heap) (t':=t) Un.refl I.aO
theorem Inv.kept {t':Nat}(I:Inv X pins σ H s)(k:∀ b u,s.heap.get? b=some u->h'.get? b=some u):Inv X pins σ H { s with heap:=h',toks:=t'}:=I.un (Un.kept k) (I.aO.kept k)
theorem Inv.laid {a:Addr}{o:HO}{t':Nat}(I:Inv X pins σ H s)(k:∀ b u,s.heap.get? b=some u->h'.get? b=some u)(hp:s.heap.objs.size<=a)(new:aM X.prog X.w (upd H a o) h' a o):Inv X pins σ (upd H a o) { s with heap:=h',toks:=t'}:=I.un (Un.laid k hp (I.aO.fresh hp)) (I.aO.laid k hp new)
theorem Inv.write {x e:Addr}{o:HO}{t':Nat}(I:Inv X pins σ H s)(mu:CA (H x))(he:e=x\/H e=some (.own x))(k:∀ b u,b≠e->s.heap.get? b=some u->h'.get? b=some u)(CB:∃ u,h'.get? e=some u)(new:aM X.prog X.w (upd H x o) h' x o):Inv X pins σ (upd H x o) { s with heap:=h',toks:=t'}:=I.un (Un.write mu he k CB) (I.aO.write mu he k CB new)
theorem Inv.qc {tU:List (Addr×Obj)}(I:Inv X pins σ H s)(h:∀ p∈tU,s.heap.get? p.1=some p.2/\H p.1=none/\p.1≠X.env.locals/\p.1 ∉ X.fs/\∀ v,p.2.data≠.cell v):Inv X tU σ H s:=
 ⟨I.ok,I.os,I.bare,I.base,I.loc,I.cell,I.free,I.gm,fun p hp=>(Me.mp hp).elim (fun z=>I.pin p (MG _ z)) (h p),I.aO,I.len⟩
theorem nv {N:List Str}(hN:N.Nodup){i j:Nat}{x:Str}(a:N[i]?=some x)(b:N[j]?=some x):i=j:=by
 obtain⟨h1,e1⟩:=KP.mp a
 obtain⟨h2,e2⟩:=KP.mp b
 exact(List.getElem_inj hN).mp (e1.trans e2.symm)
theorem kW {M:Model}{A:Around}{E:Value->Shared->Prop}{i:Nat}{x:Str}{v:V}{u:Value}{Q:Unit->Shared->Prop}(I:Inv X pins σ H s)(hN:X.N.Nodup)(hi:X.N[i]?=some x)(hx:Loc X.env.scope x)(r:RelV v u)(h:∀ s',Inv X pins (σ.set i (some v)) H s'->(∃ a,Ma a s.heap s'.heap/\(a=X.env.locals\/X.env.cells.lookup x=some a))->Q () s')(hf:X.fn x=true\/X.env.scope.names.lookup x=some .local:=by first | exact .inl rfl | exact .inr rfl | assumption):wpAny M A (storeName X.env x u) Q E s:=by
 obtain⟨m,hn,hl⟩:=id I.loc
 have FN:(X.env.scope.kind == .class || (X.env.scope.kind == .module && X.env.locals != X.env.globals))=false:=by rw[I.ok.kind];rfl
 have HD:i < σ.length:=by rw[I.len];exact(KP.mp hi).1
 have rK:=I.rK
 have tracked:∀ {a:Addr} {h':Heap},(∃ o,s.heap.get? a=some o/\H a=none)->Ma a s.heap h'->gj X.prog X.w H h':=fun {a h'} ha hs b ob e=>by
   obtain⟨_,_,tV⟩:=ha
   refine(I.aO b ob e).oT (fun c w' hc q=>(hs.2 c ?_).trans q) (fun _ q=>q) (fun _ _ q=>q) .refl
   rintro rfl
   rcases hc with rfl | hc | hc
   . rw[tV] at e;cases e
   . rw[tV] at hc;cases hc
   . rw[tV] at hc;exact hc
 rcases hx with hk | hk
 . refine wpAny_storeName_local hk hn (fun h' IP hs=>?_) FN
   obtain⟨oL,_,_,IQ,_⟩:=id hn
   refine h _ ⟨I.ok,I.os,I.bare,⟨fun b o e n hb hx=>?_,fun b o e n hb hx=>?_,I.base.free,fun b o e hx=>?_,I.base.nq,I.base.lT,I.base.nr⟩,⟨_,IP,fun j y v' e1 e2 e3=>?_⟩,fun y c e=>?_,I.free,I.gm,fun p hp=>?_,tracked ⟨oL,IQ,I.free⟩ hs,by simpa using I.len⟩ ⟨_,hs,.inl rfl⟩
   . exact(hs.2 b (Lq (K2 (KJ e) I.ok.above))).trans (I.base.keep b o e n hb hx)
   . obtain⟨sl,e1⟩:=I.base.slot b o e n hb hx
     exact⟨sl,(hs.2 b (Lq (K2 (KJ e) I.ok.above))).trans e1⟩
   . obtain⟨o',e1⟩:=I.base.there b o e hx
     exact⟨o',(hs.2 b (Lq (K2 (KJ e) I.ok.above))).trans e1⟩
   . by_cases hj:j=i
     . subst hj
       rw[hi] at e1;cases e1
       rw[Ja HD] at e2
       cases e2
       exact⟨u,r,.inl ⟨hk,by simp⟩⟩
     . rw[J4 (Ne.symm hj)] at e2
       obtain⟨u',r',q⟩:=hl j y v' e1 e2 e3
       refine⟨u',r',?_⟩
       rcases q with⟨k,e⟩ | ⟨k,c,e,z⟩
       . refine .inl ⟨k,?_⟩
         have:y≠x:=fun e=>hj (nv hN e1 (e ▸ hi))
         simp[this,e]
       . exact .inr ⟨k,c,e,z.sameBut hs (rK y c e)⟩
   . obtain⟨w',z⟩:=I.cell y c e
     exact⟨w',z.sameBut hs (rK y c e)⟩
   . obtain⟨e,n,ne,nf,d⟩:=I.pin p hp
     exact⟨(hs.2 p.1 ne).trans e,n,ne,nf,d⟩
 . have FO:X.fn x=true:=by
     rcases hf with z | z
     . exact z
     . rw[z] at hk;cases hk
   obtain⟨c,hc⟩:=I.ok.has x (.inl hk)
   obtain⟨w',z⟩:=I.cell x c hc
   refine wpAny_storeName_cell I.ok.kind hk hc z (fun h' oU hs=>?_)
   obtain⟨oc,xC,FP⟩:=id z
   refine h { s with heap:=h'} ⟨I.ok,I.os,I.bare,⟨fun b o e n hb hx=>?_,fun b o e n hb hx=>?_,I.base.free,fun b o e hx=>?_,I.base.nq,I.base.lT,I.base.nr⟩,⟨m,hn.sameBut hs (Ne.symm (rK x c hc)),fun j y v' e1 e2 e3=>?_⟩,fun y c' e=>?_,I.free,I.gm,fun p hp=>?_,tracked ⟨oc,xC,I.gm x c hc⟩ hs,by simpa using I.len⟩ ⟨c,hs,.inr hc⟩
   . exact(hs.2 b (Lq (K2 (KJ e) (I.ok.CP x c FO hc)))).trans (I.base.keep b o e n hb hx)
   . obtain⟨sl,e1⟩:=I.base.slot b o e n hb hx
     exact⟨sl,(hs.2 b (Lq (K2 (KJ e) (I.ok.CP x c FO hc)))).trans e1⟩
   . obtain⟨o',e1⟩:=I.base.there b o e hx
     exact⟨o',(hs.2 b (Lq (K2 (KJ e) (I.ok.CP x c FO hc)))).trans e1⟩
   . by_cases hj:j=i
     . subst hj
       rw[hi] at e1;cases e1
       rw[Ja HD] at e2
       cases e2
       exact⟨u,r,.inr ⟨.inl hk,c,hc,oU⟩⟩
     . rw[J4 (Ne.symm hj)] at e2
       obtain⟨u',r',q⟩:=hl j y v' e1 e2 e3
       refine⟨u',r',?_⟩
       rcases q with q | ⟨k,c',e,z'⟩
       . exact .inl q
       . refine .inr ⟨k,c',e,z'.sameBut hs ?_⟩
         rintro rfl
         exact hj (nv hN e1 (I.ok.inj _ _ _ e hc ▸ hi))
   . by_cases HE:c'=c
     . subst HE;exact⟨_,oU⟩
     . obtain⟨w2,z2⟩:=I.cell y c' e
       exact⟨w2,z2.sameBut hs HE⟩
   . obtain⟨e,n,ne,nf,d⟩:=I.pin p hp
     refine⟨(hs.2 p.1 ?_).trans e,n,ne,nf,d⟩
     intro q
     rw[q,xC] at e
     have q':oc=p.2:=Option.some.inj e
     exact d w' (by rw[<- q'];exact FP)
theorem ny {M:Model}{A:Around}{E:Value->Shared->Prop}{i:Nat}{x:Str}{v:V}{u:Value}{Q:Unit->Shared->Prop}(I:Inv X pins σ H s)(hN:X.N.Nodup)(hi:X.N[i]?=some x)(hx:Loc X.env.scope x)(r:RelV v u)(h:∀ s',Inv X pins (σ.set i (some v)) H s'->Q () s')(hf:X.fn x=true\/X.env.scope.names.lookup x=some .local:=by first | exact .inl rfl | exact .inr rfl | assumption):wpAny M A (storeName X.env x u) Q E s:=
 kW I hN hi hx r (fun s' I' _=>h s' I') hf
theorem Inv.zH {s':Shared}{ch:List Addr}(I:Inv X pins σ H s)(ho:s'.os=s.os)(u:Un (tR X.stack) ch H H' s.heap s'.heap)(aO:gj X.prog X.w H' s'.heap)(hg:AllBare s'.gens)(iM:∀ b∈ch,(b∈X.ex\/X.s₀.heap.objs.size<=b)/\b≠X.env.locals/\(∀ x c,X.env.cells.lookup x=some c->c≠b)/\∀ p∈X.pn ++ pins,p.1≠b):Inv X pins σ H' s':=by
 obtain⟨h',g',d',t',o'⟩:=s'
 have e:o'=s.os:=ho
 subst e
 exact I.call (g':=g') (t':=t') (d':=d') u aO hg iM
end
abbrev XK:=Value->Option Addr->Hp->Prop
noncomputable abbrev St:=List (Option V)
abbrev VK:=V->Hp->Prop
abbrev TE:=St->Hp->VK->Prop
abbrev TT:=St->Hp->(Bool->Hp->Prop)->Prop
abbrev TA:=St->Hp->(List V->Hp->Prop)->Prop
structure Ends where
 nx:St->Hp->Prop
 rt:VK
 bk:St->Hp->Prop:=fun _ _=>False
 ct:St->Hp->Prop:=fun _ _=>False
abbrev TS:=Ends->St->Hp->Prop
def EP (X:Cx)(pins:List (Addr×Obj))(σ:St)(Q:VK)(u:Value)(s':Shared):Prop:=∃ v H',Inv X pins σ H' s'/\RelV v u/\Q v H'
def TP (X:Cx)(pins:List (Addr×Obj))(σ:St)(Q:Bool->Hp->Prop)(b:Bool)(s':Shared):Prop:=∃ H',Inv X pins σ H' s'/\Q b H'
def AP (X:Cx)(pins:List (Addr×Obj))(σ:St)(Q:List V->Hp->Prop)(us:List Value)(s':Shared):Prop:=∃ vs H',Inv X pins σ H' s'/\Vals vs us/\Q vs H'
def SP (X:Cx)(pins:List (Addr×Obj))(D:Ends)(f:Flow)(s':Shared):Prop:=
 match f with
 | .next=>∃ σ' H',Inv X pins σ' H' s'/\D.nx σ' H'
 | .brk=>∃ σ' H',Inv X pins σ' H' s'/\D.bk σ' H'
 | .cont=>∃ σ' H',Inv X pins σ' H' s'/\D.ct σ' H'
 | .ret u=>∃ v σ' H',Inv X pins σ' H' s'/\RelV v u/\D.rt v H'
def PE (X:Cx)(e:Expr)(t:TE):Prop:=
 ∀ (pins:List (Addr×Obj)) (s:Shared) (σ:St) (H:Hp) (Q:VK),Inv X pins σ H s->t σ H Q->wpAny (model X.prog X.w) X.A (eval e X.env) (EP X pins σ Q) X.xe s
def PT (X:Cx)(e:Expr)(t:TT):Prop:=
 ∀ (pins:List (Addr×Obj)) (s:Shared) (σ:St) (H:Hp) (Q:Bool->Hp->Prop),Inv X pins σ H s->t σ H Q->wpAny (model X.prog X.w) X.A (isTrue e X.env (eval e X.env)) (TP X pins σ Q) X.xe s
def PW (X:Cx)(e:Expr)(t:TT):Prop:=
 ∀ (whole:Sem Value) (pins:List (Addr×Obj)) (s:Shared) (σ:St) (H:Hp) (Q:Bool->Hp->Prop),Inv X pins σ H s->t σ H Q->wpAny (model X.prog X.w) X.A (isTrue e X.env whole) (TP X pins σ Q) X.xe s
theorem PW.pt {X:Cx}{e:Expr}{t:TT}(h:PW X e t):PT X e t:=h _
def PA (X:Cx)(es:List Expr)(t:TA):Prop:=
 ∀ (pos:Pos) (pins:List (Addr×Obj)) (s:Shared) (σ:St) (H:Hp) (Q:List V->Hp->Prop),Inv X pins σ H s->t σ H Q->wpAny (model X.prog X.w) X.A (spliced (backTo pos (starEach es X.env))) (AP X pins σ Q) X.xe s
def PS (X:Cx)(st:Stmt)(t:TS):Prop:=
 ∀ (pins:List (Addr×Obj)) (s:Shared) (σ:St) (H:Hp) (D:Ends),Inv X pins σ H s->t D σ H->wpAny (model X.prog X.w) X.A (exec st X.env) (SP X pins D) X.xe s
def qd (X:Cx)(st:List Stmt)(t:TS):Prop:=
 ∀ (pins:List (Addr×Obj)) (s:Shared) (σ:St) (H:Hp) (D:Ends),Inv X pins σ H s->t D σ H->wpAny (model X.prog X.w) X.A (execs st X.env) (SP X pins D) X.xe s
theorem aT {α:Type}{t:Sem α}{Q Q':α->Shared->Prop}{M:Model}{A:Around}{E:Value->Shared->Prop}{s:Shared}(h:wpAny M A t Q E s)(hQ:∀ a s,Q a s->Q' a s):wpAny M A t Q' E s:=wpAny_mono h hQ fun _ _ x=>x
section
variable {X:Cx}
def FQ (i:Nat):TE:=fun σ H Q=>∃ v,σ[i]?=some (some v)/\Q v H
def tC (v:V):TE:=fun _ H Q=>Q v H
theorem jE {i:Nat}{x:Str}{pos:Pos}(hN:X.N[i]?=some x)(hv:nu X.env.scope x)(hd:(x == ("__debug__":Str))=false:=by decide)(eE:(x == ("__classdict__":Str))=false:=by decide):PE X (.Name x pos) (FQ i):=by
 intro pins s σ H Q I h
 obtain⟨v,e,h⟩:=h
 obtain⟨m,hn,hl⟩:=I.loc
 obtain⟨u,r,l⟩:=hl i x v hN e hv
 have fin:EP X pins σ Q u s:=⟨v,H,I,r,h⟩
 rcases l with⟨hk,hm⟩ | ⟨hk,c,hc,zI⟩
 . exact wpAny_Name (wpAny_loadName_local I.ok.kind hk hn hm fin) hd
 . rcases hk with hk | hk
   . exact wpAny_Name (wpAny_loadName_cell I.ok.kind hk hc zI fin) hd
   . exact wpAny_Name (wpAny_loadName_free I.ok.kind hk hc zI fin eE) hd
theorem Ar {i j pos}:PE X (.Constant (.int i) j pos) (tC (.int i)):=fun _ _ _ H _ I h=>wpAny_Constant_int ⟨.int i,H,I.tok _,⟨_,rfl⟩,h⟩
theorem As {j pos}:PE X (.Constant .none j pos) (tC .aW):=fun _ _ _ H _ I h=>Constant_none ⟨.aW,H,I,rfl,h⟩
theorem Au {x j pos}:PE X (.Constant (.str x) j pos) (tC (.str x)):=fun _ _ _ H _ I h=>Calls.Constant_str ⟨.str x,H,I.tok _,⟨_,rfl⟩,h⟩
def Gl (X:Cx)(x:Str):Prop:=X.env.kindOf x=some .globalImplicit
theorem jc {E:Value->Shared->Prop}{pins:List (Addr×Obj)}{s:Shared}{σ:St}{H:Hp}{x:Str}{u:Value}{pos:Pos}{Q:Value->Shared->Prop}(I:Inv X pins σ H s)(hg:Gl X x)(hm:X.mg x=some u)(h:Q u s)(hd:(x == ("__debug__":Str))=false:=by decide):wpAny (model X.prog X.w) X.A (eval (.Name x pos) X.env) Q E s:=
 Calls.Name_function_global I.ok.kind hg (Calls.loadGlobal_global (by rw[I.ok.glob];exact I.mod.glob.keeps I.bk) hm h) hd
theorem dX {E:Value->Shared->Prop}{pins:List (Addr×Obj)}{s:Shared}{σ:St}{H:Hp}{x:Str}{u:Value}{pos:Pos}{Q:Value->Shared->Prop}(I:Inv X pins σ H s)(hg:Gl X x)(hm:X.mg x=none)(hv:bootBuiltins x=some u)(h:Q u s)(hn:x≠"__name__":=by decide)(hd:(x == ("__debug__":Str))=false:=by decide):wpAny (model X.prog X.w) X.A (eval (.Name x pos) X.env) Q E s:=by
 obtain⟨mb,h1,h2⟩:=I.mod.blt
 exact Calls.Name_function_global I.ok.kind hg (Calls.loadGlobal_builtin (by rw[I.ok.glob];exact I.mod.glob.keeps I.bk) hm (by rw[I.ok.blt];exact h1.keeps I.bk) ((h2 x hn).trans hv) h) hd
theorem xK {x:Str}{v:V}{u:Value}{pos:Pos}(hg:Gl X x)(hm:X.mg x=some u)(r:RelV v u)(hd:(x == ("__debug__":Str))=false:=by decide):PE X (.Name x pos) (tC v):=
 fun _ _ _ H _ I h=>jc I hg hm ⟨v,H,I,r,h⟩ hd
theorem xM {x:Str}{v:V}{u:Value}{pos:Pos}(hg:Gl X x)(hm:X.mg x=none)(hv:bootBuiltins x=some u)(r:RelV v u)(hn:x≠"__name__":=by decide)(hd:(x == ("__debug__":Str))=false:=by decide):PE X (.Name x pos) (tC v):=
 fun _ _ _ H _ I h=>dX I hg hm hv ⟨v,H,I,r,h⟩ hn hd
variable {a b:Expr}{ta tb:TE}{pos:Pos}
def PC (X:Cx)(op:CmpOp)(a b:Expr)(t:TE):Prop:=
 ∀ (pins:List (Addr×Obj)) (s:Shared) (σ:St) (H:Hp) (Q:VK),Inv X pins σ H s->t σ H Q ->
   wpAny (model X.prog X.w) X.A (eval a X.env) (fun v s₁=>wpAny (model X.prog X.w) X.A (eval b X.env) (fun u s₂=>wpAny (model X.prog X.w) X.A (compareOp op v u) (EP X pins σ Q) X.xe s₂) X.xe s₁) X.xe s
theorem nz (b:Expr){op:CmpOp}(h:op≠.In)(h2:op≠.NotIn):behindInMarks op b=false:=by
 have e1:(op == CmpOp.In)=false:=by cases op <;> first | rfl | exact absurd rfl h
 have e2:(op == CmpOp.NotIn)=false:=by cases op <;> first | rfl | exact absurd rfl h2
 cases b <;> simp[behindInMarks,e1,e2]
def FR (ta:TE):TE:=fun σ H Q=>ta σ H fun x H1=>Q (.bl (decide (x=.aW))) H1
def CT (ta:TE):TE:=fun σ H Q=>ta σ H fun x H1=>Q (.bl (!decide (x=.aW))) H1
theorem RelV.nA {x:V}{v:Value}(r:RelV x v):(v == Value.none)=decide (x=.aW):=by
 cases x with
 | aW=>cases r;rfl
 | bl _=>cases r;rfl
 | int _=>obtain⟨t,rfl⟩:=r;rfl
 | str _=>obtain⟨t,rfl⟩:=r;rfl
 | rE _=>obtain⟨t,rfl⟩:=r;rfl
 | zF _=>obtain⟨t,rfl⟩:=r;rfl
 | ref _=>cases r;rfl
 | ty _=>cases r;rfl
theorem Av {j pos'}(ha:PE X a ta):PC X .Is a (.Constant .none j pos') (FR ta):=by
 intro pins s σ H Q I h
 refine aT (ha pins s σ H _ I h) fun v s1 ⟨x,H1,I1,r1,q1⟩=>?_
 exact Constant_none (is_none_gen ⟨.bl _,H1,I1,by rw[r1.nA];rfl,q1⟩)
theorem qe {j pos'}(ha:PE X a ta):PC X .IsNot a (.Constant .none j pos') (CT ta):=by
 intro pins s σ H Q I h
 refine aT (ha pins s σ H _ I h) fun v s1 ⟨x,H1,I1,r1,q1⟩=>?_
 exact Constant_none (isnot_none_gen ⟨.bl _,H1,I1,by rw[r1.nA];rfl,q1⟩)
def tB (t:TE):TT:=fun σ H Q=>t σ H fun x H1=>∃ c,x=.bl c/\Q c H1
theorem tW {op:CmpOp}{t:TE}(h:PC X op a b t)(h1:behindInMarks op b=false:=by first | exact nz _ (by decide) (by decide) | rfl):PE X (.Compare a [op] [b] pos) t:=fun pins s σ H Q I hw=>wpAny_Compare1 (h pins s σ H Q I hw) h1
theorem lX {op:CmpOp}{t:TE}(h:PC X op a b t)(h1:behindInMarks op b=false:=by first | exact nz _ (by decide) (by decide) | rfl):PT X (.Compare a [op] [b] pos) (tB t):=by
 intro pins s σ H Q I hw
 refine wpAny_isTrue_Compare1 (aT (h pins s σ H _ I hw) fun v s1 h1=>aT h1 fun u s2 h2=>aT h2 fun c s3 ⟨x,H1,I1,r1,q1⟩=>?_) h1
 obtain⟨d,rfl,q⟩:=q1
 cases r1
 exact wpAny_truthy_bool ⟨H1,I1,q⟩
theorem Aw {e:Expr}{t:TE}(h:PE X e t)(he:∀ whole,isTrue e X.env whole=(do let v <- whole;standAt e.pos;holding [v] (truthy v)):=by intro _;rfl):PT X e (tB t):=by
 intro pins s σ H Q I hw
 refine isTrue_plain (aT (h pins s σ H _ I hw) fun v s1 ⟨x,H1,I1,r1,q1⟩=>?_) (he _)
 obtain⟨d,rfl,q⟩:=q1
 cases r1
 exact wpAny_truthy_bool ⟨H1,I1,q⟩
variable {tA EK:TT}{rest:List Expr}
def FT (t u:TT):TT:=fun σ H Q=>t σ H fun c H1=>if c=true then u σ H1 Q else Q false H1
def IS (t u:TT):TT:=fun σ H Q=>t σ H fun c H1=>if c=true then Q true H1 else u σ H1 Q
def FU (t:TT):TT:=fun σ H Q=>t σ H fun c H1=>Q (!c) H1
theorem pw_and1 (ha:PT X a tA):PW X (.BoolOp .And [a] pos) tA:=by
 intro wh pins s σ H Q I h
 refine isTrue_and (aT (ha pins s σ H Q I h) fun c s1 e=>?_)
 cases c with
 | true=>exact isTrue_and_nil e
 | false=>exact e
theorem pw_or1 (ha:PT X a tA):PW X (.BoolOp .Or [a] pos) tA:=by
 intro wh pins s σ H Q I h
 refine isTrue_or (aT (ha pins s σ H Q I h) fun c s1 e=>?_)
 cases c with
 | false=>exact isTrue_or_nil e
 | true=>exact e
theorem pw_and (ha:PT X a tA)(hb:PW X (.BoolOp .And (b::rest) pos) EK):PW X (.BoolOp .And (a::b::rest) pos) (FT tA EK):=by
 intro wh pins s σ H Q I h
 refine isTrue_and (aT (ha pins s σ H _ I h) fun c s1 ⟨H1,I1,q1⟩=>?_)
 cases c with
 | true=>exact hb wh pins s1 σ H1 Q I1 q1
 | false=>exact⟨H1,I1,q1⟩
theorem pw_or (ha:PT X a tA)(hb:PW X (.BoolOp .Or (b::rest) pos) EK):PW X (.BoolOp .Or (a::b::rest) pos) (IS tA EK):=by
 intro wh pins s σ H Q I h
 refine isTrue_or (aT (ha pins s σ H _ I h) fun c s1 ⟨H1,I1,q1⟩=>?_)
 cases c with
 | true=>exact⟨H1,I1,q1⟩
 | false=>exact hb wh pins s1 σ H1 Q I1 q1
theorem Ax (ha:PT X a tA):PT X (.UnaryOp .Not a pos) (FU tA):=by
 intro pins s σ H Q I h
 exact isTrue_not (ha pins s σ H (fun c H1=>Q (!c) H1) I h)
def CU (ta tb:TE):TE:=fun σ H Q=>ta σ H fun x H1=>∃ c,x=.bl c/\if c=true then tb σ H1 Q else Q (.bl false) H1
def FV (ta tb:TE):TE:=fun σ H Q=>ta σ H fun x H1=>∃ c,x=.bl c/\if c=true then Q (.bl true) H1 else tb σ H1 Q
def CV (ta:TE):TE:=fun σ H Q=>ta σ H fun x H1=>∃ c,x=.bl c/\Q (.bl (!c)) H1
theorem tX {op}{t:TE}(h:PE X a t):PE X (.BoolOp op [a] pos) t:=fun pins s σ H Q I hw=>BoolOp_one (h pins s σ H Q I hw)
theorem tY (ha:PE X a ta)(hb:PE X (.BoolOp .And (b::rest) pos) tb):PE X (.BoolOp .And (a::b::rest) pos) (CU ta tb):=by
 intro pins s σ H Q I h
 refine BoolOp_and (aT (ha pins s σ H _ I h) fun v s1 ⟨x,H1,I1,r1,q1⟩=>?_)
 obtain⟨c,rfl,q1⟩:=q1
 cases r1
 refine wpAny_truthy_bool ?_
 cases c with
 | true=>exact hb pins s1 σ H1 Q I1 q1
 | false=>exact⟨.bl false,H1,I1,rfl,q1⟩
theorem zJ (ha:PE X a ta)(hb:PE X (.BoolOp .Or (b::rest) pos) tb):PE X (.BoolOp .Or (a::b::rest) pos) (FV ta tb):=by
 intro pins s σ H Q I h
 refine BoolOp_or (aT (ha pins s σ H _ I h) fun v s1 ⟨x,H1,I1,r1,q1⟩=>?_)
 obtain⟨c,rfl,q1⟩:=q1
 cases r1
 refine wpAny_truthy_bool ?_
 cases c with
 | false=>exact hb pins s1 σ H1 Q I1 q1
 | true=>exact⟨.bl true,H1,I1,rfl,q1⟩
theorem Ay (ha:PE X a ta):PE X (.UnaryOp .Not a pos) (CV ta):=by
 intro pins s σ H Q I h
 refine UnaryOp_ (aT (ha pins s σ H _ I h) fun v s1 ⟨x,H1,I1,r1,q1⟩=>?_)
 obtain⟨c,rfl,q1⟩:=q1
 cases r1
 exact not_of (wpAny_truthy_bool ⟨.bl (!c),H1,I1,rfl,q1⟩)
end
def eF (K:PySem.W.Frag)(H:Hp)(a:Addr)(xs:List V):Prop:=
 Rd H a (.lst xs) \/
   ∃ (o:Obj) (aF:Array Value) (n:Nat),K.lookup a=some o/\o.cls=.type "list"/\o.dict=none/\o.data=.seq aF n/\aF.size<=sizeLine/\Vals xs aF.toList
abbrev tH (K:PySem.W.Frag)(H:Hp)(a:Addr)(xs:List V):Prop:=TupAt K H a xs
noncomputable def FW:Value->Option V
 | .none=>some .aW
 | .bool b=>some (.bl b)
 | .int i _=>some (.int i)
 | .str x _=>some (.str x)
 | .bytes b _=>some (.rE b)
 | .float b _=>some (.zF b)
 | .ref a=>some (.ref a)
 | .type n=>some (.ty n)
 | _=>none
theorem RelV.abs {x:V}{u:Value}(r:RelV x u):FW u=some x:=by
 cases x with
 | aW=>cases r;rfl
 | bl _=>cases r;rfl
 | int _=>obtain⟨t,rfl⟩:=r;rfl
 | str _=>obtain⟨t,rfl⟩:=r;rfl
 | rE _=>obtain⟨t,rfl⟩:=r;rfl
 | zF _=>obtain⟨t,rfl⟩:=r;rfl
 | ref _=>cases r;rfl
 | ty _=>cases r;rfl
theorem RelV.inj {x y:V}{u:Value}(r:RelV x u)(q:RelV y u):x=y:=Option.some.inj (r.abs.symm.trans q.abs)
theorem Vals.inj:∀ {xs ys:List V} {us:List Value},Vals xs us->Vals ys us->xs=ys
 | _,_,_,.nil,.nil=>rfl
 | _,_,_,.cons r t,.cons r' t'=>by rw[r.inj r',Vals.inj t t']
section
variable {X:Cx}{pins:List (Addr×Obj)}{σ:St}{H:Hp}{s:Shared}{a:Addr}{xs ys:List V}
theorem eF.of {K:W.Frag}(h:H a=some (.lst xs)):eF K H a xs:=.inl (.inl h)
theorem tH.of {K:W.Frag}(h:H a=some (.tup xs)):tH K H a xs:=.inl h
theorem Inv.list (I:Inv X pins σ H s)(h:eF X.K H a xs):∃ aF:List Value,Vals xs aF/\PlainL s.heap a aF.toArray/\xs.length<=sizeLine:=by
 rcases h with h | ⟨o,aF,n,hk,hc,hd,hs,hz,r⟩
 . obtain⟨z,aF,n,r,e⟩:=h.ok I.aO
   exact⟨aF,r,⟨_,n,e,rfl,rfl,rfl⟩,z⟩
 . refine⟨aF.toList,r,⟨o,n,I.dW a o hk,hc,hd,by simpa using hs⟩,?_⟩
   have e:=r.length
   simp only[Mh] at e
   omega
theorem Inv.tuple (I:Inv X pins σ H s)(h:tH X.K H a xs):∃ aF:List Value,Vals xs aF/\IsTup s.heap a aF.toArray/\xs.length<=sizeLine:=by
 rcases h with h | ⟨o,aF,n,hk,hc,hs,hz,r⟩
 . obtain⟨z,aF,r,p⟩:=(show aM X.prog X.w H s.heap a (.tup xs) from I.aO a _ h)
   exact⟨aF,r,p,z⟩
 . refine⟨aF.toList,r,⟨o,I.dW a o hk,hc,n,by simpa using hs⟩,?_⟩
   have e:=r.length
   simp only[Mh] at e
   omega
theorem Inv.jF (I:Inv X pins σ H s)(h:eF X.K H a xs)(h':eF X.K H a ys):xs=ys:=by
 obtain⟨aF,r,⟨o,n,e,_,_,d⟩,_⟩:=I.list h
 obtain⟨its',r',⟨o',n',e',_,_,d'⟩,_⟩:=I.list h'
 rw[e] at e';cases e'
 rw[d] at d'
 injection d' with d1 _
 have:aF=its':=by simpa using congrArg Array.toList d1
 subst this
 exact r.inj r'
end
section
variable {X:Cx}{st:Stmt}{rest:List Stmt}{t u:TS}{e:Expr}{te:TE}{pos:Pos}
def CW:TS:=fun D σ H=>D.nx σ H
def FX (t u:TS):TS:=fun D σ H=>t { D with nx:=u D} σ H
theorem xN:qd X [] CW:=fun _ _ σ H _ I h=>wpAny_execs_nil ⟨σ,H,I,h⟩
theorem jG (h1:PS X st t)(h2:qd X rest u):qd X (st::rest) (FX t u):=by
 intro pins s σ H D I h
 refine wpAny_execs_cons (aT (h1 pins s σ H { D with nx:=u D} I h) fun f s1 q=>?_)
 cases f with
 | next=>
   obtain⟨σ',H',I',q⟩:=q
   exact h2 pins s1 σ' H' D I' q
 | ret v=>exact q
 | brk=>exact q
 | cont=>exact q
theorem lY (h1:PS X st t):qd X [st] t:=by
 intro pins s σ H D I h
 refine wpAny_execs_cons (aT (h1 pins s σ H D I h) fun f s1 q=>?_)
 cases f with
 | next=>exact wpAny_execs_nil q
 | ret v=>exact q
 | brk=>exact q
 | cont=>exact q
theorem Inv.quiet {pins:List (Addr×Obj)}{σ:St}{H:Hp}{s:Shared}(I:Inv X pins σ H s):interactive X.env=false:=by simp[interactive,I.ok.kind]
def CY (te:TE):TS:=fun D σ H=>te σ H fun _ H1=>D.nx σ H1
theorem qf (he:PE X e te)(hs:swapsWith e none pos.line X.env=pure false:=by rfl):PS X (.Expr e pos) (CY te):=by
 intro pins s σ H D I h
 exact wpAny_Expr_any (aT (he pins s σ H _ I h) fun v s1 ⟨x,H1,I1,r1,q1⟩=>⟨σ,H1,I1,q1⟩) I.quiet hs
def FY (te:TE):TS:=fun D σ H=>te σ H D.rt
theorem oV (he:PE X e te):PS X (.Return (some e) pos) (FY te):=by
 intro pins s σ H D I h
 exact wpAny_Return_some (aT (he pins s σ H _ I h) fun v s1 ⟨x,H1,I1,r1,q1⟩=>⟨x,σ,H1,I1,r1,q1⟩)
def FZ (c:TT)(t u:TS):TS:=fun D σ H=>c σ H fun b H1=>if b=true then t D σ H1 else u D σ H1
theorem zK {c:Expr}{a b:List Stmt}{tc:TT}(hc:PT X c tc)(ha:qd X a t)(hb:qd X b u):PS X (.If c a b pos) (FZ tc t u):=by
 intro pins s σ H D I h
 refine wpAny_If (aT (hc pins s σ H _ I h) fun d s1 ⟨H1,I1,q1⟩=>?_)
 cases d with
 | true=>exact ha pins s1 σ H1 D I1 q1
 | false=>exact hb pins s1 σ H1 D I1 q1
def Az:TS:=fun _ _ _=>False
theorem g9 {sts:List Stmt}:qd X sts Az:=fun _ _ _ _ _ _ h=>h.elim
end
abbrev TG:=V->St->Hp->(St->Hp->Prop)->Prop
abbrev AA:=List V->St->Hp->(St->Hp->Prop)->Prop
def PG (X:Cx)(target:Expr)(t:TG):Prop:=
 ∀ (pins:List (Addr×Obj)) (s:Shared) (σ:St) (H:Hp) (v:V) (u:Value) (Q:St->Hp->Prop),Inv X pins σ H s->RelV v u->t v σ H Q ->
   wpAny (model X.prog X.w) X.A (assign target X.env u) (fun _ s'=>∃ σ' H',Inv X pins σ' H' s'/\Q σ' H') X.xe s
def EL (X:Cx)(ts:List Expr)(t:AA):Prop:=
 ∀ (pins:List (Addr×Obj)) (s:Shared) (σ:St) (H:Hp) (vs:List V) (us:List Value) (Q:St->Hp->Prop),Inv X pins σ H s->Vals vs us->t vs σ H Q ->
   wpAny (model X.prog X.w) X.A (assignInOrder ((assignEach ts X.env).map (·.2)) us) (fun _ s'=>∃ σ' H',Inv X pins σ' H' s'/\Q σ' H') X.xe s
section
variable {X:Cx}{pos:Pos}
def fS (i:Nat):TG:=fun v σ H Q=>Q (σ.set i (some v)) H
theorem aU {i:Nat}{x:Str}(hN:X.N.Nodup)(hi:X.N[i]?=some x)(hx:Loc X.env.scope x)(hf:X.fn x=true\/X.env.scope.names.lookup x=some .local:=by first | exact .inl rfl | exact .inr rfl | assumption):PG X (.Name x pos) (fS i):=by
 intro pins s σ H v u Q I r h
 exact wpAny_assign_Name (ny I hN hi hx r (fun s' I'=>⟨_,H,I',h⟩) hf)
def AB:AA:=fun vs σ H Q=>vs=[]/\Q σ H
def kX (t:TG)(u:AA):AA:=fun vs σ H Q=>∃ v r,vs=v::r/\t v σ H fun σ' H'=>u r σ' H' Q
theorem gq:EL X [] AB:=by
 intro pins s σ H vs us Q I r h
 obtain⟨e,h⟩:=h
 subst e
 cases r
 exact assignInOrder_nil ⟨σ,H,I,h⟩
theorem bL {e:Expr}{es:List Expr}{t:TG}{u:AA}(h1:PG X e t)(h2:EL X es u)(hs:(assignEach (e::es) X.env).map (·.2)=assign e X.env::(assignEach es X.env).map (·.2):=by rfl):EL X (e::es) (kX t u):=by
 intro pins s σ H vs us Q I r h
 obtain⟨v,vr,e1,h⟩:=h
 subst e1
 cases r with
 | cons r rr=>
   rw[hs]
   refine assignInOrder_cons (aT (h1 pins s σ H _ _ _ I r h) fun _ s1 ⟨σ1,H1,I1,q1⟩=>?_)
   exact h2 pins s1 σ1 H1 _ _ Q I1 rr q1
def AD (K:W.Frag)(n:Nat)(t:AA):TG:=fun v σ H Q=>∃ a xs,v=.ref a/\tH K H a xs/\xs.length=n/\t xs σ H Q
theorem jH {es:List Expr}{k:Nat}{t:AA}{n:Nat}(hc:X.calm=true)(h:EL X es t)(hn:(assignEach es X.env).length=n:=by rfl)(nB:(assignEach es X.env).findIdx? (·.1)=none:=by rfl):PG X (.Tuple es k pos) (AD X.K n t):=by
 intro pins s σ H v u Q I r hw
 obtain⟨a,xs,e1,hq,hl,hw⟩:=hw
 subst e1
 cases r
 obtain⟨aF,rv,ht,hz⟩:=I.tuple hq
 refine assign_Tuple_tuple (I.ok.hd hc) ht (by simp[hn,<- hl,rv.length]) nB fun h' hx=>?_
 have I1:Inv X pins σ H { s with heap:=h'}:=I.kept (t':=s.toks) fun b o e=>hx b o (Lq (KJ e)) e
 exact h pins _ σ H xs _ Q I1 (by simpa using rv) hw
def F0 (te:TE)(g:TG):TS:=fun D σ H=>te σ H fun x H1=>g x σ H1 D.nx
theorem tZ {i:Nat}{x:Str}{e:Expr}{te:TE}{pos':Pos}(hN:X.N.Nodup)(hi:X.N[i]?=some x)(hx:Loc X.env.scope x)(he:PE X e te)(hs:swapsWith e (some (.Name x pos')) pos.line X.env=pure false:=by rfl)(hf:X.fn x=true\/X.env.scope.names.lookup x=some .local:=by first | exact .inl rfl | exact .inr rfl | assumption):PS X (.Assign [.Name x pos'] e pos) (F0 te (fS i)):=by
 intro pins s σ H D I h
 refine wpAny_Assign_Name (aT (he pins s σ H _ I h) fun v s1 ⟨y,H1,I1,r1,q1⟩=>?_) hs
 exact ny I1 hN hi hx r1 (fun s2 I2=>⟨_,H1,I2,q1⟩) hf
end
section
variable {X:Cx}{pos:Pos}
def AE (c:TT)(tb:TS):TS:=fun D σ H=>∃ W:Nat->St->Hp->Prop,(∃ m,W m σ H)/\∀ m σ H,W m σ H ->
 c σ H fun b H1=>if b=true then ∃ N:St->Hp->Prop,(∀ σ' H',N σ' H'->∃ m',m' < m/\W m' σ' H')/\tb { D with nx:=N,ct:=N,bk:=D.nx} σ H1 else D.nx σ H1
theorem t5 {c:Expr}{body:List Stmt}{tc:TT}{tb:TS}(hp:PassesOwn (model X.prog X.w) X.A X.env X.xe)(hc:PT X c tc)(hb:qd X body tb):PS X (.While c body [] pos) (AE tc tb):=by
 intro pins s σ H D I h
 obtain⟨W,⟨m0,w0⟩,turn⟩:=h
 refine wpAny_While (codeAny_whileLoop (fun n s'=>∃ σ' H',Inv X pins σ' H' s'/\W n σ' H') ?_ m0 ⟨σ,H,I,w0⟩)
 rintro n s1 ⟨σ1,H1,I1,w1⟩
 refine wpAny_passesOwn hp (aT (hc pins s1 σ1 H1 _ I1 (turn n σ1 H1 w1)) fun b s2 ⟨H2,I2,q2⟩=>?_)
 cases b with
 | true=>
   obtain⟨N,hN,q2⟩:=q2
   rw[if_pos rfl]
   refine wpAny_passesOwn hp (aT (hb pins s2 σ1 H2 _ I2 q2) fun f s3 q3=>?_)
   cases f with
   | next=>
     obtain⟨σ3,H3,I3,n3⟩:=q3
     obtain⟨m',hm,w3⟩:=hN σ3 H3 n3
     exact⟨m',hm,σ3,H3,I3,w3⟩
   | cont=>
     obtain⟨σ3,H3,I3,n3⟩:=q3
     obtain⟨m',hm,w3⟩:=hN σ3 H3 n3
     exact⟨m',hm,σ3,H3,I3,w3⟩
   | brk=>exact q3
   | ret v=>exact q3
 | false=>
   rw[if_neg K8]
   exact wpAny_execs_nil ⟨σ1,H2,I2,q2⟩
end
structure It where
 go:Nat->Hp->Prop
 t6:Nat->Hp->V->Hp->Prop
 stop:Nat->Hp->Prop
def eK (X:Cx)(pins:List (Addr×Obj))(H:Hp)(b:Addr):Prop:=
 H b=none/\b≠X.env.locals/\b ∉ X.fs/\(b∈X.ex\/X.s₀.heap.objs.size<=b)/\(∀ x c,X.env.cells.lookup x=some c->c≠b)/\∀ p∈X.pn ++ pins,p.1≠b
theorem Inv.lZ {X:Cx}{pins:List (Addr×Obj)}{σ:St}{H H':Hp}{s:Shared}{b:Addr}(I:Inv X pins σ H s)(hb:s.heap.objs.size<=b)(hn:H' b=none):eK X pins H' b:=by
 refine⟨hn,Mz (K2 I.lt hb),I.FH hb,.inr (LA I.sz hb),fun x c e z=>?_,fun p hp z=>?_⟩
 . obtain⟨v,q⟩:=I.cell x c e
   exact absurd (K2 q.lt (by rw[z];exact hb)) (Mc _)
 . exact absurd (K2 (KJ (I.pin p hp).1) (by rw[z];exact hb)) (Mc _)
structure Turn (P:Program)(w:World)(K:W.Frag)(tg:Expr)(J:It)(fp:List Addr)(it:Addr)(tn:Nat->Heap->Prop):Prop where
 mem:it∈fp
 obj:∀ i h,tn i h->∀ b∈fp,∃ o,h.get? b=some o/\∀ v,o.data≠.cell v
 keep:∀ i h h',tn i h->(∀ b∈fp,∀ o,h.get? b=some o->h'.get? b=some o)->tn i h'
 item:∀ (X:Cx),X.prog=P->X.w=w->X.K=K->X.calm=true->∀ (i:Nat) (pins:List (Addr×Obj)) (s:Shared) (σ:St) (H:Hp) (E:Value->Shared->Prop),Inv X pins σ H s->(∀ b∈fp,eK X pins H b)->tn i s.heap->J.go i H ->
   wpAny (model P w) X.A (pyNext (.ref it)) (fun r s1=>∃ u,r=some u /\
     wpAny (model P w) X.A (letOwnedTupleGo tg (.ref it) u) (fun _ s2=>∃ x H',Inv X pins σ H' s2/\RelV x u/\J.t6 i H x H'/\tn (i+1) s2.heap/\∀ b∈fp,H' b=none) E s1) E s
 done:∀ (X:Cx),X.prog=P->X.w=w->X.K=K->X.calm=true->∀ (i:Nat) (pins:List (Addr×Obj)) (s:Shared) (σ:St) (H:Hp) (E:Value->Shared->Prop),Inv X pins σ H s->(∀ b∈fp,eK X pins H b)->tn i s.heap->J.stop i H ->
   wpAny (model P w) X.A (pyNext (.ref it)) (fun r s1=>r=none/\Inv X pins σ H s1) E s
 self:∀ (A:Around) (i:Nat) (s:Shared) (Q:Value->Shared->Prop) (E:Value->Shared->Prop),tn i s.heap->Q (.ref it) s->wpAny (model P w) A (pyIter (.ref it)) Q E s
abbrev TI:=St->Hp->(It->Hp->Prop)->Prop
def HF (X:Cx)(pins:List (Addr×Obj))(σ:St)(tg:Expr)(R:It->Hp->Prop)(CZ:Value)(s2:Shared):Prop:=
 ∃ (it:Addr) (fp:List Addr) (tn:Nat->Heap->Prop) (J:It) (H':Hp),CZ=.ref it/\Inv X pins σ H' s2/\Turn X.prog X.w X.K tg J fp it tn/\tn 0 s2.heap/\(∀ b∈fp,eK X pins H' b)/\R J H'
def PI (X:Cx)(tg iter:Expr)(wi:TI):Prop:=
 ∀ (pins:List (Addr×Obj)) (s:Shared) (σ:St) (H:Hp) (R:It->Hp->Prop),Inv X pins σ H s->wi σ H R ->
   wpAny (model X.prog X.w) X.A (eval iter X.env) (fun v s1=>wpAny (model X.prog X.w) X.A (pyIter v) (HF X pins σ tg R) X.xe s1) X.xe s
theorem qg {M:Model}{A:Around}{E:Value->Shared->Prop}{s:Shared}{tg:Expr}{it:Addr}{u:Value}{o:Obj}{n:String}{vs:Array Value}{Q:Unit->Shared->Prop}(ho:s.heap.get? it=some o)(hc:o.cls=.type n)(hd:o.data=.fields vs)(hn:["enumerate","zip","dict_itemiterator","dict_reverseitemiterator","odict_iterator","itertools.zip_longest","itertools.pairwise"].contains n=false)(hQ:Q () s):wpAny M A (letOwnedTupleGo tg (.ref it) u) Q E s:=by
 unfold letOwnedTupleGo
 cases tg <;> first
   | exact wpAny_pure hQ
   | (cases u <;> first
       | exact wpAny_pure hQ
       | (refine wpAny_bind (wpAny_load ho ?_)
          rw[hc,hd]
          show wpAny M A (if (["enumerate","zip","dict_itemiterator","dict_reverseitemiterator","odict_iterator","itertools.zip_longest","itertools.pairwise"].contains n && vs[0]? == some (rawInt _))=true then _ else _) Q E s
          rw[if_neg (by intro h;rw[hn,Bool.false_and] at h;cases h)]
          exact wpAny_pure hQ))
noncomputable def C0 (K:W.Frag)(a:Addr):It:=
 ⟨fun i H=>∃ xs x,eF K H a xs/\xs[i]?=some x,fun i H x H'=>H'=H/\∀ xs,eF K H a xs->xs[i]?=some x,fun i H=>∃ xs,eF K H a xs/\xs.length<=i⟩
noncomputable def zL (lo:Int)(n:Nat):It:=⟨fun i _=>i < n,fun i H x H'=>H'=H/\x=.int (lo+i),fun i _=>n<=i⟩
theorem rL {P:Program}{w:World}{K:W.Frag}{tg:Expr}(a it:Addr):Turn P w K tg (C0 K a) [it] it (fun i h=>h.IsListIter it a i) where
 mem:=by simp
 obj:=fun i h st b hb=>by
   have e:b=it:=by simpa using hb
   subst e
   obtain⟨o,e,c,d⟩:=st
   exact⟨o,e,fun v z=>by rw[d] at z;cases z⟩
 keep:=fun i h h' st k=>st.at fun o e=>k it (by simp) o e
 item:=by
   intro X hP hw hK hc i pins s σ H E I hf st hg
   subst hP hw hK
   obtain⟨xs,x,hq,hx⟩:=hg
   obtain⟨aF,rv,p,hz⟩:=I.list hq
   obtain⟨u,hu,ru⟩:=rv.get hx
   obtain⟨f0,f1,f2,f3,f4,f5⟩:=hf it (by simp)
   refine wpAny_pyNext_list_item st p.isList (x:=u) (by simpa using hu) fun h' eM sb=>?_
   have I1:Inv X pins σ H { s with heap:=h'}:=I.turned (t':=s.toks) (fun b o hb e=>(sb.2 b hb).trans e) f0 f1 f3 f4 f5
   obtain⟨o,e,c,d⟩:=id eM
   exact⟨u,rfl,qg (s:={ s with heap:=h'}) e c d (by decide) ⟨x,H,I1,ru,⟨rfl,fun ys hy=>by rw[I.jF hy hq];exact hx⟩,eM,fun b hb=>(hf b hb).1⟩⟩
 done:=by
   intro X hP hw hK hc i pins s σ H E I hf st hg
   subst hP hw hK
   obtain⟨xs,hq,hx⟩:=hg
   obtain⟨aF,rv,p,hz⟩:=I.list hq
   obtain⟨f0,f1,f2,f3,f4,f5⟩:=hf it (by simp)
   have hl:=rv.length
   exact wpAny_pyNext_list_end (I.ok.hd hc) st p.isList (by simp;omega) fun h' eb=>⟨rfl,I.turned (t':=s.toks) (fun b o hb e=>eb b o hb e) f0 f1 f3 f4 f5⟩
 self:=fun _ _ _ _ _ st h=>wpAny_pyIter_listiter st h
theorem oW {P:Program}{w:World}{K:PySem.W.Frag}{tg:Expr}(it:Addr)(lo:Int)(n:Nat):Turn P w K tg (zL lo n) [it] it (fun i h=>IsRangeIter h it (lo+(i:Nat) * 1) ((n:Int) - (i:Nat)) 1) where
 mem:=by simp
 obj:=fun i h st b hb=>by
   have e:b=it:=by simpa using hb
   subst e
   exact⟨_,st,fun v z=>by
     have z':Data.fields _=Data.cell v:=z
     cases z'⟩
 keep:=fun i h h' st k=>k it (by simp) _ st
 item:=by
   intro X hP hw hK hc i pins s σ H E I hf st hg
   subst hP hw hK
   obtain⟨f0,f1,f2,f3,f4,f5⟩:=hf it (by simp)
   have W:=Walks.range (prog:=X.prog) (w:=X.w) (I.ok.hd hc) it lo 1 n
   refine W.item i s _ _ hg st fun v h' tk hv eM kk=>?_
   obtain⟨t,rfl⟩:=hv
   have I1:Inv X pins σ H { s with heap:=h',toks:=tk}:=I.turned (fun b o hb e=>kk b o (by simpa using hb) e) f0 f1 f3 f4 f5
   refine⟨_,rfl,qg (s:={ s with heap:=h',toks:=tk}) (n:="range_iterator") eM rfl rfl (by decide) ⟨.int (lo+i),H,I1,⟨t,?_⟩,⟨rfl,rfl⟩,eM,fun b hb=>(hf b hb).1⟩⟩
   rw[Int.mul_one]
 done:=by
   intro X hP hw hK hc i pins s σ H E I hf st hg
   subst hP hw hK
   obtain⟨f0,f1,f2,f3,f4,f5⟩:=hf it (by simp)
   exact wpAny_pyNext_range_end (I.ok.hd hc) st (by have:n<=i:=hg;omega) fun h' eb=>⟨rfl,I.turned (t':=s.toks) (fun b o hb e=>eb b o hb e) f0 f1 f3 f4 f5⟩
 self:=fun _ _ _ _ _ st h=>wpAny_pyIter_rangeiter st h
section
variable {X:Cx}{tg:Expr}
def zM (K:W.Frag)(tl:TE):TI:=fun σ H R=>tl σ H fun x H1=>∃ a,x=.ref a/\(∃ xs,eF K H1 a xs)/\R (C0 K a) H1
theorem fb {l:Expr}{tl:TE}(hl:PE X l tl):PI X tg l (zM X.K tl):=by
 intro pins s σ H R I h
 refine aT (hl pins s σ H _ I h) fun v s1 ⟨x,H1,I1,r1,q1⟩=>?_
 obtain⟨a,e,⟨xs,hq⟩,q⟩:=q1
 subst e
 cases r1
 obtain⟨aF,rv,p,hz⟩:=I1.list hq
 refine wpAny_pyIter_list p.isList ?_
 refine⟨s1.heap.objs.size,[s1.heap.objs.size],_,_,H1,rfl,I1.kept (t':=s1.toks) fun b o e=>k0 _ e,rL a _,⟨_,K3 _ rfl,rfl,rfl⟩,fun b hb=>?_,q⟩
 have e:b=s1.heap.objs.size:=by simpa using hb
 subst e
 exact I1.lZ (G1 _) (I1.aO.fresh (G1 _))
theorem nC {pins:List (Addr×Obj)}{σ:St}{H:Hp}{s:Shared}{R:It->Hp->Prop}{E:Value->Shared->Prop}{lo hi:Int}{t u v:Tok}{tk:Nat}(I:Inv X pins σ H s)(h1:-(2 ^ 62)<=lo)(h2:lo < 2 ^ 62)(h3:-(2 ^ 62)<=hi)(h4:hi < 2 ^ 62)(q:R (zL lo (hi - lo).toNat) H):wpAny (model X.prog X.w) X.A (pyIter (.ref s.heap.objs.size)) (HF X pins σ tg R) E { s with heap:=s.heap.push { cls:=.type "range",data:=.fields #[.int lo t,.int hi u,.int 1 v]},toks:=tk}:=by
 refine wpAny_pyIter_range (IsRange.new ..) (small_one h1 h2 h3 h4) ?_
 have I1:Inv X pins σ H { s with heap:=s.heap.push { cls:=.type "range",data:=.fields #[.int lo t,.int hi u,.int 1 v]},toks:=tk}:=I.kept fun b o e=>k0 _ e
 refine⟨(s.heap.push { cls:=.type "range",data:=.fields #[.int lo t,.int hi u,.int 1 v]}).objs.size,[(s.heap.push { cls:=.type "range",data:=.fields #[.int lo t,.int hi u,.int 1 v]}).objs.size],_,_,H,rfl,
   I1.kept (t':=tk) fun b o e=>k0 _ e,oW _ lo (hi - lo).toNat,?_,fun b hb=>?_,q⟩
 . have e1:lo+((0:Nat):Int) * 1=lo:=by simp
   have e2:(((hi - lo).toNat:Nat):Int) - ((0:Nat):Int)=Builtin.Range.rangeSize lo hi 1:=by rw[rangeSize_one];split <;> omega
   show IsRangeIter _ _ (lo+((0:Nat):Int) * 1) ((((hi - lo).toNat:Nat):Int) - ((0:Nat):Int)) 1
   rw[e1,e2]
   exact K3 _ rfl
 . have e:b=(s.heap.push { cls:=.type "range",data:=.fields #[.int lo t,.int hi u,.int 1 v]}).objs.size:=by simpa using hb
   subst e
   exact I1.lZ (G1 _) (I1.aO.fresh (G1 _))
def C1 (ta:TA):TI:=fun σ H R=>ta σ H fun vs H1=>∃ j:Int,vs=[.int j]/\-(2 ^ 62)<=j/\j < 2 ^ 62/\R (zL 0 j.toNat) H1
def zN (ta:TA):TI:=fun σ H R=>ta σ H fun vs H1=>∃ i j:Int,vs=[.int i,.int j]/\(-(2 ^ 62)<=i/\i < 2 ^ 62/\-(2 ^ 62)<=j/\j < 2 ^ 62)/\R (zL i (j - i).toNat) H1
theorem rM {a:Expr}{ta:TA}{p pos:Pos}(hg:Gl X "range")(hm:X.mg "range"=none)(ha:PA X [a] ta)(hs:starEach [a] X.env=[(false,eval a X.env)]:=by rfl):PI X tg (.Call (.Name "range" p) [a] [] pos) (C1 ta):=by
 intro pins s σ H R I h
 refine Call_ (dX I hg hm boot_range (PyProof.Rows.callWith_type1 (aT (ha pos pins s σ H _ I h) fun us s1 ⟨vs,H1,I1,r1,q1⟩=>?_) hs rfl))
 obtain⟨j,e,q1,q2,q⟩:=q1
 subst e
 cases r1 with
 | cons r rr=>
   cases rr
   obtain⟨t,rfl⟩:=r
   exact call_range_1 (nC I1 (by omega) (by omega) q1 q2 (by simpa using q))
theorem rN {a b:Expr}{ta:TA}{p pos:Pos}(hg:Gl X "range")(hm:X.mg "range"=none)(ha:PA X [a,b] ta)(hs:starEach [a,b] X.env=[(false,eval a X.env),(false,eval b X.env)]:=by rfl)(kK:starEach [b] X.env=[(false,eval b X.env)]:=by rfl):PI X tg (.Call (.Name "range" p) [a,b] [] pos) (zN ta):=by
 intro pins s σ H R I h
 refine Call_ (dX I hg hm boot_range (PyProof.Rows.callWith_type1 (aT (ha pos pins s σ H _ I h) fun us s1 ⟨vs,H1,I1,r1,q1⟩=>?_) (by rw[hs,kK]) (by rw[kK];rfl)))
 obtain⟨i,j,e,⟨q1,q2,q3,q4⟩,q⟩:=q1
 subst e
 cases r1 with
 | cons r rr=>
   cases rr with
   | cons r' rr=>
     cases rr
     obtain⟨t,rfl⟩:=r
     obtain⟨t',rfl⟩:=r'
     exact call_range_2 (nC I1 q1 q2 q3 q4 q)
def F1 (wi:TI)(g:TG)(tb:TS):TS:=fun D σ H=>wi σ H fun J H1=>∃ W:Nat->Nat->St->Hp->Prop,(∃ m,W 0 m σ H1)/\∀ i m σ H,W i m σ H ->
 (J.stop i H/\D.nx σ H)\/(J.go i H/\∃ N:St->Hp->Prop,(∀ σ' H',N σ' H'->∃ m',m' < m/\W (i+1) m' σ' H')/\∀ x H',J.t6 i H x H'->g x σ H' fun σ2 H2=>tb { D with nx:=N,ct:=N,bk:=D.nx} σ2 H2)
noncomputable def jI (fp:List Addr)(h:Heap):List (Addr×Obj):=fp.filterMap fun b=>(h.get? b).map fun o=>(b,o)
theorem cz {fp:List Addr}{h:Heap}{b:Addr}{o:Obj}(hb:b∈fp)(e:h.get? b=some o):(b,o)∈jI fp h:=List.mem_filterMap.mpr ⟨b,hb,by rw[e];rfl⟩
theorem rO {fp:List Addr}{h:Heap}{p:Addr×Obj}(hp:p∈jI fp h):p.1∈fp/\h.get? p.1=some p.2:=by
 obtain⟨b,hb,e⟩:=List.mem_filterMap.mp hp
 cases q:h.get? b with
 | none=>rw[q] at e;cases e
 | some o=>
   rw[q] at e
   have e':(b,o)=p:=Option.some.inj e
   subst e'
   exact⟨hb,q⟩
theorem Inv.pinned {pins:List (Addr×Obj)}{σ:St}{H:Hp}{s:Shared}{fp:List Addr}(I:Inv X pins σ H s)(hf:∀ b∈fp,eK X pins H b)(ho:∀ b∈fp,∃ o,s.heap.get? b=some o/\∀ v,o.data≠.cell v):Inv X (pins ++ jI fp s.heap) σ H s:=
 I.qc fun p hp=>(Me.mp hp).elim (fun z=>I.pin p (Lw _ z)) fun z=>by
   obtain⟨hb,e⟩:=rO z
   obtain⟨f0,f1,f2,_⟩:=hf p.1 hb
   obtain⟨o,e',d⟩:=ho p.1 hb
   rw[e] at e';cases e'
   exact⟨e,f0,f1,f2,d⟩
theorem Inv.dy {pins pl:List (Addr×Obj)}{σ:St}{H:Hp}{s:Shared}(I:Inv X (pins ++ pl) σ H s):Inv X pins σ H s:=I.qc fun p hp=>I.pin p (Lw _ (MG _ hp))
theorem oX {iter:Expr}{body:List Stmt}{wi:TI}{g:TG}{tb:TS}{pos:Pos}(hp:PassesOwn (model X.prog X.w) X.A X.env X.xe)(hc:X.calm=true)(hi:PI X tg iter wi)(hg:PG X tg g)(hb:qd X body tb)(hs:∀ x,foldedSetIterable iter X.env x=pure x:=by intro _;rfl):PS X (.For tg iter body [] pos) (F1 wi g tb):=by
 intro pins s σ H D I h
 refine wpAny_For (aT (hi pins s σ H _ I h) fun v s1 h1=>aT h1 fun CZ s2 h2=>?_) hs
 obtain⟨it,fp,tn,J,H2,e,I2,T,zO,f2,W,⟨m0,w0⟩,turn⟩:=h2
 subst e
 have jJ:∀ {H':Hp},(∀ b∈fp,H' b=none)->∀ b∈fp,eK X pins H' b:=fun hn b hb=>⟨hn b hb,(f2 b hb).2⟩
 refine codeAny_forLoop_any (fun n s'=>∃ i σ' H',Inv X pins σ' H' s'/\tn i s'.heap/\(∀ b∈fp,H' b=none)/\W i n σ' H') ?_ m0 ⟨0,σ,H2,I2,zO,fun b hb=>(f2 b hb).1,w0⟩
 rintro n s3 ⟨i,σ3,H3,I3,EM,HG,w3⟩
 rcases turn i n σ3 H3 w3 with⟨stop,qn⟩ | ⟨go,N,hN,step⟩
 . refine wpAny_passesOwn hp (aT (T.done X rfl rfl rfl hc i pins s3 σ3 H3 X.xe I3 (jJ HG) EM stop) fun r s4 ⟨hr,I4⟩=>?_)
   subst hr
   exact wpAny_execs_nil ⟨σ3,H3,I4,qn⟩
 . refine wpAny_passesOwn hp (aT (T.item X rfl rfl rfl hc i pins s3 σ3 H3 X.xe I3 (jJ HG) EM go) fun r s4 ⟨u,hr,h4⟩=>?_)
   subst hr
   refine wpAny_passesOwn hp (aT h4 fun _ s5 ⟨x,H5,I5,r5,y5,xO,AF⟩=>?_)
   have IT:=I5.pinned (jJ AF) (T.obj _ _ xO)
   refine wpAny_passesOwn hp (aT (hg _ s5 σ3 H5 x u _ IT r5 (step x H5 y5)) fun _ s6 ⟨σ6,H6,I6,q6⟩=>?_)
   refine wpAny_passesOwn hp (aT (hb _ s6 σ6 H6 _ I6 q6) fun f s7 q7=>?_)
   have again:∀ {σ7:St} {H7:Hp},Inv X (pins ++ jI fp s5.heap) σ7 H7 s7->N σ7 H7->∃ m,m < n/\∃ i σ' H',Inv X pins σ' H' s7/\tn i s7.heap/\(∀ b∈fp,H' b=none)/\W i m σ' H':=fun {σ7 H7} I7 n7=>by
     obtain⟨m',hm,w7⟩:=hN σ7 H7 n7
     refine⟨m',hm,i+1,σ7,H7,I7.dy,T.keep _ _ _ xO fun b hb o e=>(I7.pin (b,o) (Lw _ (Lw _ (cz hb e)))).1,fun b hb=>?_,w7⟩
     obtain⟨o,e,d⟩:=T.obj _ _ xO b hb
     exact(I7.pin (b,o) (Lw _ (Lw _ (cz hb e)))).2.1
   cases f with
   | next=>obtain⟨σ7,H7,I7,n7⟩:=q7;exact again I7 n7
   | cont=>obtain⟨σ7,H7,I7,n7⟩:=q7;exact again I7 n7
   | brk=>obtain⟨σ7,H7,I7,q7⟩:=q7;exact⟨σ7,H7,I7.dy,q7⟩
   | ret v=>obtain⟨x7,σ7,H7,I7,r7,q7⟩:=q7;exact⟨x7,σ7,H7,I7.dy,r7,q7⟩
end
theorem t7 {K:PySem.W.Frag}{a:Addr}{xs:List V}{g:TG}{tb:TS}{D:Ends}{σ:St}{H:Hp}(Pv:Nat->St->Hp->Prop)(h0:Pv 0 σ H)(hl:∀ i σ H,i<=xs.length->Pv i σ H->eF K H a xs)(hs:∀ i x σ H,xs[i]?=some x->Pv i σ H->g x σ H fun σ2 H2=>tb { D with nx:=Pv (i+1),ct:=Pv (i+1),bk:=D.nx} σ2 H2)(hd:∀ σ H,Pv xs.length σ H->D.nx σ H):∃ W:Nat->Nat->St->Hp->Prop,(∃ m,W 0 m σ H)/\∀ i m σ H,W i m σ H->((C0 K a).stop i H/\D.nx σ H)\/((C0 K a).go i H/\∃ N:St->Hp->Prop,(∀ σ' H',N σ' H'->∃ m',m' < m/\W (i+1) m' σ' H')/\∀ x H',(C0 K a).t6 i H x H'->g x σ H' fun σ2 H2=>tb { D with nx:=N,ct:=N,bk:=D.nx} σ2 H2):=by
 refine⟨fun i m σ H=>m=xs.length - i/\i<=xs.length/\Pv i σ H,⟨xs.length,by simp,LD _,h0⟩,?_⟩
 rintro i m σ H ⟨rfl,hi,p⟩
 have q:=hl i σ H hi p
 by_cases bM:i < xs.length
 . refine .inr ⟨⟨xs,xs[i],q,by simp[bM]⟩,Pv (i+1),fun σ' H' p'=>⟨xs.length - (i+1),by omega,rfl,bM,p'⟩,fun x H' y=>?_⟩
   obtain⟨e,y⟩:=y
   subst e
   exact hs i x σ _ (y xs q) p
 . have e:i=xs.length:=by omega
   subst e
   exact .inl ⟨⟨xs,q,G1 _⟩,hd σ H p⟩
theorem rP {lo:Int}{n:Nat}{g:TG}{tb:TS}{D:Ends}{σ:St}{H:Hp}(Pv:Nat->St->Hp->Prop)(h0:Pv 0 σ H)(hs:∀ i σ H,i < n->Pv i σ H->g (.int (lo+i)) σ H fun σ2 H2=>tb { D with nx:=Pv (i+1),ct:=Pv (i+1),bk:=D.nx} σ2 H2)(hd:∀ σ H,Pv n σ H->D.nx σ H):∃ W:Nat->Nat->St->Hp->Prop,(∃ m,W 0 m σ H)/\∀ i m σ H,W i m σ H->((zL lo n).stop i H/\D.nx σ H)\/((zL lo n).go i H/\∃ N:St->Hp->Prop,(∀ σ' H',N σ' H'->∃ m',m' < m/\W (i+1) m' σ' H')/\∀ x H',(zL lo n).t6 i H x H'->g x σ H' fun σ2 H2=>tb { D with nx:=N,ct:=N,bk:=D.nx} σ2 H2):=by
 refine⟨fun i m σ H=>m=n - i/\i<=n/\Pv i σ H,⟨n,by simp,LD _,h0⟩,?_⟩
 rintro i m σ H ⟨rfl,hi,p⟩
 by_cases bM:i < n
 . refine .inr ⟨bM,Pv (i+1),fun σ' H' p'=>⟨n - (i+1),by omega,rfl,bM,p'⟩,fun x H' y=>?_⟩
   obtain⟨e,y⟩:=y
   subst e y
   exact hs i σ _ bM p
 . have e:i=n:=by omega
   subst e
   exact .inl ⟨G1 _,hd σ H p⟩
abbrev R2:=V->V->Hp->VK->Prop
def gk (X:Cx)(f:Value->Value->Sem Value)(r:R2):Prop:=
 ∀ (pins:List (Addr×Obj)) (s:Shared) (σ:St) (H:Hp) (x y:V) (v u:Value) (Q:VK),Inv X pins σ H s->RelV x v->RelV y u->r x y H Q ->
   wpAny (model X.prog X.w) X.A (f v u) (EP X pins σ Q) X.xe s
def F2 (X:Cx)(f:Value->Sem Value)(r:V->Hp->VK->Prop):Prop:=
 ∀ (pins:List (Addr×Obj)) (s:Shared) (σ:St) (H:Hp) (x:V) (v:Value) (Q:VK),Inv X pins σ H s->RelV x v->r x H Q ->
   wpAny (model X.prog X.w) X.A (f v) (EP X pins σ Q) X.xe s
def eN (X:Cx)(f:Value)(r:List V->Hp->VK->Prop):Prop:=
 ∀ (pins:List (Addr×Obj)) (s:Shared) (σ:St) (H:Hp) (xs:List V) (us:List Value) (Q:VK),Inv X pins σ H s->Vals xs us->r xs H Q ->
   wpAny (model X.prog X.w) X.A (call f us) (EP X pins σ Q) X.xe s
def C2 (r:R2)(ta tb:TE):TE:=fun σ H Q=>ta σ H fun x H1=>tb σ H1 fun y H2=>r x y H2 Q
def IU (r:V->Hp->VK->Prop)(ta:TE):TE:=fun σ H Q=>ta σ H fun x H1=>r x H1 Q
def rI (C:Int->Int->Prop)(g:Int->Int->V):R2:=fun x y H Q=>∃ i j,x=.int i/\y=.int j/\C i j/\Q (g i j) H
def xP (g:Int->Int->V):R2:=fun x y H Q=>∃ i j,x=.int i/\y=.int j/\Q (g i j) H
def rU (g:Int->V):V->Hp->VK->Prop:=fun x H Q=>∃ i,x=.int i/\Q (g i) H
section
variable {X:Cx}{a b:Expr}{ta tb:TE}{pos:Pos}
theorem AG (ha:PE X a ta)(hb:PE X b tb){pins:List (Addr×Obj)}{s:Shared}{σ:St}{H:Hp}{R:V->V->Hp->Prop}(I:Inv X pins σ H s)(h:ta σ H fun x H1=>tb σ H1 fun y H2=>R x y H2){Q:Value->Shared->Prop}{f:Value->Value->Sem Value}(hf:∀ v u s2 x y H2,Inv X pins σ H2 s2->RelV x v->RelV y u->R x y H2->wpAny (model X.prog X.w) X.A (f v u) Q X.xe s2):wpAny (model X.prog X.w) X.A (eval a X.env) (fun v s₁=>wpAny (model X.prog X.w) X.A (eval b X.env) (fun u s₂=>wpAny (model X.prog X.w) X.A (f v u) Q X.xe s₂) X.xe s₁) X.xe s:=by
 refine aT (ha pins s σ H _ I h) fun v s1 ⟨x,H1,I1,r1,q1⟩=>?_
 refine aT (hb pins s1 σ H1 _ I1 q1) fun u s2 ⟨y,H2,I2,r2,q2⟩=>?_
 exact hf v u s2 x y H2 I2 r1 r2 q2
theorem C3 {op:Operator}{r:R2}(ho:gk X (binaryOp op) r)(ha:PE X a ta)(hb:PE X b tb):PE X (.BinOp a op b pos) (C2 r ta tb):=by
 intro pins s σ H Q I h
 exact wpAny_BinOp (AG ha hb I h fun v u s2 x y H2 I2 rx ry q=>ho pins s2 σ H2 x y v u Q I2 rx ry q)
theorem C4 {op:UnaryOp}{r:V->Hp->VK->Prop}(ho:F2 X (unaryOp op) r)(ha:PE X a ta):PE X (.UnaryOp op a pos) (IU r ta):=by
 intro pins s σ H Q I h
 exact UnaryOp_ (aT (ha pins s σ H _ I h) fun v s1 ⟨x,H1,I1,r1,q1⟩=>ho pins s1 σ H1 x v Q I1 r1 q1)
theorem EN {f:Value->Value->Sem Value}{C:Int->Int->Prop}{g:Int->Int->Int}(rule:∀ (i j:Int) (t u:Tok) (s:Shared) (Q:Value->Shared->Prop) (E:Value->Shared->Prop),C i j->Q (.int (g i j) s.toks) { s with toks:=s.toks+1}->wpAny (model X.prog X.w) X.A (f (.int i t) (.int j u)) Q E s):gk X f (rI C fun i j=>.int (g i j)):=by
 intro pins s σ H x y v u Q I rx ry h
 obtain⟨i,j,rfl,rfl,hc,q⟩:=h
 obtain⟨t,rfl⟩:=rx
 obtain⟨t',rfl⟩:=ry
 exact rule i j t t' s _ _ hc ⟨.int (g i j),H,I.tok _,⟨_,rfl⟩,q⟩
theorem C5 {f:Value->Value->Sem Value}{g:Int->Int->Int}(rule:∀ (i j:Int) (t u:Tok) (s:Shared) (Q:Value->Shared->Prop) (E:Value->Shared->Prop),Q (.int (g i j) s.toks) { s with toks:=s.toks+1}->wpAny (model X.prog X.w) X.A (f (.int i t) (.int j u)) Q E s):gk X f (xP fun i j=>.int (g i j)):=by
 intro pins s σ H x y v u Q I rx ry h
 obtain⟨i,j,rfl,rfl,q⟩:=h
 obtain⟨t,rfl⟩:=rx
 obtain⟨t',rfl⟩:=ry
 exact rule i j t t' s _ _ ⟨.int (g i j),H,I.tok _,⟨_,rfl⟩,q⟩
theorem xQ {f:Value->Value->Sem Value}{g:Int->Int->Bool}(rule:∀ (i j:Int) (t u:Tok) (s:Shared) (Q:Value->Shared->Prop) (E:Value->Shared->Prop),Q (.bool (g i j)) s->wpAny (model X.prog X.w) X.A (f (.int i t) (.int j u)) Q E s):gk X f (xP fun i j=>.bl (g i j)):=by
 intro pins s σ H x y v u Q I rx ry h
 obtain⟨i,j,rfl,rfl,q⟩:=h
 obtain⟨t,rfl⟩:=rx
 obtain⟨t',rfl⟩:=ry
 exact rule i j t t' s _ _ ⟨.bl (g i j),H,I,rfl,q⟩
def C6 (i j:Int):Prop:=0<=j/\j<=1000000/\i.natAbs < 2 ^ 64
def rQ (i j:Int):Prop:=(-(2 ^ 64) < i/\i < 2 ^ 64)\/(-(2 ^ 64) < j/\j < 2 ^ 64)
theorem rQ.ok {i j:Int}(h:rQ i j):IntMulOk i j:=by
 rcases h with⟨h1,h2⟩ | ⟨h1,h2⟩
 . exact .of_left (intBits_le_64 h1 h2)
 . exact .of_right (intBits_le_64 h1 h2)
theorem AH:gk X (binaryOp .Add) (xP fun i j=>.int (i+j)):=C5 fun _ _ _ _ _ _ _ q=>add_int q
theorem AI:gk X (binaryOp .Sub) (xP fun i j=>.int (i - j)):=C5 fun _ _ _ _ _ _ _ q=>sub_int q
theorem AJ:gk X (binaryOp .Mod) (rI (fun _ j=>0 < j) fun i j=>.int (i % j)):=EN fun i j _ _ _ _ _ hc q=>by
 have h1:(0:Int) < j:=hc
 exact mod_int' (by omega) (by rw[Int.fmod_eq_emod_of_nonneg i (by omega)];exact q)
theorem AK:gk X (binaryOp .Pow) (rI C6 fun i j=>.int (i ^ j.toNat)):=EN fun _ _ _ _ _ _ _ hc q=>pow_int_small hc.1 hc.2.1 hc.2.2 q
theorem IV {f:Value->Sem Value}{g:Int->Int}(rule:∀ (i:Int) (t:Tok) (s:Shared) (Q:Value->Shared->Prop) (E:Value->Shared->Prop),Q (.int (g i) s.toks) { s with toks:=s.toks+1}->wpAny (model X.prog X.w) X.A (f (.int i t)) Q E s):F2 X f (rU fun i=>.int (g i)):=by
 intro pins s σ H x v Q I rx h
 obtain⟨i,rfl,q⟩:=h
 obtain⟨t,rfl⟩:=rx
 exact rule i t s _ _ ⟨.int (g i),H,I.tok _,⟨_,rfl⟩,q⟩
theorem AL:F2 X (unaryOp .USub) (rU fun i=>.int (-i)):=IV fun _ _ _ _ _ q=>neg_int q
end
noncomputable def xR:V->V->Bool
 | .aW,.aW=>true | .aW,.int _=>true | .int _,.aW=>true | .aW,.bl _=>true | .bl _,.aW=>true | .aW,.str _=>true | .str _,.aW=>true
 | .int _,.int _=>true | .bl _,.bl _=>true | .str _,.str _=>true | .rE _,.rE _=>true
 | .int _,.str _=>true | .str _,.int _=>true | .bl _,.str _=>true | .str _,.bl _=>true
 | _,_=>false
def IW:R2:=fun x y H Q=>xR x y=true/\Q (.bl (decide (x=y))) H
def IX:R2:=fun x y H Q=>xR x y=true/\Q (.bl (!decide (x=y))) H
theorem ff {i j:Int}:decide (V.int i=V.int j)=(i == j):=by
 rw[MJ]
 simp
theorem t8 {i j:Bool}:decide (V.bl i=V.bl j)=(i == j):=by
 rw[MJ]
 simp
theorem gw {i j:Str}:decide (V.str i=V.str j)=(i == j):=by
 rw[MJ]
 simp
theorem qh {i j:Array UInt8}:decide (V.rE i=V.rE j)=(i.toList == j.toList):=by
 rw[MJ]
 cases i
 cases j
 simp
section
variable {X:Cx}{a b c:Expr}{ta tb tc:TE}{pos:Pos}
theorem aG {pins:List (Addr×Obj)}{σ:St}{H:Hp}{s:Shared}{Q:VK}{k k':Bool}(I:Inv X pins σ H s)(q:Q (.bl k) H)(e:k=k'):EP X pins σ Q (.bool k') s:=by
 subst e
 exact⟨.bl k,H,I,rfl,q⟩
theorem t9:gk X (compareOp .Eq) IW:=by
 intro pins s σ H x y v u Q I rx ry h
 obtain⟨hs,q⟩:=h
 cases x with
 | aW=>
   cases rx
   cases y with
   | aW=>cases ry;exact PySem.EqNone.eq_none_none (aG I q (by simp))
   | bl j=>cases ry;exact PySem.EqNone.eq_none_bool (aG I q (by simp))
   | int j=>obtain⟨t',rfl⟩:=ry;exact PySem.EqNone.eq_none_int (aG I q (by simp))
   | str j=>obtain⟨t',rfl⟩:=ry;exact PySem.EqNone.eq_none_str (aG I q (by simp))
   | _=>exact absurd (show false=true from hs) K8
 | bl i=>
   cases rx
   cases y with
   | aW=>cases ry;exact PySem.EqNone.eq_bool_none (aG I q (by simp))
   | bl j=>cases ry;exact eq_bool (aG I q t8)
   | str j=>obtain⟨t',rfl⟩:=ry;exact PySem.EqMixed.eq_bool_str (aG I q (by simp))
   | _=>exact absurd (show false=true from hs) K8
 | int i=>
   obtain⟨t,rfl⟩:=rx
   cases y with
   | aW=>cases ry;exact PySem.EqNone.eq_int_none (aG I q (by simp))
   | int j=>obtain⟨t',rfl⟩:=ry;exact eq_int (aG I q ff)
   | str j=>obtain⟨t',rfl⟩:=ry;exact PySem.EqMixed.eq_int_str (aG I q (by simp))
   | _=>exact absurd (show false=true from hs) K8
 | str i=>
   obtain⟨t,rfl⟩:=rx
   cases y with
   | aW=>cases ry;exact PySem.EqNone.eq_str_none (aG I q (by simp))
   | bl j=>cases ry;exact PySem.EqMixed.eq_str_bool (aG I q (by simp))
   | int j=>obtain⟨t',rfl⟩:=ry;exact PySem.EqMixed.eq_str_int (aG I q (by simp))
   | str j=>obtain⟨t',rfl⟩:=ry;exact eq_str (aG I q gw)
   | _=>exact absurd (show false=true from hs) K8
 | rE i=>
   obtain⟨t,rfl⟩:=rx
   cases y with
   | rE j=>obtain⟨t',rfl⟩:=ry;exact W.eq_bytes (aG I q qh)
   | _=>exact absurd (show false=true from hs) K8
 | _=>cases y <;> exact absurd (show false=true from hs) K8
theorem zP:gk X (compareOp .NotEq) IX:=by
 intro pins s σ H x y v u Q I rx ry h
 obtain⟨hs,q⟩:=h
 cases x with
 | aW=>
   cases rx
   cases y with
   | aW=>cases ry;exact PySem.EqNone.ne_none_none (aG I q (by simp))
   | bl j=>cases ry;exact PySem.EqNone.ne_none_bool (aG I q (by simp))
   | int j=>obtain⟨t',rfl⟩:=ry;exact PySem.EqNone.ne_none_int (aG I q (by simp))
   | str j=>obtain⟨t',rfl⟩:=ry;exact PySem.EqNone.ne_none_str (aG I q (by simp))
   | _=>exact absurd (show false=true from hs) K8
 | bl i=>
   cases rx
   cases y with
   | aW=>cases ry;exact PySem.EqNone.ne_bool_none (aG I q (by simp))
   | bl j=>cases ry;exact ne_bool (aG I q (congrArg not t8))
   | str j=>obtain⟨t',rfl⟩:=ry;exact PySem.EqMixed.ne_bool_str (aG I q (by simp))
   | _=>exact absurd (show false=true from hs) K8
 | int i=>
   obtain⟨t,rfl⟩:=rx
   cases y with
   | aW=>cases ry;exact PySem.EqNone.ne_int_none (aG I q (by simp))
   | int j=>obtain⟨t',rfl⟩:=ry;exact ne_int (aG I q (congrArg not ff))
   | str j=>obtain⟨t',rfl⟩:=ry;exact PySem.EqMixed.ne_int_str (aG I q (by simp))
   | _=>exact absurd (show false=true from hs) K8
 | str i=>
   obtain⟨t,rfl⟩:=rx
   cases y with
   | aW=>cases ry;exact PySem.EqNone.ne_str_none (aG I q (by simp))
   | bl j=>cases ry;exact PySem.EqMixed.ne_str_bool (aG I q (by simp))
   | int j=>obtain⟨t',rfl⟩:=ry;exact PySem.EqMixed.ne_str_int (aG I q (by simp))
   | str j=>obtain⟨t',rfl⟩:=ry;exact ne_str (aG I q (congrArg not gw))
   | _=>exact absurd (show false=true from hs) K8
 | rE i=>
   obtain⟨t,rfl⟩:=rx
   cases y with
   | rE j=>obtain⟨t',rfl⟩:=ry;exact W.ne_bytes (aG I q (congrArg not qh))
   | _=>exact absurd (show false=true from hs) K8
 | _=>cases y <;> exact absurd (show false=true from hs) K8
theorem zQ:gk X (compareOp .Lt) (xP fun i j=>.bl (decide (i < j))):=xQ fun _ _ _ _ _ _ _ q=>lt_int q
theorem zR:gk X (compareOp .LtE) (xP fun i j=>.bl (decide (i<=j))):=xQ fun _ _ _ _ _ _ _ q=>le_int q
theorem C7:gk X (compareOp .Gt) (xP fun i j=>.bl (decide (j < i))):=xQ fun _ _ _ _ _ _ _ q=>gt_int q
theorem C8:gk X (compareOp .GtE) (xP fun i j=>.bl (decide (j<=i))):=xQ fun _ _ _ _ _ _ _ q=>ge_int q
theorem dn (b:Expr){op:CmpOp}(h:op≠.In:=by decide)(h2:op≠.NotIn:=by decide):behindInMarks op b=false:=by
 have e1:(op == CmpOp.In)=false:=by cases op <;> first | rfl | exact absurd rfl h
 have e2:(op == CmpOp.NotIn)=false:=by cases op <;> first | rfl | exact absurd rfl h2
 cases b <;> simp[behindInMarks,e1,e2]
theorem xS {op:CmpOp}{r:R2}(ho:gk X (compareOp op) r)(ha:PE X a ta)(hb:PE X b tb)(hm:behindInMarks op b=false):PE X (.Compare a [op] [b] pos) (C2 r ta tb):=by
 intro pins s σ H Q I h
 exact wpAny_Compare1 (AG ha hb I h fun v u s2 x y H2 I2 rx ry q=>ho pins s2 σ H2 x y v u Q I2 rx ry q) hm
def C9 (t:TE):TT:=fun σ H Q=>t σ H fun x H'=>∃ k,x=.bl k/\Q k H'
theorem xU {op:CmpOp}{r:R2}(ho:gk X (compareOp op) r)(ha:PE X a ta)(hb:PE X b tb)(hm:behindInMarks op b=false):PT X (.Compare a [op] [b] pos) (C9 (C2 r ta tb)):=by
 intro pins s σ H Q I h
 refine wpAny_isTrue_Compare1 (aT (ha pins s σ H _ I h) fun v s1 ⟨x,H1,I1,r1,q1⟩=>aT (hb pins s1 σ H1 _ I1 q1) fun u s2 ⟨y,H2,I2,r2,q2⟩=>
   aT (ho pins s2 σ H2 x y v u _ I2 r1 r2 q2) fun c s3 ⟨z,H3,I3,r3,k,e,q3⟩=>?_) hm
 subst e
 cases r3
 exact wpAny_truthy_bool ⟨H3,I3,q3⟩
def AM (r r':R2)(ta tb tc:TE):TE:=fun σ H Q=>ta σ H fun x H1=>tb σ H1 fun y H2=>r x y H2 fun z H3=>∃ k,z=.bl k /\
 (if k=true then tc σ H3 fun w' H4=>r' y w' H4 Q else Q (.bl false) H3)
theorem ua {op AN:CmpOp}{r r':R2}(ho:gk X (compareOp op) r)(tT:gk X (compareOp AN) r')(ha:PE X a ta)(hb:PE X b tb)(hc:PE X c tc)(hm:lastMarks [op,AN] [b,c]=false:=by with_unfolding_all rfl):PE X (.Compare a [op,AN] [b,c] pos) (AM r r' ta tb tc):=by
 intro pins s σ H Q I h
 refine Compare_chain (aT (ha pins s σ H _ I h) fun v s1 ⟨x,H1,I1,r1,q1⟩=>chain_link (aT (hb pins s1 σ H1 _ I1 q1) fun u s2 ⟨y,H2,I2,r2,q2⟩=>
   aT (ho pins s2 σ H2 x y v u _ I2 r1 r2 q2) fun d s3 ⟨z,H3,I3,r3,k,e,q3⟩=>?_)) hm
 subst e
 cases r3
 refine wpAny_truthy_bool ?_
 cases k with
 | false=>exact ite_ff ⟨.bl false,H3,I3,rfl,q3⟩
 | true=>exact ite_tt (chain_last (aT (hc pins s3 σ H3 _ I3 q3) fun w' s4 ⟨z',H4,I4,r4,q4⟩=>tT pins s4 σ H4 y z' u w' Q I4 r2 r4 q4))
theorem jK:(sizeLine:Nat) < 2 ^ 63:=by rw[sizeLine_eq];decide
theorem oY:gk X (binaryOp .Add) (fun x y H Q=>∃ i j,x=.str i/\y=.str j/\i.length+j.length<=sizeLine/\Q (.str (i ++ j)) H):=by
 intro pins s σ H x y v u Q I rx ry h
 obtain⟨i,j,rfl,rfl,hz,q⟩:=h
 obtain⟨t,rfl⟩:=rx
 obtain⟨t',rfl⟩:=ry
 exact add_str (fun t' tk=>⟨.str (i ++ j),H,I.tok _,⟨_,rfl⟩,q⟩) hz
theorem vals1 {x:V}{us:List Value}(r:Vals [x] us):∃ u,us=[u]/\RelV x u:=by
 cases r with
 | cons r1 r2=>cases r2;exact⟨_,rfl,r1⟩
theorem vals2 {x y:V}{us:List Value}(r:Vals [x,y] us):∃ u w',us=[u,w']/\RelV x u/\RelV y w':=by
 cases r with
 | cons r1 r2=>
   cases r2 with
   | cons r3 r4=>cases r4;exact⟨_,_,rfl,r1,r3⟩
theorem rR (hc:X.calm=true):eN X (.builtin "min") (fun xs H Q=>∃ i j,xs=[.int i,.int j]/\Q (.int (if j < i then j else i)) H):=by
 intro pins s σ H xs us Q I r h
 obtain⟨i,j,rfl,q⟩:=h
 obtain⟨u,w',rfl,⟨t,rfl⟩,⟨t',rfl⟩⟩:=vals2 r
 refine min_two_ints (I.ok.hd hc) fun h' tk k=>⟨_,H,I.kept k,?_,q⟩
 by_cases hj:j < i
 . rw[if_pos hj,if_pos hj];exact⟨_,rfl⟩
 . rw[if_neg hj,if_neg hj];exact⟨_,rfl⟩
end
structure oZ (h:Heap)(x dx C:Addr)(mA:Str->Option Value):Prop where
 obj:h.get? x=some (W.instObj C dx)
 ns:h.Ns1 dx mA
 ne:dx≠x
theorem rS {h:Heap}{dx:Addr}{mA:Str->Option Value}(n:h.Ns1 dx mA):∃ od,h.get? dx=some od/\∀ name,W.lookIn name od=some (mA name):=by
 obtain⟨o,es,ep,ho,hd,hk,_,hm⟩:=n
 refine⟨o,ho,fun name=>?_⟩
 have e:=hm name
 unfold nsFind findBy at e
 rw[<- Array.find?_toList] at e
 unfold W.lookIn
 rw[hd]
 dsimp only
 split
 . rename_i y q
   rw[q] at e
   exact congrArg some e
 . rename_i q
   rw[q] at e
   have a:es.toList.any (·.refKey)=false:=by
     rw[List.any_eq_false]
     intro y hy
     obtain⟨z,t,F3⟩:=hk y (Array.mem_toList_iff.mp hy)
     simp[DictEntry.refKey,F3]
   have a':¬ es.toList.any (·.refKey)=true:=by rw[a];exact K8
   rw[if_neg a']
   exact congrArg some e
theorem oZ.look {h:Heap}{x dx C:Addr}{mA:Str->Option Value}(I:oZ h x dx C mA):∃ od,W.InstAt h x (W.instObj C dx) C (some od)/\∀ name,W.lookIn name od=some (mA name):=
 let ⟨od,ho,hl⟩:=rS I.ns
 ⟨od,⟨I.obj,rfl,rfl,ho⟩,hl⟩
section
variable {prog:Program}{w:World}{A:Around}{E:Value->Shared->Prop}{s:Shared}{K:W.Frag}{x dx C f:Addr}{mA:Str->Option Value}{name:Str}{v:Value}
theorem get_map {expr:Bool}{Q:Value->Shared->Prop}(X:K.In s.heap)(I:oZ s.heap x dx C mA)(hg:W.plainGet K C name=true)(hh:W.hasDictIn K C=true)(ha:W.findIn K (.ref C) name=some none)(hv:mA name=some v)(ER:W.handedIn v=true)(h:Q v { s with toks:=s.toks+1}):wpAny (model prog w) A (getAttr (.ref x) name expr) Q E s:=by
 obtain⟨od,J,hl⟩:=I.look
 exact W.get_value X J (W.plainGet_of hg).1 (W.findObj_own hh ha rfl (by rw[hl,hv])) ER h
theorem ub {pl:Sem Bool}{Q:Value×List Value->Shared->Prop}(X:K.In s.heap)(I:oZ s.heap x dx C mA)(hg:W.plainGet K C name=true)(hf:W.findIn K (.ref C) name=some (some (.ref f)))(ht:W.isFn K (.ref f)=true)(hv:mA name=none)(h:Q (.ref f,[.ref x]) s):wpAny (model prog w) A (getMethod (.ref x) name pl) Q E s:=by
 obtain⟨od,J,hl⟩:=I.look
 exact W.method_fn X J (W.plainGet_of hg).1 (W.plainGet_of hg).2 hf (beq_iff_eq.mp ht) (by show(W.lookIn name od).map (·.isSome)=some false;rw[hl,hv];rfl) h
theorem xV {ns:List Str}{Q:Unit->Shared->Prop}(X:K.In s.heap)(I:oZ s.heap x dx C mA)
   (hs:W.findIn K (.ref C) "__setattr__"=some (some (.builtin "object.__setattr__"))) (hp:W.plainOver K C=true) (ht:W.takerIn K C name=some none) (hh:W.hasDictIn K C=true)
   (hw:PySem.Within mA ns) (hsz:ns.length<=sizeLine)
   (h:∀ h',oZ h' x dx C (fun y=>if y=name then some v else mA y)->Ma dx s.heap h'->Q () { s with heap:=h',toks:=s.toks+2}) :
   wpAny (model prog w) A (setAttr (.ref x) name v) Q E s:=by
 obtain⟨od,J,hl⟩:=I.look
 refine W.set_plain X J hs (W.osa_open (s:={ s with toks:=s.toks+1}) (r:=none) X J hp ht fun b=>?_)
 obtain⟨cd,hc,FI⟩:=W.any_some hh
 have hx:s.heap.get? x=some ⟨.ref C,some dx,.plain,#[]⟩:=I.obj
 refine wpAny_bind (wpAny_pure (wpAny_bind (wpAny_bind (wpAny_loadPart hx (wpAny_bind (W.Looks.here (s:={ s with toks:=s.toks+1}) (W.looks_clsIn X hc) ?_))))))
 rw[FI]
 refine wpAny_pure (a:=some dx) (wpAny_bind (wpAny_pure (wpAny_bind ?_)))
 refine wpAny_nsSet1 (s:={ s with toks:=s.toks+1}) I.ns fun h' CD kK=>?_
 obtain⟨oD,KL,KN,IY,IZ,xW⟩:=CD.count (PySem.Within.cons name v hw)
 refine wpAny_bind (wpAny_lookBehind IY (by rw[IZ];exact pastItsLine_dict (LA xW (by rw[Lr];omega))) ?_)
 exact wpAny_pure (h _ ⟨(kK.2 _ (Ne.symm I.ne)).trans I.obj,CD,I.ne⟩ kK)
theorem ue {R:Result->Shared->Prop}{vs:List Value}{kw:List (Str×Value)}(X:K.In s.heap)(hm:W.makesIn K C=true)(hi:W.findIn K (.ref C) "__init__"=some (some (.ref f)))(hf:W.typeIn K (.ref f)=some (.type "function"))(h:codeAny (model prog w) (A.under (.builtin "type.__call__" ⟨.ref C::vs,kw⟩)) (.call (.ref f) ⟨.ref (s.heap.objs.size+1)::vs,kw⟩) (W.InitBack (s.heap.objs.size+1) R) { s with heap:=(s.heap.push W.emptyDict).push (W.instObj C s.heap.objs.size)}):codeAny (model prog w) A (.call (.ref C) ⟨vs,kw⟩) R s:=by
 obtain⟨hh,g,d,t,os⟩:=s
 exact W.make_core (W.makes_of X hm) (W.looks_findIn X hi) (fun self=>W.bind_fn X self hf) (.inl rfl) h
theorem rT {R:Result->Shared->Prop}(X:K.In s.heap)(hm:W.makesIn K C=true)(hi:W.findIn K (.ref C) "__init__"=some (some (.builtin "object.__init__")))(hb:∀ self,W.Looks (model prog w) s.heap (bindSpecial (.builtin "object.__init__") self) (.builtin "object.__init__",[self]))(h:codeAny (model prog w) (A.under (.builtin "type.__call__" ⟨[.ref C],[]⟩)) (.call (.builtin "object.__init__") ⟨[.ref (s.heap.objs.size+1)],[]⟩) (W.InitBack (s.heap.objs.size+1) R) { s with heap:=(s.heap.push W.emptyDict).push (W.instObj C s.heap.objs.size)}):codeAny (model prog w) A (.call (.ref C) ⟨[],[]⟩) R s:=by
 obtain⟨hh,g,d,t,os⟩:=s
 exact W.make_core (W.makes_of X hm) (W.looks_findIn X hi) hb (.inr ⟨rfl,rfl⟩) h
end
noncomputable def dq (f:Str)(v:V):List (Str×V)->List (Str×V)
 | []=>[(f,v)]
 | (g,x)::r=>if g=f then (g,v)::r else (g,x)::dq f v r
theorem eO (f g:Str)(v:V):∀ fs:List (Str×V),(dq f v fs).lookup g=if g=f then some v else fs.lookup g
 | []=>by
   show Mx g [(f,v)]=_
   by_cases h:g=f
   . have hb:(g == f)=true:=beq_iff_eq.mpr h
     simp only[Mx,hb,if_pos h]
   . have hb:(g == f)=false:=beq_eq_false_iff_ne.mpr h
     simp only[Mx,hb,if_neg h]
 | (k,x)::r=>by
   have ih:=eO f g v r
   rw[show dq f v ((k,x)::r)=(if k=f then (k,v)::r else (k,x)::dq f v r) from rfl]
   by_cases hk:k=f
   . rw[if_pos hk]
     by_cases h:g=k
     . have hb:(g == k)=true:=beq_iff_eq.mpr h
       simp only[Mx,hb,if_pos (h.trans hk)]
     . have hb:(g == k)=false:=beq_eq_false_iff_ne.mpr h
       simp only[Mx,hb,if_neg (fun e:g=f=>h (e.trans hk.symm))]
   . rw[if_neg hk]
     by_cases h:g=k
     . have hb:(g == k)=true:=beq_iff_eq.mpr h
       simp only[Mx,hb,if_neg (fun e:g=f=>hk (h.symm.trans e))]
     . have hb:(g == k)=false:=beq_eq_false_iff_ne.mpr h
       simp only[Mx,hb]
       exact ih
theorem hB (f:Str)(v:V):∀ fs:List (Str×V),f∈(dq f v fs).map (·.1)/\∀ g,g∈fs.map (·.1)->g∈(dq f v fs).map (·.1)
 | []=>⟨by simp[dq],fun g h=>by simp at h⟩
 | (k,x)::r=>by
   obtain⟨i1,i2⟩:=hB f v r
   rw[show dq f v ((k,x)::r)=(if k=f then (k,v)::r else (k,x)::dq f v r) from rfl]
   by_cases hk:k=f
   . rw[if_pos hk]
     subst hk
     exact⟨by simp,fun g h=>by simpa using h⟩
   . rw[if_neg hk]
     refine⟨?_,fun g h=>?_⟩
     . rw[Lv]
       exact KY _ i1
     . rw[Lv] at h ⊢
       rcases K4.mp h with e | e
       . exact K4.mpr (.inl e)
       . exact KY _ (i2 g e)
theorem iN (f:Str)(v:V):∀ fs:List (Str×V),(dq f v fs).length<=fs.length+1
 | []=>by simp[dq]
 | (k,x)::r=>by
   have ih:=iN f v r
   rw[show dq f v ((k,x)::r)=(if k=f then (k,v)::r else (k,x)::dq f v r) from rfl]
   by_cases hk:k=f
   . rw[if_pos hk,Lr,Lr];omega
   . rw[if_neg hk,Lr,Lr];omega
theorem eJ.some_of {v:V}{o:Option Value}(r:eJ (some v) o):∃ u,o=some u/\RelV v u:=by
 cases o with
 | none=>exact(show False from r).elim
 | some u=>exact⟨u,rfl,r⟩
theorem eJ.none_of {o:Option Value}(r:eJ none o):o=none:=by
 cases o with
 | none=>rfl
 | some u=>exact(show False from r).elim
theorem rV {v:V}{u:Value}(r:RelV v u):W.handedIn u=true:=by
 cases v with
 | aW=>cases (show u=Value.none from r);rfl
 | bl b=>cases (show u=Value.bool b from r);rfl
 | int i=>obtain⟨t,e⟩:=(show ∃ t,u=Value.int i t from r);cases e;rfl
 | str x=>obtain⟨t,e⟩:=(show ∃ t,u=Value.str x t from r);cases e;rfl
 | rE b=>obtain⟨t,e⟩:=(show ∃ t,u=Value.bytes b t from r);cases e;rfl
 | zF b=>obtain⟨t,e⟩:=(show ∃ t,u=Value.float b t from r);cases e;rfl
 | ref a=>cases (show u=Value.ref a from r);rfl
 | ty n=>cases (show u=Value.type n from r);rfl
section
variable {P:Program}{w:World}{H:Hp}{h:Heap}{a C dx:Addr}{fs:List (Str×V)}
theorem jd (aO:gj P w H h)(e:Rd H a (.ins C dx fs)):∃ mA,oZ h a dx C mA/\(∀ f,eJ (fs.lookup f) (mA f))/\PySem.Within mA (fs.map (·.1))/\fs.length<=1000/\H dx=some (.own a):=by
 obtain⟨d,z,ne,ob,mA,n,r,q⟩:=(show aM P w H h a (.ins C dx fs) from e.ok aO)
 exact⟨mA,⟨ob,n,ne⟩,r,q,z,d⟩
end
structure l3 (K:W.Frag)(C:Addr):Prop where
 pg:W.plainGet K C Str.empty=true
 hd:W.hasDictIn K C=true
 po:W.plainOver K C=true
 sa:W.findIn K (.ref C) "__setattr__"=some (some (.builtin "object.__setattr__"))
theorem l3.get {K:W.Frag}{C:Addr}(c:l3 K C)(f:Str):W.plainGet K C f=true:=c.pg
def de (K:W.Frag)(C:Addr)(f:Str):Prop:=W.findIn K (.ref C) f=some none
theorem de.Dc {K:W.Frag}{C:Addr}{f:Str}(n:de K C f):W.takerIn K C f=some none:=by
 unfold W.takerIn
 rw[show W.findIn K (.ref C) f=some none from n]
 rfl
structure KO (K:W.Frag)(C:Addr)(f:Str)(v:V)(u:Value):Prop where
 at_:W.findIn K (.ref C) f=some (some u)
 rel:RelV v u
 get:W.specialIn K u "__get__"=some none
 cp:W.copiedNames.contains f=false
structure Meth (K:W.Frag)(C:Addr)(m:Str)(f:Addr):Prop where
 at_:W.findIn K (.ref C) m=some (some (.ref f))
 fn:W.isFn K (.ref f)=true
 kp:W.keepIn K (.ref f)=true
section
variable {X:Cx}{pins:List (Addr×Obj)}{σ:St}{H:Hp}{s:Shared}{a C dx:Addr}{fs:List (Str×V)}{f:Str}{v:V}{A:Around}{E:Value->Shared->Prop}
theorem o3 {b:Bool}{Q:Value->Shared->Prop}(I:Inv X pins σ H s)(e:Rd H a (.ins C dx fs))(c:l3 X.K C)(n:de X.K C f)(l:fs.lookup f=some v)(h:∀ u s',Inv X pins σ H s'->RelV v u->Q u s'):wpAny (model X.prog X.w) A (getAttr (.ref a) f b) Q E s:=by
 obtain⟨mA,O,r,_,_,_⟩:=jd I.aO e
 obtain⟨u,hu,ru⟩:=eJ.some_of (v:=v) (o:=mA f) (by rw[<- l];exact r f)
 exact get_map I.dW O (c.get f) c.hd n hu (rV ru) (h u _ (I.tok _) ru)
theorem jL {m:Str}{g:Addr}{pl:Sem Bool}{Q:Value×List Value->Shared->Prop}(I:Inv X pins σ H s)(e:Rd H a (.ins C dx fs))(c:l3 X.K C)(k:Meth X.K C m g)(l:fs.lookup m=none)(h:Q (.ref g,[.ref a]) s):wpAny (model X.prog X.w) A (getMethod (.ref a) m pl) Q E s:=by
 obtain⟨mA,O,r,_,_,_⟩:=jd I.aO e
 have hn:mA m=none:=eJ.none_of (by rw[<- l];exact r m)
 exact ub I.dW O (c.get m) k.at_ k.fn hn h
theorem o4 {y:V}{u:Value}{Q:Unit->Shared->Prop}(I:Inv X pins σ H s)(e:H a=some (.ins C dx fs))(c:l3 X.K C)(n:de X.K C f)(hl:fs.length < 1000)(ry:RelV y u)(h:∀ s',Inv X pins σ (upd H a (.ins C dx (dq f y fs))) s'->Q () s'):wpAny (model X.prog X.w) A (setAttr (.ref a) f u) Q E s:=by
 obtain⟨mA,O,r,wi,_,ho⟩:=jd I.aO (.of e)
 have hz:(fs.map (·.1)).length<=sizeLine:=by rw[Bn,sizeLine_eq];omega
 refine xV I.dW O c.sa c.po n.Dc c.hd wi hz fun h' O' sb=>h _ ?_
 have hd:∃ o,h'.get? dx=some o:=let ⟨o,_,_,e',_⟩:=O'.ns;⟨o,e'⟩
 refine I.write (x:=a) (e:=dx) (by rw[e];exact True.intro) (.inr ho) (fun b q hb z=>(sb.2 b hb).trans z) hd ?_
 refine⟨by rw[aj O.ne];exact ho,?_,O.ne,O'.obj,_,O'.ns,fun g=>?_,fun g hg=>?_⟩
 . have:=iN f y fs;omega
 . show eJ ((dq f y fs).lookup g) (if g=f then some u else mA g)
   rw[eO]
   by_cases q:g=f
   . rw[if_pos q,if_pos q];exact ry
   . rw[if_neg q,if_neg q];exact r g
 . by_cases q:g=f
   . rw[q];exact(hB f y fs).1
   . refine(hB f y fs).2 g (wi g fun z=>hg ?_)
     show(if g=f then some u else mA g)=none
     rw[if_neg q];exact z
theorem Inv.made (I:Inv X pins σ H s):Inv X pins σ (upd (upd H s.heap.objs.size (.own (s.heap.objs.size+1))) (s.heap.objs.size+1) (.ins C s.heap.objs.size [])) { s with heap:=(s.heap.push W.emptyDict).push (W.instObj C s.heap.objs.size)}:=by
 have e1:(s.heap.push W.emptyDict).get? s.heap.objs.size=some W.emptyDict:=K3 s.heap rfl
 have e2:((s.heap.push W.emptyDict).push (W.instObj C s.heap.objs.size)).get? (s.heap.objs.size+1)=some (W.instObj C s.heap.objs.size):=by
   have:=K3 (s.heap.push W.emptyDict) (o:=W.instObj C s.heap.objs.size) rfl
   rwa [LZ] at this
 have e3:(s.heap.push W.emptyDict).Ns s.heap.objs.size (fun _=>none):=⟨W.emptyDict,#[],_,e1,rfl,(fun e he=>absurd he (by simp)),fun _=>rfl⟩
 have I1:=I.laid (a:=s.heap.objs.size) (o:=.own (s.heap.objs.size+1)) (h':=s.heap.push W.emptyDict) (t':=s.toks) (fun b u q=>k0 _ q) (G1 _) ⟨_,e1⟩
 refine I1.laid (a:=s.heap.objs.size+1) (o:=.ins C s.heap.objs.size []) (t':=s.toks) (fun b u q=>k0 _ q) (Nat.le_of_eq (LZ _ _)) ?_
 have ne:s.heap.objs.size≠s.heap.objs.size+1:=Lq (Mj _)
 refine⟨by rw[aj ne,ak],LD _,ne,e2,fun _=>none,(Heap.Ns1.of_empty e3).at fun o q=>k0 _ q,fun _=>True.intro,fun y hy=>absurd rfl hy⟩
theorem xX {prog:Program}{w:World}{env:Env}{e:Expr}{f:Str}{pos:Pos}{s:Shared}{Q:Value->Shared->Prop}(hb:attributeBase e f env (eval e env)=eval e env)(h:wpAny (model prog w) A (eval e env) (fun o s₁=>wpAny (model prog w) A (getAttr o f true) Q E s₁) E s):wpAny (model prog w) A (eval (.Attribute e f pos) env) Q E s:=
 Attribute_any_ h (by rw[arm_eval_Attribute,hb])
end
def F4 (K:PySem.W.Frag)(ta:TE)(f:Str):TE:=fun σ H Q=>ta σ H fun x H1=>∃ a C dx fs v,x=.ref a/\Rd H1 a (.ins C dx fs)/\l3 K C/\de K C f/\fs.lookup f=some v/\Q v H1
def F5 (K:PySem.W.Frag)(ta tv:TE)(f:Str):TS:=fun D σ H=>tv σ H fun y H1=>ta σ H1 fun x H2=>∃ a C dx fs,x=.ref a/\H2 a=some (.ins C dx fs)/\l3 K C/\de K C f/\fs.length < 1000 /\
 D.nx σ (upd H2 a (.ins C dx (dq f y fs)))
section
variable {X:Cx}{o e value:Expr}{f:Str}{pos pos':Pos}{ta tv:TE}
theorem uf (he:PE X e ta)(hb:attributeBase e f X.env (eval e X.env)=eval e X.env):PE X (.Attribute e f pos) (F4 X.K ta f):=by
 intro pins s σ H Q I h
 refine xX hb (aT (he pins s σ H _ I h) fun u s1 ⟨x,H1,I1,rx,a,C,dx,fs,v,ex,ea,c,n,l,q⟩=>?_)
 subst ex
 obtain rfl:u=Value.ref a:=rx
 exact o3 I1 ea c n l fun u' s2 I2 ru=>⟨v,H1,I2,ru,q⟩
theorem ug (ha:PE X o ta)(hv:PE X value tv)(hs:swapsWith value (some (.Attribute o f pos')) pos.line X.env=pure false):PS X (.Assign [.Attribute o f pos'] value pos) (F5 X.K ta tv f):=by
 intro pins s σ H D I h
 refine plainObj_wpAny_Assign_Attribute (aT (hv pins s σ H _ I h) fun u s1 ⟨y,H1,I1,ry,q⟩=>aT (ha pins s1 σ H1 _ I1 q) fun ov s2 ⟨x,H2,I2,rx,a,C,dx,fs,ex,ea,c,n,l,q2⟩=>?_) hs
 subst ex
 obtain rfl:ov=Value.ref a:=rx
 exact o4 I2 ea c n l ry fun s3 I3=>⟨σ,_,I3,q2⟩
end
section
variable {X:Cx}{pins:List (Addr×Obj)}{σ:St}{H:Hp}{s:Shared}{A:Around}{E:Value->Shared->Prop}{Q:Value->Shared->Prop}{c:Value}{b:Bool}
inductive iV (K:W.Frag)(H:Hp):V->Value->Prop where
 | aW:iV K H .aW (.type "NoneType")
 | bl (x:Bool):iV K H (.bl x) (.type "bool")
 | int (i:Int):iV K H (.int i) (.type "int")
 | str (x:Str):iV K H (.str x) (.type "str")
 | zF (x:UInt64):iV K H (.zF x) (.type "float")
 | lst {a:Addr} {xs:List V} (e:H a=some (.lst xs)):iV K H (.ref a) (.type "list")
 | a7 {a:Addr} {o:Obj} {xs:List V} (e:H a=some (.a7 o (.lst xs))):iV K H (.ref a) (.type "list")
 | tup {a:Addr} {xs:List V} (e:H a=some (.tup xs)):iV K H (.ref a) (.type "tuple")
 | dK {a:Addr} {kvs:List (Key×V)} (e:H a=some (.dK kvs)):iV K H (.ref a) (.type "dict")
 | dT {a:Addr} {kvs:List (List Key×V)} (e:H a=some (.dT kvs)):iV K H (.ref a) (.type "dict")
 | ins {a C dx:Addr} {fs:List (Str×V)} (e:Rd H a (.ins C dx fs)) (cl:l3 K C) (ha:W.findIn K (.ref C) "__class__"=some (some (.builtin "object.__class__")))
     (hn:W.specialIn K (.builtin "object.__class__") "__get__"=some (some (.builtin "getset_descriptor.__get__"))) (AO:W.takesIn K (.builtin "object.__class__")=some true)
     (hm:W.mroIn K C (.type "object")=some true):iV K H (.ref a) (.ref C)
theorem hV {x:V}{u t:Value}(I:Inv X pins σ H s)(rx:RelV x u)(ty:iV X.K H x t)(e:W.kitOne X.K t c=some b)(h:∀ tk,Q (.bool b) { s with toks:=tk}):wpAny (model X.prog X.w) A (call (.builtin "isinstance") [u,c]) Q E s:=by
 cases ty with
 | aW=>cases (show u=Value.none from rx);exact W.kia_one W.kitx_none I.dW True.intro e (fun z=>nomatch z) h
 | bl y=>cases (show u=Value.bool y from rx);exact W.kia_one W.kitx_bool I.dW True.intro e (fun z=>nomatch z) h
 | int i=>obtain⟨t,q⟩:=(show ∃ t,u=Value.int i t from rx);cases q;exact W.kia_one W.kitx_int I.dW True.intro e (fun z=>nomatch z) h
 | str y=>obtain⟨t,q⟩:=(show ∃ t,u=Value.str y t from rx);cases q;exact W.kia_one W.kitx_str I.dW True.intro e (fun z=>nomatch z) h
 | zF y=>obtain⟨t,q⟩:=(show ∃ t,u=Value.float y t from rx);cases q;exact W.kia_one W.kitx_float I.dW True.intro e (fun z=>nomatch z) h
 | @lst a xs ea=>
   cases (show u=Value.ref a from rx)
   obtain⟨_,_,n,_,h1⟩:=(show aM X.prog X.w H s.heap a (.lst xs) from I.aO a _ ea)
   exact W.kia_one W.kitx_list I.dW ⟨_,h1,rfl⟩ e (fun z=>nomatch z) h
 | @a7 a ob xs ea=>
   cases (show u=Value.ref a from rx)
   obtain⟨_,_,_,n,_,h1⟩:=(show aM X.prog X.w H s.heap a (.a7 ob (.lst xs)) from I.aO a _ ea)
   exact W.kia_one W.kitx_list I.dW ⟨_,h1,rfl⟩ e (fun z=>nomatch z) h
 | @tup a xs ea=>
   cases (show u=Value.ref a from rx)
   obtain⟨_,_,_,p⟩:=(show aM X.prog X.w H s.heap a (.tup xs) from I.aO a _ ea)
   obtain⟨o,h1,h2,_⟩:=p
   exact W.kia_one W.kitx_tuple I.dW ⟨o,h1,h2⟩ e (fun z=>nomatch z) h
 | @dK a kvs ea=>
   cases (show u=Value.ref a from rx)
   obtain⟨_,_,vs,_,p⟩:=(show aM X.prog X.w H s.heap a (.dK kvs) from I.aO a _ ea)
   obtain⟨o,es,ep,h1,h2,_⟩:=p
   exact W.kia_one W.kitx_dict I.dW ⟨o,h1,h2.1⟩ e (fun z=>nomatch z) h
 | @dT a kvs ea=>
   cases (show u=Value.ref a from rx)
   obtain⟨_,_,xs,_,o,es,ep,h1,h2,_⟩:=(show aM X.prog X.w H s.heap a (.dT kvs) from I.aO a _ ea)
   exact W.kia_one W.kitx_dict I.dW ⟨o,h1,h2.1⟩ e (fun z=>nomatch z) h
 | @ins a C dx fs ea cl ha hn AO hm=>
   cases (show u=Value.ref a from rx)
   obtain⟨mA,O,_⟩:=jd I.aO ea
   obtain⟨od,J,_⟩:=O.look
   exact W.kia_one (W.kitx_own (cl.get _) cl.hd ha hn AO hm) I.dW J e (fun z=>nomatch z) h
end
structure bI (k:Nat)(A:Around):Prop where
 hd:A.handled=none
 dp:A.depth+3 * k+5 < recursionLimit
 un:A.units+16 * k+200 < cLine
theorem bI.mono {j k:Nat}{A:Around}(r:bI k A)(h:j<=k):bI j A:=⟨r.hd,by have:=r.dp;omega,by have:=r.un;omega⟩
theorem bI.deeper {k:Nat}{A:Around}(r:bI (k+1) A)(env:Env):bI k (A.deeper env):=
 ⟨r.hd,by have:=r.dp;show A.depth+1+3 * k+5 < _;omega,by have:=r.un;show A.units+3+16 * k+200 < _;omega⟩
theorem o5 {A:Around}{C:Addr}{us:List Value}{kw:List (Str×Value)}:(A.under (.builtin "type.__call__" ⟨.ref C::us,kw⟩)).depth=A.depth+1:=by
 first | rfl | simp[Around.under,Code.weight,Code.isCreation,Code.isGuard,Code.isCaller,Code.frames,Code.isFrame,guardIds]
theorem o6 {A:Around}{C:Addr}{us:List Value}{kw:List (Str×Value)}:(A.under (.builtin "type.__call__" ⟨.ref C::us,kw⟩)).units=A.units+1:=by
 first | rfl | simp[Around.under,Code.cUnits,Code.frames,Code.isFrame]
theorem bI.make {k:Nat}{A:Around}(r:bI (k+1) A)(C:Addr)(us:List Value)(kw:List (Str×Value)):bI k (A.under (.builtin "type.__call__" ⟨.ref C::us,kw⟩)):=
 ⟨r.hd,by have:=r.dp;rw[o5];omega,by have:=r.un;rw[o6];omega⟩
theorem bI.depth {k:Nat}{A:Around}(r:bI k A):A.depth < recursionLimit:=by have:=r.dp;omega
theorem bI.units {k:Nat}{A:Around}(r:bI k A):A.units+64 < cLine:=by have:=r.un;omega
def Dd:TA:=fun _ H Q=>Q [] H
def De (ta:TE)(tr:TA):TA:=fun σ H Q=>ta σ H fun x H1=>tr σ H1 fun xs H2=>Q (x::xs) H2
section
variable {X:Cx}{e:Expr}{es:List Expr}{te:TE}{t:TA}{pos:Pos}
theorem uh:PA X [] Dd:=fun _ _ _ _ H Q I h=>Calls.spliced_nil ⟨[],H,I,.nil,h⟩
theorem qi (ha:PE X e te)(hr:PA X es t)(hs:starEach (e::es) X.env=(false,eval e X.env)::starEach es X.env:=by rfl):PA X (e::es) (De te t):=by
 intro pos pins s σ H Q I h
 rw[hs]
 show wpAny _ _ (spliced ((false,eval e X.env)::backTo pos (starEach es X.env))) _ _ s
 refine Calls.spliced_cons (aT (ha pins s σ H _ I h) fun u s1 ⟨x,H1,I1,r1,q1⟩=>?_)
 exact aT (hr pos pins s1 σ H1 _ I1 q1) fun us s2 ⟨xs,H2,I2,r2,q2⟩=>⟨x::xs,H2,I2,.cons r1 r2,q2⟩
def F6 (t:TA):TE:=fun σ H Q=>t σ H fun xs H1=>xs.length<=sizeLine/\∀ p,H1 p=none->Q (.ref p) (upd H1 p (.tup xs))
def F7 (t:TA):TE:=fun σ H Q=>t σ H fun xs H1=>xs.length<=sizeLine/\∀ p,H1 p=none->Q (.ref p) (upd H1 p (.lst xs))
theorem uk {x1}(h:PA X es t):PE X (.Tuple es x1 pos) (F6 t):=by
 intro pins s σ H Q I hq
 refine wpAny_Tuple_spliced (aT (h pos pins s σ H _ I hq) fun us s1 ⟨xs,H1,I1,r,z,q⟩=>⟨by rw[<- r.length];exact z,?_⟩)
 have hf:H1 s1.heap.objs.size=none:=I1.aO.fresh (G1 _)
 refine⟨.ref s1.heap.objs.size,upd H1 s1.heap.objs.size (.tup xs),I1.laid (t':=s1.toks) (fun b u e=>k0 _ e) (G1 _) ?_,rfl,q _ hf⟩
 exact⟨z,us,r,⟨_,K3 _ rfl,rfl,_,rfl⟩⟩
theorem um (h:PA X es t):PE X (.List es pos) (F7 t):=by
 intro pins s σ H Q I hq
 refine wpAny_List_spliced (aT (h pos pins s σ H _ I hq) fun us s1 ⟨xs,H1,I1,r,z,q⟩=>⟨by rw[<- r.length];exact z,?_⟩)
 have hf:H1 s1.heap.objs.size=none:=I1.aO.fresh (G1 _)
 refine⟨.ref s1.heap.objs.size,upd H1 s1.heap.objs.size (.lst xs),I1.laid (t':=s1.toks) (fun b u e=>k0 _ e) (G1 _) ?_,rfl,q _ hf⟩
 exact⟨z,us,0,r,K3 _ rfl⟩
end
abbrev Sp:=List V->Hp->VK->XK->Prop
abbrev hX:=List Env->Hp->Shared->XK->Value->Shared->Prop
structure nD (P:Program)(w:World)(K:W.Frag)(mg:Str->Option Value)(base:Heap)(A:Around)(outer:List Env)(s:Shared)(H:Hp):Prop where
 frames:A.frames=some outer
 mod:Mod K mg base
 bs:∀ b o,base.get? b=some o->s.heap.get? b=some o/\H b=none
 tS:base.objs.size<=s.heap.objs.size
 iU:s.heap.FunFrames base outer
 Aq:∀ b∈tR outer,H b=none
 aO:gj P w H s.heap
 bare:AllBare s.gens
def CE (outer:List Env)(P:Program)(w:World)(H:Hp)(s:Shared)(Q:VK)(u:Value)(s':Shared):Prop:=
 ∃ v H',s'.os=s.os/\AllBare s'.gens/\Un (tR outer) [] H H' s.heap s'.heap/\gj P w H' s'.heap/\RelV v u/\Q v H'
def CR (CX:hX)(outer:List Env)(P:Program)(w:World)(H:Hp)(s:Shared)(Q:VK)(E:XK)(r:Result)(s':Shared):Prop:=
 match r with
 | .ok (.ret u)=>CE outer P w H s Q u s'
 | .ok _=>False
 | .error e=>CX outer H s E e s'
structure df (P:Program)(w:World)(K:W.Frag)(mg:Str->Option Value)(base:Heap)(CX:hX)(k:Nat)(f:Addr)(fd:FuncData)(ps:List Str)(sp:Sp):Prop where
 len:∀ vs H Q E,sp vs H Q E->vs.length=ps.length
 run:∀ (A:Around) (outer:List Env) (s:Shared) (H:Hp) (args:Args) (us:List Value) (vs:List V) (Q:VK) (E:XK),bI k A->nD P w K mg base A outer s H->BindsTo s fd args (ps.zip us)->Vals vs us->sp vs H Q E ->
   codeAny (model P w) A (.call (.ref f) args) (CR CX outer P w H s Q E) s
theorem nD.make {P:Program}{w:World}{K:W.Frag}{mg:Str->Option Value}{base:Heap}{A:Around}{outer:List Env}{s:Shared}{H:Hp}(e:nD P w K mg base A outer s H)(C:Addr)(us:List Value)(kw:List (Str×Value)):nD P w K mg base (A.under (.builtin "type.__call__" ⟨.ref C::us,kw⟩)) outer s H:=⟨by first | exact e.frames | (simpa [Around.under,Code.envs,Code.isFrame,pushEnvs] using e.frames),e.mod,e.bs,e.tS,e.iU,e.Aq,e.aO,e.bare⟩
section
variable {X:Cx}{pins:List (Addr×Obj)}{σ:St}{H:Hp}{s s':Shared}
theorem Inv.Df (I:Inv X pins σ H s):nD X.prog X.w X.K X.mg X.base X.A X.stack s H:=
 ⟨I.ok.frames,I.ok.mod,I.bs,LA I.ok.tS I.sz,I.stack,I.lW,I.aO,I.bare⟩
theorem Inv.after {Q:VK}{u:Value}(I:Inv X pins σ H s)(h:CE X.stack X.prog X.w H s Q u s'):EP X pins σ Q u s':=by
 obtain⟨v,H',os,bare,un,aO,r,q⟩:=h
 obtain⟨hh,g,d,t,F8⟩:=s'
 obtain rfl:F8=s.os:=os
 exact⟨v,H',I.call (h':=hh) (g':=g) (d':=d) (t':=t) (ch:=[]) un aO bare (fun b z=>absurd z (by simp)),r,q⟩
end
def Dg (sp:Sp)(dvs:List V)(E:XK)(t:TA):TE:=fun σ H Q=>t σ H fun vs H1=>sp (vs ++ dvs) H1 Q E
def zS (C:Addr)(m:Str)(sp:Sp)(dvs:List V)(E:XK)(ta:TE)(t:TA):TE:=fun σ H Q=>ta σ H fun x H1=>∃ a dx fs,x=.ref a/\Rd H1 a (.ins C dx fs)/\fs.lookup m=none /\
 t σ H1 fun vs H2=>sp (x::(vs ++ dvs)) H2 Q E
def Dh (C:Addr)(sp:Sp)(dvs:List V)(E:XK)(t:TA):TE:=fun σ H Q=>t σ H fun vs H1=>∀ x dx,H1 x=none->H1 dx=none->dx≠x ->
 sp (.ref x::(vs ++ dvs)) (upd (upd H1 dx (.own x)) x (.ins C dx [])) (fun v H2=>v=.aW/\Q (.ref x) H2) E
def Binds (K:PySem.W.Frag)(fd:FuncData)(ps:List Str)(ds:List Value):Prop:=
 ∀ (s:Shared) (us:List Value),K.In s.heap->(us ++ ds).length=ps.length->BindsTo s fd ⟨us,[]⟩ (ps.zip (us ++ ds))
theorem Binds.all {K:W.Frag}{fd:FuncData}{ps:List Str}(h:∀ us:List Value,us.length=ps.length->bindArgs fd ⟨us,[]⟩=pure (ps.zip us)):Binds K fd ps []:=fun s us _ hl=>by
 rw[L6] at hl ⊢
 exact .of_eq (h us hl)
def Passes (CX:hX)(X:Cx)(E:XK):Prop:=∀ (pins:List (Addr×Obj)) (σ:St) (H:Hp) (s:Shared) (e:Value) (s':Shared),Inv X pins σ H s->CX X.stack H s E e s'->X.xe e s'
section
variable {X:Cx}{CX:hX}{k:Nat}{f C:Addr}{fd:FuncData}{ps:List Str}{sp:Sp}{dvs:List V}{ds:List Value}{E:XK}{x m:Str}{p pos apos:Pos}{e o:Expr}{es:List Expr}{ta:TE}{t:TA}
theorem o7 {pins:List (Addr×Obj)}{σ:St}{H:Hp}{s:Shared}{Q:VK}{us:List Value}{vs:List V}(F:df X.prog X.w X.K X.mg X.base CX k f fd ps sp)(hr:bI k X.A)(hb:Binds X.K fd ps ds)(hd:Vals dvs ds)(hx:Passes CX X E)(I:Inv X pins σ H s)(r:Vals vs us)(h:sp (vs ++ dvs) H Q E):wpAny (model X.prog X.w) X.A (call (.ref f) us) (EP X pins σ Q) X.xe s:=by
 have r2:Vals (vs ++ dvs) (us ++ ds):=r.append hd
 have hl:(us ++ ds).length=ps.length:=by rw[<- r2.length];exact F.len _ _ _ _ h
 refine wpAny_call (codeAny_mono (F.run X.A X.stack s H ⟨us,[]⟩ (us ++ ds) (vs ++ dvs) Q E hr I.Df (hb s us I.dW hl) r2 h) fun r s' hq=>?_)
 cases r with
 | error e=>exact hx pins σ H s e s' I hq
 | ok fl=>
   cases fl with
   | ret u=>exact I.after hq
   | next=>exact False.elim hq
   | brk=>exact False.elim hq
   | cont=>exact False.elim hq
theorem qj (F:df X.prog X.w X.K X.mg X.base CX k f fd ps sp)(hr:bI k X.A)(hg:Gl X x)(hm:X.mg x=some (.ref f))(hk:W.keepIn X.K (.ref f)=true)(hb:Binds X.K fd ps ds)(hd:Vals dvs ds)(hx:Passes CX X E)(ha:PA X (e::es) t)(eP:(x == ("__debug__":Str))=false:=by decide)(he:starEach (e::es) X.env=(false,eval e X.env)::starEach es X.env:=by rfl)(fP:(backTo pos (starEach es X.env)).any (·.1)=false:=by rfl):PE X (.Call (.Name x p) (e::es) [] pos) (Dg sp dvs E t):=by
 intro pins s σ H Q I h
 refine wpAny_Call_Name_kw (jc I hg hm ?_ eP)
 refine W.callWith_K (h₀:=X.base) I.ok.mod.CO hk (aT (ha pos pins s σ H _ I h) fun us s1 ⟨vs,H1,I1,r,q⟩=>⟨I1.dW,?_⟩) he fP
 exact o7 F hr hb hd hx I1 r q
theorem xY {pl:Sem Bool}(he:PE X o ta)(c:l3 X.K C)(hm:Meth X.K C m f)(F:df X.prog X.w X.K X.mg X.base CX k f fd ps sp)(hr:bI k X.A)(hb:Binds X.K fd ps ds)(hd:Vals dvs ds)(hx:Passes CX X E)(ha:PA X (e::es) t)
   (nB:starEach (e::es) X.env=(false,eval e X.env)::starEach es X.env:=by rfl) (fP:(backTo pos (starEach es X.env)).any (·.1)=false:=by rfl)
   (ht:eval (.Call (.Attribute o m apos) (e::es) [] pos) X.env=(do
     let ov <- eval o X.env
     standAt apos.atName
     let (f,first) <- holding [ov] (getMethod ov m pl)
     callWith pos f first (backTo pos (starEach (e::es) X.env)) (backToKw pos (keywordEach [] X.env))):=by rfl) :
   PE X (.Call (.Attribute o m apos) (e::es) [] pos) (zS C m sp dvs E ta t):=by
 intro pins s σ H Q I h
 refine W.methodCall_KW (pl:=pl) (aT (he pins s σ H _ I h) fun u s1 ⟨x,H1,I1,rx,a,dx,fs,ex,ea,l,q⟩=>?_) ht
 subst ex
 obtain rfl:u=Value.ref a:=rx
 refine jL I1 ea c hm l ?_
 refine W.callWith_K (first:=[.ref a]) (h₀:=X.base) I.ok.mod.CO hm.kp (aT (ha pos pins s1 σ H1 _ I1 q) fun us s2 ⟨vs,H2,I2,r,q2⟩=>⟨I2.dW,?_⟩) nB fP
 exact o7 (us:=.ref a::us) (vs:=.ref a::vs) F hr hb hd hx I2 (.cons rfl r) q2
theorem uo {pl:Sem Bool}(he:PE X o ta)(c:l3 X.K C)(hm:Meth X.K C m f)(F:df X.prog X.w X.K X.mg X.base CX k f fd ps sp)(hr:bI k X.A)(hb:Binds X.K fd ps ds)(hd:Vals dvs ds)(hx:Passes CX X E)
   (ht:eval (.Call (.Attribute o m apos) [] [] pos) X.env=(do
     let ov <- eval o X.env
     standAt apos.atName
     let (f,first) <- holding [ov] (getMethod ov m pl)
     callWith pos f first (backTo pos (starEach [] X.env)) (backToKw pos (keywordEach [] X.env))):=by rfl) :
   PE X (.Call (.Attribute o m apos) [] [] pos) (zS C m sp dvs E ta Dd):=by
 intro pins s σ H Q I h
 refine W.methodCall_KW (pl:=pl) (aT (he pins s σ H _ I h) fun u s1 ⟨x,H1,I1,rx,a,dx,fs,ex,ea,l,q⟩=>?_) ht
 subst ex
 obtain rfl:u=Value.ref a:=rx
 refine jL I1 ea c hm l ?_
 exact W.callWith_K0 (first:=[.ref a]) I1.dW hm.kp (o7 (us:=[.ref a]) (vs:=[.ref a]) F hr hb hd hx I1 (.cons rfl .nil) q)
structure Mk (K:W.Frag)(C f:Addr):Prop where
 makes:W.makesIn K C=true
 init:W.findIn K (.ref C) "__init__"=some (some (.ref f))
 fn:W.isFn K (.ref f)=true
 kp:W.keepIn K (.ref C)=true
theorem uq {pins:List (Addr×Obj)}{σ:St}{H:Hp}{s:Shared}{Q:VK}{us:List Value}{vs:List V}(M:Mk X.K C f)(F:df X.prog X.w X.K X.mg X.base CX k f fd ps sp)(hr:bI (k+1) X.A)(hb:Binds X.K fd ps ds)(hd:Vals dvs ds)(hx:Passes CX X E)(I:Inv X pins σ H s)(r:Vals vs us)(h:∀ x dx,H x=none->H dx=none->dx≠x->sp (.ref x::(vs ++ dvs)) (upd (upd H dx (.own x)) x (.ins C dx [])) (fun v H2=>v=.aW/\Q (.ref x) H2) E):wpAny (model X.prog X.w) X.A (call (.ref C) us) (EP X pins σ Q) X.xe s:=by
 have hq:=h (s.heap.objs.size+1) s.heap.objs.size (I.aO.fresh (Mp _)) (I.aO.fresh (G1 _)) (Lq (Mj _))
 have I2:=Inv.made (C:=C) I
 have r2:Vals (V.ref (s.heap.objs.size+1)::(vs ++ dvs)) (Value.ref (s.heap.objs.size+1)::(us ++ ds)):=.cons rfl (r.append hd)
 have hl:(Value.ref (s.heap.objs.size+1)::us ++ ds).length=ps.length:=by
   have e:=r2.length
   rw[F.len _ _ _ _ hq] at e
   exact e.symm
 refine wpAny_call (ue (f:=f) I.dW M.makes M.init (beq_iff_eq.mp M.fn) (codeAny_mono (F.run _ X.stack _ _ ⟨Value.ref (s.heap.objs.size+1)::us,[]⟩ (Value.ref (s.heap.objs.size+1)::(us ++ ds)) _ _ E (hr.make C us [])
   (I2.Df.make C us []) (hb _ (Value.ref (s.heap.objs.size+1)::us) I2.dW hl) r2 hq) fun r s' Di=>?_))
 cases r with
 | error e=>exact hx pins σ _ _ e s' I2 Di
 | ok fl=>
   cases fl with
   | ret u=>
     obtain⟨v,H',I3,rv,ev,q3⟩:=I2.after Di
     subst ev
     exact⟨rv,⟨V.ref (s.heap.objs.size+1),H',I3,rfl,q3⟩⟩
   | next=>exact False.elim Di
   | brk=>exact False.elim Di
   | cont=>exact False.elim Di
theorem xZ (M:Mk X.K C f)(F:df X.prog X.w X.K X.mg X.base CX k f fd ps sp)(hr:bI (k+1) X.A)(hg:Gl X x)(hm:X.mg x=some (.ref C))(hb:Binds X.K fd ps ds)(hd:Vals dvs ds)(hx:Passes CX X E)(ha:PA X (e::es) t)(eP:(x == ("__debug__":Str))=false:=by decide)(he:starEach (e::es) X.env=(false,eval e X.env)::starEach es X.env:=by rfl)(fP:(backTo pos (starEach es X.env)).any (·.1)=false:=by rfl):PE X (.Call (.Name x p) (e::es) [] pos) (Dh C sp dvs E t):=by
 intro pins s σ H Q I h
 refine wpAny_Call_Name_kw (jc I hg hm ?_ eP)
 refine W.callWith_K (h₀:=X.base) I.ok.mod.CO M.kp (aT (ha pos pins s σ H _ I h) fun us s1 ⟨vs,H1,I1,r,q⟩=>⟨I1.dW,?_⟩) he fP
 exact uq M F hr hb hd hx I1 r q
end
section
variable {fd:FuncData}{ps ks:List Str}
structure F9 (K:W.Frag)(fd:FuncData)(ps ks:List Str)(g:List Value->List Value->List Value)(gV:List V->List V->List V):Prop where
 to:∀ (s:Shared) (us ws:List Value),K.In s.heap->(g us ws).length=ps.length->BindsTo s fd ⟨us,ks.zip ws⟩ (ps.zip (g us ws))
 rel:∀ {vs:List V} {us:List Value} {zs:List V} {ws:List Value},Vals vs us->Vals zs ws->Vals (gV vs zs) (g us ws)
end
structure av (N P:List Str)(sc:Scope):Prop where
 kind:sc.kind=.function
 co:sc.isCoroutine=false
 gen:sc.isGenerator=false
 nd:N.Nodup
 pre:N.take P.length=P
 par:∀ x∈P,sc.names.lookup x=some .local\/sc.names.lookup x=some .cell
 AQ:∀ y∈sc.names,y.2≠.free
theorem kY {kindOf:Str->Option NameKind}{x:Str}:∀ {binds:List (Str×Value)} {m:Str->Option Value},(∀ v,(x,v) ∉ binds)->bindL kindOf binds m x=m x
 | [],_,_=>rfl
 | (n,v)::r,m,h=>by
   unfold bindL
   rw[kY fun w hw=>h w (KY _ hw)]
   split
   . have:x≠n:=by rintro rfl;exact h v Lu
     simp[this]
   . rfl
theorem kZ {kindOf:Str->Option NameKind}{x:Str}:∀ {binds:List (Str×Value)} {m:Str->Option Value},(∀ v,(x,v) ∉ binds)->bindC kindOf binds m x=m x
 | [],_,_=>rfl
 | (n,v)::r,m,h=>by
   unfold bindC
   rw[kZ fun w hw=>h w (KY _ hw)]
   split
   . rfl
   . have:x≠n:=by rintro rfl;exact h v Lu
     simp[this]
theorem k4 {kindOf:Str->Option NameKind}{x:Str}{v:Value}:∀ {P:List Str} {vs:List Value} {i:Nat} {m:Str->Option Value},P.Nodup->P[i]?=some x->vs[i]?=some v->kindOf x=some .local->bindL kindOf (P.zip vs) m x=some v
 | [],_,_,_,_,h,_,_=>by simp at h
 | _::_,[],_,_,_,_,h,_=>by simp at h
 | p::P,w::vs,0,m,nd,h1,h2,hk=>by
   simp at h1 h2;subst h1;subst h2
   show bindL kindOf ((p,w)::P.zip vs) m p=_
   unfold bindL
   rw[kY fun v hv=>(Mm.mp nd).1 (List.of_mem_zip hv).1,if_pos hk]
   simp
 | p::P,w::vs,i+1,m,nd,h1,h2,hk=>by
   show bindL kindOf ((p,w)::P.zip vs) m x=_
   unfold bindL
   exact k4 (i:=i) (Mm.mp nd).2 (by simpa using h1) (by simpa using h2) hk
theorem k6 {kindOf:Str->Option NameKind}{x:Str}{v:Value}:∀ {P:List Str} {vs:List Value} {i:Nat} {m:Str->Option Value},P.Nodup->P[i]?=some x->vs[i]?=some v->kindOf x≠some .local->bindC kindOf (P.zip vs) m x=some v
 | [],_,_,_,_,h,_,_=>by simp at h
 | _::_,[],_,_,_,_,h,_=>by simp at h
 | p::P,w::vs,0,m,nd,h1,h2,hk=>by
   simp at h1 h2;subst h1;subst h2
   show bindC kindOf ((p,w)::P.zip vs) m p=_
   unfold bindC
   rw[kZ fun v hv=>(Mm.mp nd).1 (List.of_mem_zip hv).1,if_neg hk]
   simp
 | p::P,w::vs,i+1,m,nd,h1,h2,hk=>by
   show bindC kindOf ((p,w)::P.zip vs) m x=_
   unfold bindC
   exact k6 (i:=i) (Mm.mp nd).2 (by simpa using h1) (by simpa using h2) hk
noncomputable def start (N:List Str)(vs:List V):St:=vs.map some ++ LR (N.length - vs.length) none
noncomputable def l4 (CX:hX)(P:Program)(w:World)(K:W.Frag)(mg:Str->Option Value)(base:Heap)(N:List Str)(qual:Str)(scope:Scope)(f:Addr)(cd:Value)(A:Around)(outer:List Env)(s:Shared)(H:Hp)(E:XK):Cx where
 prog:=P
 w:=w
 K:=K
 mg:=mg
 base:=base
 A:=A.deeper (envOfC qual scope s.heap.objs.size f cd)
 N:=N
 s₀:=s
 H₀:=H
 env:=envOfC qual scope s.heap.objs.size f cd
 outer:=outer
 stack:=envOfC qual scope s.heap.objs.size f cd::outer
 ex:=[]
 calm:=true
 fn:=fun _=>true
 pn:=[]
 xe:=fun e s'=>wpAny (model P w) (A.deeper (envOfC qual scope s.heap.objs.size f cd)) (leaving (envOfC qual scope s.heap.objs.size f cd) e) (fun _ Dj=>CX outer H s E e Dj) (fun e' Dj=>CX outer H s E e' Dj) s'
theorem nE {sc:Scope}{n:Nat}{x:Str}(h:sc.names.lookup x=some .cell):∃ c,(cellsFrom n sc.names []).lookup x=some c:=by
 have q:=W.cellsFrom_some sc.names n [] (.inl h)
 exact Mt.mp q
theorem rW {CX:hX}{P:Program}{w:World}{K:W.Frag}{mg:Str->Option Value}{base:Heap}{N ps:List Str}{qual:Str}{scope:Scope}{f:Addr}{cd:Value}{A:Around}{outer:List Env}{s s1:Shared}{H:Hp}{E:XK}{us:List Value}{vs:List V}(S:av N ps scope)(hd:A.handled=none)(e0:nD P w K mg base A outer s H)(hl:vs.length=ps.length)(r:Vals vs us)(x:InCallC s s.heap.objs.size (bindL (envOfC qual scope s.heap.objs.size f cd).kindOf (ps.zip us) fun _=>none) (cellsFrom (s.heap.objs.size+1) scope.names []) (bindC (envOfC qual scope s.heap.objs.size f cd).kindOf (ps.zip us) fun _=>none) s1):Inv (l4 CX P w K mg base N qual scope f cd A outer s H E) [] (start N vs) H s1:=by
 have fP:ps.length<=N.length:=by have:=congrArg List.length S.pre;rw[LC] at this;omega
 obtain⟨h1,tk,rfl,hk⟩:=x.done
 have Dk:∀ b:Addr,b ∉ (l4 CX P w K mg base N qual scope f cd A outer s H E).ex:=fun b z=>absurd (show b∈([]:List Addr) from z) (by simp)
 refine⟨⟨e0.mod,S.kind,rfl,rfl,G1 _,fun y z c h1 h2=>?_,fun y hy=>?_,fun y c _ h=>?_,fun _=>hd,Around.frames_deeper e0.frames,.inr ⟨rfl,rfl⟩,fun b z=>absurd z (Dk b),e0.bs,e0.tS,fun b _ _=>Dk b,fun b z=>absurd z (Dk b),e0.iU,e0.Aq⟩,
   rfl,e0.bare,Un.kept hk,⟨_,x.toInCall.ns,fun i y v h1 h2 h3=>?_⟩,fun y c h=>⟨_,x.cell y c h⟩,e0.aO.fresh (G1 _),fun y c h=>?_,fun p hp=>absurd (show p∈([]:List (Addr×Obj)) from hp) (by simp),e0.aO.kept hk,?_⟩
 . exact name_of_addr x.apart (PySem.mem_of_lookup h1) (PySem.mem_of_lookup h2)
 . have hy:scope.names.lookup y=some .cell\/scope.names.lookup y=some .free:=hy
   rcases hy with hy | hy
   . exact nE hy
   . exact absurd rfl (S.AQ _ (PySem.mem_of_lookup hy))
 . exact My (x.above y c (PySem.mem_of_lookup h))
 . have hi:i < vs.length:=by
     unfold start at h2
     by_cases hi:i < vs.length
     . exact hi
     . rw[Ly (by simpa using hi)] at h2
       rw[LW] at h2
       split at h2 <;> cases h2
   have ha:vs[i]?=some v:=by
     unfold start at h2
     rw[Lx (by simpa using hi),J7] at h2
     cases e:vs[i]? with
     | none=>rw[e] at h2;cases h2
     | some a=>rw[e] at h2;cases h2;rfl
   obtain⟨u,hu,rv⟩:=r.get ha
   have hp:ps[i]?=some y:=by
     rw[<- S.pre,List.getElem?_take_of_lt (by omega)];exact h1
   have HH:ps.Nodup:=by rw[<- S.pre];exact S.nd.sublist (List.take_sublist _ _)
   refine⟨u,rv,?_⟩
   rcases S.par y (MH hp) with k | k
   . exact .inl ⟨k,k4 HH hp hu k⟩
   . obtain⟨c,e⟩:=nE (n:=s.heap.objs.size+1) k
     refine .inr ⟨.inl k,c,e,?_⟩
     have q:=x.cell y c e
     rw[k6 HH hp hu (by show scope.names.lookup y≠_;rw[k];decide)] at q
     exact q
 . exact e0.aO.fresh (My (x.above y c (PySem.mem_of_lookup h)))
 . unfold start
   show _=N.length
   rw[Lz,Bn,List.length_replicate]
   omega
theorem ur {CX:hX}{P:Program}{w:World}{K:W.Frag}{mg:Str->Option Value}{base:Heap}{k:Nat}{f:Addr}{name qual:Str}{params:Arguments}{body:List Stmt}{scope:Scope}{dV kV doc pm bj ct oc:Value}{an od:Option Addr}{k7:Array (Option Value)}{N ps:List Str}{sp:Sp}(lk:K.lookup f=some ⟨oc,od,.func (W.fnOf name qual params body scope dV kV doc pm an bj ct),k7⟩)(eE:W.codeIn K bj qual=true)(S:av N ps scope)(len:∀ vs H Q E,sp vs H Q E->vs.length=ps.length)(gz:∀ (A:Around) (outer:List Env) (s:Shared) (H:Hp) (vs:List V) (Q:VK) (E:XK),bI k (A.deeper (envOfC qual scope s.heap.objs.size f bj))->sp vs H Q E->∃ t,qd (l4 CX P w K mg base N qual scope f bj A outer s H E) body t/\t { nx:=fun _ H'=>Q .aW H',rt:=Q} (start N vs) H):df P w K mg base CX (k+1) f (W.fnOf name qual params body scope dV kV doc pm an bj ct) ps sp:=by
 refine⟨len,fun A outer s H args us vs Q E hr e0 hb r zT=>?_⟩
 have hl:=len _ _ _ _ zT
 have KX:K.In s.heap:=e0.mod.CO.keeps fun b o e=>(e0.bs b o e).1
 have lim:s.heap.NoLimit:=e0.mod.nolimit.keeps fun b o e=>(e0.bs b o e).1
 have Dl:∀ y∈ps.zip us,scope.names.lookup y.1=some .local\/(scope.names.lookup y.1=some .cell/\((cellsFrom (s.heap.objs.size+1) scope.names []).lookup y.1).isSome=true):=fun⟨n,v⟩ hy=>by
   rcases S.par n (List.of_mem_zip hy).1 with q | q
   . exact .inl q
   . exact .inr ⟨q,W.cellsFrom_some _ _ _ (.inl q)⟩
 refine codeAny_call_function hr.depth (KX _ _ lk) rfl S.co S.gen rfl (W.codeRec_of KX eE) (hb _ _ _ _ ?_)
 refine wpAny_newFunctionEnv_cells S.kind Dl fun env he s1 x=>?_
 subst he
 refine⟨lim.keeps x.toInCall.keep,codeAny_func ?_⟩
 obtain⟨t,ht,hq⟩:=gz A outer s H vs Q E (hr.deeper _) zT
 have I:Inv (l4 CX P w K mg base N qual scope f bj A outer s H E) [] (start N vs) H s1:=rW S hr.hd e0 hl r x
 refine wpAny_mono (ht [] s1 (start N vs) H _ I hq) (fun fl s' hs=>?_) fun e s' hs=>hs
 have fin:∀ {σ':St} {H':Hp} {v:V} {u:Value},Inv (l4 CX P w K mg base N qual scope f bj A outer s H E) [] σ' H' s'->RelV v u->Q v H'->CE outer P w H s Q u s':=
   fun {σ' H' v u} J rv q=>⟨v,H',J.os,J.bare,J.base,J.aO,rv,q⟩
 cases fl with
 | ret u=>
   obtain⟨v,σ',H',J,rv,q⟩:=hs
   exact fin J rv q
 | next=>
   obtain⟨σ',H',J,q⟩:=hs
   exact fin (v:=V.aW) (u:=Value.none) J rfl q
 | brk=>
   obtain⟨_,_,_,q⟩:=hs
   exact False.elim q
 | cont=>
   obtain⟨_,_,_,q⟩:=hs
   exact False.elim q
section
variable {X:Cx}{x:Str}{p pos:Pos}{e:Expr}{es:List Expr}{t:TA}{id T:String}{r:List V->Hp->VK->Prop}
def HI (r:List V->Hp->VK->Prop)(t:TA):TE:=fun σ H Q=>t σ H fun vs H1=>r vs H1 Q
theorem cf (hc:eN X (.builtin id) r)(hg:Gl X x)(hm:X.mg x=none)(hv:bootBuiltins x=some (.builtin id))(ha:PA X (e::es) t)(hn:x≠"__name__":=by decide)(eP:(x == ("__debug__":Str))=false:=by decide)(he:starEach (e::es) X.env=(false,eval e X.env)::starEach es X.env:=by rfl)(fP:(backTo pos (starEach es X.env)).any (·.1)=false:=by rfl):PE X (.Call (.Name x p) (e::es) [] pos) (HI r t):=by
 intro pins s σ H Q I h
 refine wpAny_Call_Name_kw (dX I hg hm hv ?_ hn eP)
 exact PyProof.Rows.callWith_builtin1 (aT (ha pos pins s σ H _ I h) fun us s1 ⟨vs,H1,I1,r1,q1⟩=>hc pins s1 σ H1 vs us Q I1 r1 q1) he fP
theorem k8 (hc:eN X (.type T) r)(hg:Gl X x)(hm:X.mg x=none)(hv:bootBuiltins x=some (.type T))(ha:PA X (e::es) t)(hn:x≠"__name__":=by decide)(eP:(x == ("__debug__":Str))=false:=by decide)(he:starEach (e::es) X.env=(false,eval e X.env)::starEach es X.env:=by rfl)(fP:(backTo pos (starEach es X.env)).any (·.1)=false:=by rfl):PE X (.Call (.Name x p) (e::es) [] pos) (HI r t):=by
 intro pins s σ H Q I h
 refine wpAny_Call_Name_kw (dX I hg hm hv ?_ hn eP)
 exact PyProof.Rows.callWith_type1 (aT (ha pos pins s σ H _ I h) fun us s1 ⟨vs,H1,I1,r1,q1⟩=>hc pins s1 σ H1 vs us Q I1 r1 q1) he fP
end
end L2
namespace HT
open PySem PyProof.Rows
section
noncomputable def nF (n d:Nat):Option Int->Nat
 | none=>d
 | some v=>if v < 0 then (v+(n:Int)).toNat else min v.toNat n
theorem uu (n d:Nat):nF n d none=d:=rfl
theorem l5 (n d k:Nat):nF n d (some (k:Int))=min k n:=by
 show(if (k:Int) < 0 then ((k:Int)+(n:Int)).toNat else min (k:Int).toNat n)=min k n
 rw[if_neg (by omega),Mf]
end
end HT
namespace L2
open PySem PySem.Spec PyProof.Rows
abbrev TO:=St->Hp->(Option Int->Hp->Prop)->Prop
def PO (X:Cx)(e:Option Expr)(t:TO):Prop:=
 ∀ (pins:List (Addr×Obj)) (s:Shared) (σ:St) (H:Hp) (Q:Option Int->Hp->Prop),Inv X pins σ H s->t σ H Q ->
   wpAny (model X.prog X.w) X.A (evalPart e X.env) (fun u s'=>∃ o H',Inv X pins σ H' s'/\IsPart u o/\Q o H') X.xe s
def x2:TO:=fun _ H Q=>Q none H
def Dm (t:TE):TO:=fun σ H Q=>t σ H fun x H1=>∃ i,x=.int i/\Q (some i) H1
section
variable {X:Cx}{e:Expr}{te:TE}{lo hi:Option Expr}{tl th:TO}{pos p2:Pos}
theorem qk:PO X none x2:=by
 intro pins s σ H Q I h
 rw[evalPart_none]
 exact wpAny_pure ⟨none,H,I,.none,h⟩
theorem je (h:PE X e te):PO X (some e) (Dm te):=by
 intro pins s σ H Q I hw
 rw[evalPart_some]
 refine aT (h pins s σ H _ I hw) fun u s1 ⟨x,H1,I1,r1,q1⟩=>?_
 obtain⟨i,rfl,q⟩:=q1
 obtain⟨t,rfl⟩:=r1
 exact⟨some i,H1,I1,.int i t,q⟩
def Ga (X:Cx)(r:V->Option Int->Option Int->Hp->VK->Prop):Prop:=
 ∀ (pins:List (Addr×Obj)) (s:Shared) (σ:St) (H:Hp) (x:V) (v vl vu:Value) (lo hi:Option Int) (sl:Addr) (Q:VK),Inv X pins σ H s->RelV x v->s.heap.IsSliceOf sl vl vu .none->IsPart vl lo->IsPart vu hi->r x lo hi H Q ->
   ∃ T id,typeLookup (.type T) "__getitem__"=pure (some (.builtin id))/\s.TypeIs v T/\wpAny (model X.prog X.w) X.A (getItem v (.ref sl)) (EP X pins σ Q) X.xe s
def Jb (r:V->Option Int->Option Int->Hp->VK->Prop)(te:TE)(tl th:TO):TE:=fun σ H Q=>te σ H fun x H1=>tl σ H1 fun l H2=>th σ H2 fun u H3=>r x l u H3 Q
theorem jM {r:V->Option Int->Option Int->Hp->VK->Prop}(hr:Ga X r)(he:PE X e te)(hl:PO X lo tl)(hu:PO X hi th):PE X (.Subscript e (.Slice lo hi none p2) pos) (Jb r te tl th):=by
 intro pins s σ H Q I h
 refine Subscript_ (aT (he pins s σ H _ I h) fun v s1 ⟨x,H1,I1,r1,q1⟩=>?_)
 refine wpAny_Slice (aT (hl pins s1 σ H1 _ I1 q1) fun vl s2 ⟨l,H2,I2,pl,q2⟩=>aT (hu pins s2 σ H2 _ I2 q2) fun vu s3 ⟨u,H3,I3,pu,q3⟩=>?_)
 rw[evalPart_none]
 refine wpAny_pure ?_
 have I4:Inv X pins σ H3 { s3 with heap:=s3.heap.push { cls:=.type "slice",data:=.fields #[vl,vu,.none]}}:=I3.kept (t':=s3.toks) fun b ob q=>k0 _ q
 obtain⟨T,id,hT,ht,hg⟩:=hr pins { s3 with heap:=s3.heap.push { cls:=.type "slice",data:=.fields #[vl,vu,.none]}} σ H3 x v vl vu l u s3.heap.objs.size Q I4 r1 (Heap.IsSliceOf.new ..) pl pu q3
 show wpAny (model X.prog X.w) X.A (subscriptTail e (.Slice lo hi none p2) v (.ref s3.heap.objs.size)) (EP X pins σ Q) X.xe { s3 with heap:=s3.heap.push { cls:=.type "slice",data:=.fields #[vl,vu,.none]}}
 exact tail_any (ops:=[.ref s3.heap.objs.size,v]) ht hT hg (by with_unfolding_all rfl)
noncomputable def nG (xs:List V)(lo hi:Option Int):List V:=(xs.drop (HT.nF xs.length 0 lo)).take (HT.nF xs.length xs.length hi - HT.nF xs.length 0 lo)
theorem nH (xs:List V)(lo hi:Option Int):(nG xs lo hi).length<=xs.length:=by
 unfold nG
 rw[LC,La]
 omega
theorem nI:eN X (.type "tuple") (fun xs H Q=>∃ a ys,xs=[.ref a]/\tH X.K H a ys/\Q (.ref a) H):=by
 intro pins s σ H xs us Q I r h
 obtain⟨a,ys,rfl,ha,q⟩:=h
 obtain⟨u,rfl,ru⟩:=vals1 r
 cases ru
 obtain⟨aF,_,p1,_⟩:=I.tuple ha
 exact call_tuple_same (items:=aF.toArray) p1 ⟨.ref a,H,I,rfl,q⟩
end
noncomputable def zU (n:Nat)(i:Int):Option Nat:=if 0<=i then (if i < n then some i.toNat else none) else if -(n:Int)<=i then some (i+n).toNat else none
noncomputable def jf {α:Type}(xs:List α)(i:Int):Option α:=(zU xs.length i).bind fun j=>xs[j]?
theorem x3 {n:Nat}{i:Int}{j:Nat}(h:zU n i=some j):seqIndex? i n=some j/\j < n/\-(n:Int)<=i/\i < n:=by
 unfold zU at h
 by_cases h0:0<=i
 . rw[if_pos h0] at h
   by_cases h1:i < n
   . rw[if_pos h1] at h
     have e:i.toNat=j:=Option.some.inj h
     exact⟨by rw[seqIndex_of h0 h1,e],by omega,by omega,h1⟩
   . rw[if_neg h1] at h;cases h
 . rw[if_neg h0] at h
   by_cases h1:-(n:Int)<=i
   . rw[if_pos h1] at h
     have e:(i+n).toNat=j:=Option.some.inj h
     exact⟨by rw[seqIndex_neg (by omega) h1,e],by omega,h1,by omega⟩
   . rw[if_neg h1] at h;cases h
theorem l6 {α:Type}{xs:List α}{i:Int}{v:α}(h:jf xs i=some v):∃ j,seqIndex? i xs.length=some j/\xs[j]?=some v/\j < xs.length/\-(xs.length:Int)<=i/\i < xs.length:=by
 unfold jf at h
 cases e:zU xs.length i with
 | none=>rw[e] at h;cases h
 | some j=>
   rw[e] at h
   obtain⟨h1,h2,h3,h4⟩:=x3 e
   exact⟨j,h1,h,h2,h3,h4⟩
theorem jg {α:Type}{xs:List α}{j:Nat}{v:α}(h:xs[j]?=some v):jf xs (j:Int)=some v:=by
 have hj:j < xs.length:=(KP.mp h).1
 have e:zU xs.length (j:Int)=some j:=by
   unfold zU
   rw[if_pos (by omega),if_pos (by omega)];simp
 unfold jf;rw[e];exact h
def fg (b:Expr):Prop:=∀ o i,subscripted b false o i=operate [o,i] (getItem o i)
def EU (X:Cx)(r:R2):Prop:=
 ∀ (value slice:Expr) (pins:List (Addr×Obj)) (s:Shared) (σ:St) (H:Hp) (x y:V) (v u:Value) (Q:VK),Inv X pins σ H s->RelV x v->RelV y u->r x y H Q ->
   subscripted slice false v u=operate [v,u] (getItem v u)->wpAny (model X.prog X.w) X.A (subscriptTail value slice v u) (EP X pins σ Q) X.xe s
def HJ (X:Cx)(id:String)(r:V->List V->Hp->VK->Prop):Prop:=
 ∀ (pins:List (Addr×Obj)) (s:Shared) (σ:St) (H:Hp) (x:V) (xs:List V) (v:Value) (us:List Value) (Q:VK),Inv X pins σ H s->RelV x v->Vals xs us->r x xs H Q ->
   wpAny (model X.prog X.w) X.A (call (.builtin id) (v::us)) (EP X pins σ Q) X.xe s
section
variable {X:Cx}{a b:Expr}{ta tb:TE}{pos:Pos}
theorem ql {r:R2}(hr:EU X r)(ha:PE X a ta)(hb:PE X b tb)(hs:fg b):PE X (.Subscript a b pos) (C2 r ta tb):=by
 intro pins s σ H Q I h
 exact Subscript_ (AG ha hb I h fun v u s2 x y H2 I2 rx ry q=>hr a b pins s2 σ H2 x y v u Q I2 rx ry q (hs _ _))
def Gb (K:W.Frag):R2:=fun x y H Q=>∃ p xs i v,x=.ref p/\y=.int i/\eF K H p xs/\jf xs i=some v/\Q v H
def Gd (K:W.Frag):R2:=fun x y H Q=>∃ p xs i v,x=.ref p/\y=.int i/\tH K H p xs/\jf xs i=some v/\Q v H
def Ge:R2:=fun x y H Q=>∃ z i c,x=.str z/\y=.int i/\z.length<=sizeLine/\jf z.cps.toList i=some c/\Q (.str ⟨#[c]⟩) H
theorem qm:EU X (Gb X.K):=by
 intro value slice pins s σ H x y v u Q I rx ry h hs
 obtain⟨p,xs,i,z,rfl,rfl,hq,he,q⟩:=h
 cases rx
 obtain⟨t,rfl⟩:=ry
 obtain⟨aF,r,pl,hz⟩:=I.list hq
 obtain⟨j,h1,h2,h3,h4,h5⟩:=l6 he
 obtain⟨w,ew,uv⟩:=r.get h2
 have hl:=r.length
 have hn:=jK
 have fin:EP X pins σ Q w s:=⟨z,H,I,uv,q⟩
 by_cases h0:0<=i
 . have hj:i.toNat=j:=by
     rw[seqIndex_of h0 h5] at h1
     exact Option.some.inj h1
   exact item_listR pl.isList h0 (by omega) (by rw[hj];simpa using ew) fin hs
 . have hj:(i+(aF.toArray.size:Int)).toNat=j:=by
     rw[seqIndex_neg (by omega) h4] at h1
     rw[LF,<- hl]
     exact Option.some.inj h1
   exact subscriptTail_builtinR (x:=w) pl.isList.typeIs slot_list_getitem.lookup
     (wpAny_getItem_list_neg (Q:=fun r s'=>r=w/\EP X pins σ Q r s') pl.isList (by omega) (by rw[LF] <;> omega) (by omega) (by rw[hj];simpa using ew) ⟨rfl,fin⟩) hs
theorem AR:EU X (Gd X.K):=by
 intro value slice pins s σ H x y v u Q I rx ry h hs
 obtain⟨p,xs,i,z,rfl,rfl,hq,he,q⟩:=h
 cases rx
 obtain⟨t,rfl⟩:=ry
 obtain⟨aF,r,pl,hz⟩:=I.tuple hq
 obtain⟨j,h1,h2,h3,h4,h5⟩:=l6 he
 obtain⟨w,ew,uv⟩:=r.get h2
 have hl:=r.length
 have hn:=jK
 have fin:EP X pins σ Q w s:=⟨z,H,I,uv,q⟩
 exact subscriptTail_builtinR (x:=w) pl.typeIs slot_tuple_getitem.lookup
   (getItem_tuple (j:=j) (Q:=fun r s'=>r=w/\EP X pins σ Q r s') pl (by omega) (by omega) (by rw[LF,<- hl];exact h1) (by simpa using ew) ⟨rfl,fin⟩) hs
theorem AS:EU X Ge:=by
 intro value slice pins s σ H x y v u Q I rx ry h hs
 obtain⟨z,i,c,rfl,rfl,hz,he,q⟩:=h
 obtain⟨t,rfl⟩:=rx
 obtain⟨t',rfl⟩:=ry
 obtain⟨j,h1,h2,h3,h4,h5⟩:=l6 he
 have hl:z.cps.toList.length=z.length:=by simp[Str.length]
 rw[hl] at h1 h4 h5
 have hn:=jK
 exact tail_any (typeIs_str s z t) slot_str_getitem.lookup (getItem_str (c:=c) (by
   have e1:decide (i < -(2 ^ 63:Int))=false:=decide_eq_false (by omega)
   have e2:decide (i >= 2 ^ 63)=false:=decide_eq_false (by omega)
   rw[e1,e2,Bool.or_false]) (by rw[h1];simpa using h2) ⟨.str ⟨#[c]⟩,H,I.tok _,⟨_,rfl⟩,q⟩) hs
theorem l7 (lo hi:Option Int)(n:Nat):(sliceBounds lo hi none n).1=((HT.nF n 0 lo:Nat):Int)/\(sliceBounds lo hi none n).2.1=((HT.nF n n hi:Nat):Int)/\(sliceBounds lo hi none n).2.2=1:=by
 refine⟨?_,?_,rfl⟩
 . cases lo with
   | none=>simp[sliceBounds,HT.nF]
   | some i=>
     simp only[sliceBounds,HT.nF,Option.getD_none,show(1:Int) > 0 by decide,if_true]
     by_cases h:i < 0
     . simp only[h,if_true] <;> omega
     . simp only[h,if_false] <;> omega
 . cases hi with
   | none=>simp[sliceBounds,HT.nF]
   | some i=>
     simp only[sliceBounds,HT.nF,Option.getD_none,show(1:Int) > 0 by decide,if_true]
     by_cases h:i < 0
     . simp only[h,if_true] <;> omega
     . simp only[h,if_false] <;> omega
theorem kL (aF:List Value)(lo hi:Option Int):slicePick aF.toArray lo hi none=((aF.drop (HT.nF aF.length 0 lo)).take (HT.nF aF.length aF.length hi - HT.nF aF.length 0 lo)).toArray:=by
 obtain⟨h1,h2,h3⟩:=l7 lo hi aF.toArray.size
 unfold slicePick
 rw[h1,h2,h3]
 simp only[sliceRange_one,pick_run,LF] <;> rfl
def Gf (K:W.Frag):V->Option Int->Option Int->Hp->VK->Prop:=fun x lo hi H Q=>∃ a xs,x=.ref a/\eF K H a xs/\∀ p,H p=none->Q (.ref p) (upd H p (.lst (nG xs lo hi)))
theorem qo:Ga X (Gf X.K):=by
 intro pins s σ H x v vl vu lo hi sl Q I rx hs pl pu h
 obtain⟨a,xs,rfl,hx,q⟩:=h
 cases rx
 obtain⟨aF,r,ht,hz⟩:=I.list hx
 have hlen:=r.length
 refine⟨"list",_,slot_list_getitem.lookup,ht.isList.typeIs,?_⟩
 refine wpAny_getItem_list_slice ht.isList hs pl pu .none (by simp) ?_ (by rw[LF] <;> omega)
 rw[kL,<- hlen]
 refine⟨.ref s.heap.objs.size,_,I.laid (t':=s.toks) (o:=.lst (nG xs lo hi)) (fun b ob q=>k0 _ q) (G1 _) ?_,rfl,q _ (I.aO.fresh (G1 _))⟩
 exact⟨LA (nH xs lo hi) hz,_,0,(r.drop (HT.nF xs.length 0 lo)).take (HT.nF xs.length xs.length hi - HT.nF xs.length 0 lo),K3 _ rfl⟩
noncomputable def gA:V->Bool
 | .aW=>true
 | .bl _=>true
 | .int _=>true
 | .str _=>true
 | _=>false
noncomputable def xD:V->V->Bool
 | .aW,.aW=>true
 | .bl a,.bl b=>a == b
 | .bl a,.int b=>(if a then 1 else 0) == b
 | .int a,.bl b=>a == (if b then 1 else 0)
 | .int a,.int b=>a == b
 | .str a,.str b=>a == b
 | _,_=>false
theorem AU {A:Around}{s:Shared}{y x:V}{u v:Value}(ry:RelV y u)(rx:RelV x v)(fy:gA y=true)(fx:gA x=true):SeqAt.EqAt A s u v (xD y x):=by
 cases y with
 | aW=>
   cases ry
   cases x with
   | aW=>cases rx;exact SeqAt.EqAt.same _
   | bl b=>cases rx;exact SeqAt.EqAt.none_bool b
   | int b=>obtain⟨t,rfl⟩:=rx;exact SeqAt.EqAt.none_int b t
   | str b=>obtain⟨t,rfl⟩:=rx;exact SeqAt.EqAt.none_str b t
   | _=>exact absurd (show false=true from fx) K8
 | bl a=>
   cases ry
   cases x with
   | aW=>cases rx;exact SeqAt.EqAt.bool_none a
   | bl b=>cases rx;exact SeqAt.EqAt.bool_bool a b
   | int b=>obtain⟨t,rfl⟩:=rx;exact SeqAt.EqAt.bool_int a b t
   | str b=>obtain⟨t,rfl⟩:=rx;exact SeqAt.EqAt.bool_str a b t
   | _=>exact absurd (show false=true from fx) K8
 | int a=>
   obtain⟨t',rfl⟩:=ry
   cases x with
   | aW=>cases rx;exact SeqAt.EqAt.int_none a t'
   | bl b=>cases rx;exact SeqAt.EqAt.int_bool a t' b
   | int b=>obtain⟨t,rfl⟩:=rx;exact SeqAt.EqAt.int_int a t' b t
   | str b=>obtain⟨t,rfl⟩:=rx;exact SeqAt.EqAt.int_str a t' b t
   | _=>exact absurd (show false=true from fx) K8
 | str a=>
   obtain⟨t',rfl⟩:=ry
   cases x with
   | aW=>cases rx;exact SeqAt.EqAt.str_none a t'
   | bl b=>cases rx;exact SeqAt.EqAt.str_bool a t' b
   | int b=>obtain⟨t,rfl⟩:=rx;exact SeqAt.EqAt.str_int a t' b t
   | str b=>obtain⟨t,rfl⟩:=rx;exact SeqAt.EqAt.str_str a t' b t
   | _=>exact absurd (show false=true from fx) K8
 | _=>exact absurd (show false=true from fy) K8
noncomputable def o8 (x:V)(u:Value):Bool:=match u with
 | .none=>xD .aW x
 | .bool b=>xD (.bl b) x
 | .int i _=>xD (.int i) x
 | .str z _=>xD (.str z) x
 | _=>false
theorem uw {x y:V}{u:Value}(r:RelV y u)(f:gA y=true):o8 x u=xD y x:=by
 cases y with
 | aW=>cases r;rfl
 | bl b=>cases r;rfl
 | int i=>obtain⟨t,rfl⟩:=r;rfl
 | str z=>obtain⟨t,rfl⟩:=r;rfl
 | _=>exact absurd (show false=true from f) K8
theorem gB {x:V}:∀ {xs:List V} {us:List Value},Vals xs us->xs.all gA=true->us.any (o8 x)=xs.any fun y=>xD y x
 | _,_,.nil,_=>rfl
 | y::xs,u::us,.cons r t,f=>by
   rw[Mu,LX] at f
   rw[Mv,Mv,uw r f.1,gB t f.2]
theorem eQ {A:Around}{s:Shared}{x:V}{v:Value}(rx:RelV x v)(fx:gA x=true):∀ {xs:List V} {us:List Value},Vals xs us->xs.all gA=true->∀ u∈us,SeqAt.EqAt A s u v (o8 x u)
 | _,_,.nil,_=>fun u hu=>by cases hu
 | y::xs,u::us,.cons r t,f=>fun u' hu=>by
   rw[Mu,LX] at f
   rcases K4.mp hu with rfl | hu
   . rw[uw r f.1];exact AU r rx f.1 fx
   . exact eQ rx fx t f.2 u' hu
noncomputable def Dn (x:V)(xs:List V):Bool:=xs.any fun y=>xD y x
def EV (K:W.Frag)(neg:Bool):R2:=fun x y H Q=>∃ p xs,y=.ref p/\(eF K H p xs\/tH K H p xs)/\gA x=true/\xs.all gA=true/\Q (.bl (if neg then !Dn x xs else Dn x xs)) H
theorem k9:gk X (compareOp .In) (EV X.K false):=by
 intro pins s σ H x y v u Q I rx ry h
 obtain⟨p,xs,rfl,hq,fx,fs,q⟩:=h
 cases ry
 rcases hq with hq | hq
 . obtain⟨aF,r,pl,hz⟩:=I.list hq
   refine SeqAt.in_listAt (o8 x) pl.isList (fun w hw=>eQ rx fx r fs w (by simpa using hw)) ⟨.bl _,H,I,rfl,?_⟩
   rw[show aF.toArray.any (o8 x)=aF.any (o8 x) by simp,gB r fs]
   exact q
 . obtain⟨aF,r,pl,hz⟩:=I.tuple hq
   refine SeqAt.in_tupleAt (o8 x) pl (fun w hw=>eQ rx fx r fs w (by simpa using hw)) ⟨.bl _,H,I,rfl,?_⟩
   rw[show aF.toArray.any (o8 x)=aF.any (o8 x) by simp,gB r fs]
   exact q
theorem l8:gk X (compareOp .NotIn) (EV X.K true):=by
 intro pins s σ H x y v u Q I rx ry h
 obtain⟨p,xs,rfl,hq,fx,fs,q⟩:=h
 cases ry
 rcases hq with hq | hq
 . obtain⟨aF,r,pl,hz⟩:=I.list hq
   refine SeqAt.notIn_listAt (o8 x) pl.isList (fun w hw=>eQ rx fx r fs w (by simpa using hw)) ⟨.bl _,H,I,rfl,?_⟩
   rw[show aF.toArray.any (o8 x)=aF.any (o8 x) by simp,gB r fs]
   exact q
 . obtain⟨aF,r,pl,hz⟩:=I.tuple hq
   refine SeqAt.notIn_tupleAt (o8 x) pl (fun w hw=>eQ rx fx r fs w (by simpa using hw)) ⟨.bl _,H,I,rfl,?_⟩
   rw[show aF.toArray.any (o8 x)=aF.any (o8 x) by simp,gB r fs]
   exact q
theorem dY:eN X (.builtin "len") (fun xs H Q=>∃ p ys,xs=[.ref p]/\(eF X.K H p ys\/tH X.K H p ys)/\Q (.int ys.length) H):=by
 intro pins s σ H xs us Q I r h
 obtain⟨p,ys,rfl,hq,q⟩:=h
 obtain⟨u,rfl,rx⟩:=vals1 r
 cases rx
 have hn:=jK
 rcases hq with hq | hq
 . obtain⟨aF,r',pl,hz⟩:=I.list hq
   have hlen:=r'.length
   exact Calls.call_len_list pl.isList (by simp only[LF] <;> omega) ⟨.int ys.length,H,I.tok _,⟨s.toks+1,by rw[LF,hlen]⟩,q⟩
 . obtain⟨aF,r',pl,hz⟩:=I.tuple hq
   have hlen:=r'.length
   exact len_tuple pl (by simp only[LF] <;> omega) ⟨.int ys.length,H,I.tok _,⟨s.toks+1,by rw[LF,hlen]⟩,q⟩
theorem l9:eN X (.builtin "len") (fun xs H Q=>∃ z,xs=[.str z]/\z.length<=sizeLine/\Q (.int z.length) H):=by
 intro pins s σ H xs us Q I r h
 obtain⟨z,rfl,hz,q⟩:=h
 obtain⟨u,rfl,t,rfl⟩:=vals1 r
 have hn:=jK
 exact len_str (by omega) ⟨.int z.length,H,I.tok _,⟨_,rfl⟩,q⟩
def HK (K:W.Frag)(T:String)(x:V)(H:Hp):Prop:=match x with
 | .str _=>T="str"
 | .int _=>T="int"
 | .ref p=>(T="list"/\∃ xs,eF K H p xs)\/(T="tuple"/\∃ o,K.lookup p=some o/\o.cls=.type "tuple"/\o.dict=none) \/
     (T="dict"/\((∃ kvs,H p=some (.dK kvs))\/(∃ kvs,H p=some (.dT kvs))\/∃ tg o kvs,H p=some (.kd tg o kvs)))\/(T="set"/\∃ S n,H p=some (.set S n)) \/
     (T="list"/\∃ (a:Addr) (ls:ng) (ns:List Nat) (j:Nat) (f:Nat->List (Key×FD)) (N:Nat),H a=some (.iL ls ns)/\ls[j]?=some (p,f)/\ns[j]?=some N)
 | _=>False
theorem AV {pins:List (Addr×Obj)}{σ:St}{H:Hp}{s:Shared}{T:String}{x:V}{v:Value}(I:Inv X pins σ H s)(r:RelV x v)(ty:HK X.K T x H):s.TypeIs v T/\∀ a,v=.ref a->∃ ob,s.heap.get? a=some ob/\ob.dict=none:=by
 cases x with
 | str z=>
   obtain⟨t,rfl⟩:=r
   cases (show T="str" from ty)
   exact⟨typeIs_str s z t,fun _ e=>nomatch e⟩
 | int i=>
   obtain⟨t,rfl⟩:=r
   cases (show T="int" from ty)
   exact⟨typeIs_int s i t,fun _ e=>nomatch e⟩
 | ref p=>
   cases r
   rcases ty with⟨rfl,xs,hq⟩ | ⟨rfl,o,hk,hc,hd⟩ | ⟨rfl,hk⟩ | ⟨rfl,S,n,hk⟩ | ⟨rfl,a,ls,ns,j,f,N,h1,h2,h3⟩
   . obtain⟨aF,_,pl,_⟩:=I.list hq
     refine⟨pl.isList.typeIs,fun a e=>?_⟩
     cases e
     obtain⟨o,n,e,c,hd,_⟩:=pl
     exact⟨o,e,hd⟩
   . refine⟨⟨o,I.dW p o hk,hc⟩,fun a e=>?_⟩
     cases e
     exact⟨o,I.dW _ o hk,hd⟩
   . have z:∃ o,s.heap.get? p=some o/\o.ExactDict:=by
       rcases hk with⟨kvs,hk⟩ | ⟨kvs,hk⟩ | ⟨tg,ob,kvs,hk⟩
       . obtain⟨_,_,_,_,o,_,_,e,ex,_⟩:=I.aO p _ hk
         exact⟨o,e,ex⟩
       . obtain⟨_,_,_,_,o,_,_,e,ex,_⟩:=I.aO p _ hk
         exact⟨o,e,ex⟩
       . obtain⟨_,⟨_,_,_,_,o,_,_,e,ex,_⟩,_⟩:=I.aO p _ hk
         exact⟨o,e,ex⟩
     obtain⟨o,e,ex⟩:=z
     refine⟨⟨o,e,ex.1⟩,fun a e2=>?_⟩
     cases e2
     exact⟨o,e,ex.2.1⟩
   . obtain⟨o,_,_,_,e,ex,_⟩:=I.aO p _ hk
     refine⟨⟨o,e,ex.1⟩,fun a e2=>?_⟩
     cases e2
     exact⟨o,e,ex.2.1⟩
   . obtain⟨_,_,_,_,_,_,h6⟩:=(show aM X.prog X.w H s.heap a (.iL ls ns) from I.aO a _ h1)
     obtain⟨aF,c,e1,e2,e3⟩:=h6 j p f N h2 h3
     refine⟨⟨_,e1,rfl⟩,fun a' e4=>?_⟩
     cases e4
     exact⟨_,e1,rfl⟩
 | _=>exact False.elim ty
def Jc (K:W.Frag)(T:String)(r:V->List V->Hp->VK->Prop)(to:TE)(t:TA):TE:=fun σ H Q=>to σ H fun x H1=>HK K T x H1/\t σ H1 fun xs H2=>r x xs H2 Q
variable {o e:Expr}{es:List Expr}{to:TE}{t:TA}{name:Str}{apos bo:Pos}{T id:String}{r:V->List V->Hp->VK->Prop}
theorem zV (pa:PlainAttrs T)(slot:Slot T name id)(Dp:typeOf (.builtin id)=pure (.type "method_descriptor"))(hm:HJ X id r)(ho:PE X o to)(ha:PA X (e::es) t)
   (jN:attributeBase o name X.env (eval o X.env)=eval o X.env:=by rfl)
   (o9:((backTo bo (starEach (e::es) X.env)).all (fun x=>!x.1) && (backToKw bo (keywordEach [] X.env)).all (fun x=>x.1.isSome)
     && decide ((e::es).length+([]:List Keyword).length+(if ([]:List Keyword).isEmpty then 0 else 1) < 30))=true:=by rfl)
   (jO:(apos.endLine == bo.line)=true:=by rfl) (hs:starEach (e::es) X.env=(false,eval e X.env)::starEach es X.env:=by rfl) (AW:(backTo bo (starEach es X.env)).any (·.1)=false:=by rfl) :
   PE X (.Call (.Attribute o name apos) (e::es) [] bo) (Jc X.K T r to t):=by
 intro pins s σ H Q I h
 refine wpAny_Call_method_late jN o9 jO rfl (aT (ho pins s σ H _ I h) fun v s1 ⟨x,H1,I1,r1,ty,q1⟩=>?_)
 obtain⟨h1,h2⟩:=AV I1 r1 ty
 refine⟨T,id,pa,slot,Dp,h1,h2,?_⟩
 have hA:=ha bo pins s1 σ H1 _ I1 q1
 rw[hs] at hA ⊢
 refine Calls.callWith_builtin (by show(false || (backTo bo (starEach es X.env)).any (·.1))=false;rw[AW] <;> rfl) (Calls.evalArgs_plain ?_)
 exact aT hA fun us s2 ⟨vs,H2,I2,r2,q2⟩=>hm pins s2 σ H2 x vs v us Q I2 r1 r2 q2
end
def Jd (X:Cx)(id:String)(r:V->List V->Hp->VK->Prop):Prop:=
 ∀ (pins:List (Addr×Obj)) (s:Shared) (σ:St) (H:Hp) (x:V) (xs:List V) (v:Value) (us:List Value) (Q:VK),Inv X pins σ H s->RelV x v->Vals xs us->r x xs H Q ->
   wpAny (model X.prog X.w) X.A (call (.builtin id) (v::us)) (EP X pins σ Q) X.xe s
theorem Vals.one:∀ {x:V} {us:List Value},Vals [x] us->∃ u,us=[u]/\RelV x u
 | _,_,.cons r .nil=>⟨_,rfl,r⟩
section
variable {X:Cx}{pins:List (Addr×Obj)}{σ:St}{H:Hp}{s:Shared}{l:Addr}{xs ys:List V}
theorem Inv.Gg {aF its':List Value}{n:Nat}{f:Array Value->Array Value}{t':Nat}(I:Inv X pins σ H s)(hH:H l=some (.lst xs))(e:s.heap.get? l=some { cls:=.type "list",data:=.seq aF.toArray n})(hf:f aF.toArray=its'.toArray)(hv:Vals ys its')(hz:ys.length<=sizeLine):Inv X pins σ (upd H l (.lst ys)) { s with heap:=s.heap.update l (Obj.mapSeq f),toks:=t'}:=by
 have q:=PySem.IsL.update e f
 rw[hf] at q
 refine I.write (x:=l) (e:=l) (by rw[hH];exact trivial) (.inl rfl) (fun b' u hb hu=>(Heap.get?_update_other s.heap (Obj.mapSeq f) (Ne.symm hb)).trans hu) ⟨_,q⟩ ?_
 exact⟨hz,its',_,hv,q⟩
theorem Inv.Gh (I:Inv X pins σ H s)(hH:H l=some (.lst xs)):xs.length<=sizeLine/\∃ (aF:List Value) (n:Nat),Vals xs aF/\xs.length=aF.length/\s.heap.get? l=some { cls:=.type "list",data:=.seq aF.toArray n}:=by
 obtain⟨z,aF,n,r,e⟩:=I.aO l _ hH
 exact⟨z,aF,n,r,r.length,e⟩
end
section
variable {X:Cx}
def x4:V->List V->Hp->VK->Prop:=fun x vs H Q=>∃ l xs y,x=.ref l/\vs=[y]/\H l=some (.lst xs)/\xs.length < sizeLine/\Q .aW (upd H l (.lst (xs ++ [y])))
theorem hZ:Jd X "list.append" x4:=by
 intro pins s σ H x vs v us Q I rx rv h
 obtain⟨l,xs,y,rfl,rfl,hH,hz,q⟩:=h
 cases rx
 obtain⟨u,rfl,ru⟩:=rv.one
 obtain⟨z,aF,n,r,hl,e⟩:=I.Gh hH
 refine call_meets F.slot_list_append ⟨_,e,rfl⟩ F.entry_list_append (F.args_list_append_2 _ _) (PySem.list_append l aF.toArray n u (by rw[LF];omega)) ⟨e,?_⟩
 refine⟨.aW,_,I.Gg (its':=aF ++ [u]) hH e (by simp) (r.append (.cons ru .nil)) ?_,rfl,q⟩
 rw[Lz,List.length_singleton]
 omega
end
section
variable {κ:Type}[DecidableEq κ]
noncomputable def dZ (kvs:List (κ×V))(k:κ):Option V:=(kvs.find? fun kv=>decide (kv.1=k)).map (·.2)
noncomputable def putK (kvs:List (κ×V))(k:κ)(v:V):List (κ×V):=
 if (kvs.any fun kv=>decide (kv.1=k))=true then kvs.map (fun kv=>if kv.1=k then (kv.1,v) else kv) else kvs ++ [(k,v)]
theorem dA {p:κ×V}{r:List (κ×V)}{k:κ}(e:p.1=k):dZ (p::r) k=some p.2:=by simp[dZ,LO,e]
theorem dB {p:κ×V}{r:List (κ×V)}{k:κ}(e:¬ p.1=k):dZ (p::r) k=dZ r k:=by simp[dZ,LO,e]
theorem eR (k:κ):∀ kvs:List (κ×V),(kvs.any fun kv=>decide (kv.1=k))=(dZ kvs k).isSome
 | []=>rfl
 | p::r=>by
   rw[Mv]
   by_cases e:p.1=k
   . simp only[dA e,decide_eq_true e,Bool.true_or,Option.isSome_some]
   . rw[dB e,decide_eq_false e,Bool.false_or];exact eR k r
theorem eU (kvs:List (κ×V))(k:κ)(v:V):(putK kvs k v).length<=kvs.length+1:=by
 unfold putK
 split
 . rw[Bn];omega
 . rw[Lz,Lr,List.length_nil];omega
theorem eJ.dC {o:Option V}{u:Option Value}(r:eJ o u):o.isSome=u.isSome:=by
 cases o with
 | none=>cases u with
   | none=>rfl
   | some _=>exact(show False from r).elim
 | some _=>cases u with
   | none=>exact(show False from r).elim
   | some _=>rfl
theorem eJ.getD {o:Option V}{u:Option Value}{d:V}{d':Value}(r:eJ o u)(rd:RelV d d'):RelV (o.getD d) (u.getD d'):=by
 cases o with
 | none=>cases u with
   | none=>exact rd
   | some _=>exact(show False from r).elim
 | some _=>cases u with
   | none=>exact(show False from r).elim
   | some _=>exact r
theorem KV.val {kvs:List (κ×V)}{vs:List (κ×Value)}(r:KV kvs vs)(k:κ):eJ (dZ kvs k) (valueAt vs k):=by
 unfold KV at r
 induction r with
 | nil=>exact True.intro
 | @cons p q ps qs h t ih=>
   obtain⟨h1,h2⟩:=h
   by_cases e:p.1=k
   . have e':q.1=k:=h1.symm.trans e
     have b:valueAt (q::qs) k=some q.2:=by simp[valueAt,LO,e']
     rw[dA e,b];exact h2
   . have e':¬ q.1=k:=fun z=>e (h1.trans z)
     have b:valueAt (q::qs) k=valueAt qs k:=by simp[valueAt,LO,e']
     rw[dB e,b];exact ih
theorem KV.any {kvs:List (κ×V)}{vs:List (κ×Value)}(r:KV kvs vs)(k:κ):(kvs.any fun kv=>decide (kv.1=k))=vs.any fun kv=>decide (kv.1=k):=by
 unfold KV at r
 induction r with
 | nil=>rfl
 | cons h t ih=>rw[Mv,Mv,ih,h.1]
theorem KV.AX {kvs:List (κ×V)}{vs:List (κ×Value)}(r:KV kvs vs)(k:κ){y:V}{u:Value}(ry:RelV y u):KV (kvs.map fun kv=>if kv.1=k then (kv.1,y) else kv) (vs.map fun kv=>if kv.1=k then (kv.1,u) else kv):=by
 unfold KV at r ⊢
 induction r with
 | nil=>exact .nil
 | @cons p q ps qs h t ih=>
   rw[Lv,Lv]
   refine .cons ?_ ih
   obtain⟨h1,h2⟩:=h
   by_cases e:p.1=k
   . rw[if_pos e,if_pos (h1.symm.trans e)];exact⟨h1,ry⟩
   . rw[if_neg e,if_neg (fun z=>e (h1.trans z))];exact⟨h1,h2⟩
theorem KV.put {kvs:List (κ×V)}{vs:List (κ×Value)}(r:KV kvs vs)(k:κ){y:V}{u:Value}(ry:RelV y u):KV (putK kvs k y) (stored vs k u):=by
 unfold putK stored
 rw[r.any k]
 by_cases e:(vs.any fun kv=>decide (kv.1=k))=true
 . rw[if_pos e,if_pos e];exact r.AX k ry
 . rw[if_neg e,if_neg e];exact Paired.snoc r ⟨rfl,ry⟩
theorem KV.length {kvs:List (κ×V)}{vs:List (κ×Value)}(r:KV kvs vs):kvs.length=vs.length:=Paired.length r
end
theorem jP {P:Program}{w:World}{k:Key}{u:Value}(r:RelV (kV k) u):(aX P w).is k u=true:=by
 cases k with
 | inl i=>obtain⟨t,e⟩:=(show ∃ t,u=Value.int i t from r);subst e;exact nh P w i t
 | inr x=>obtain⟨t,e⟩:=(show ∃ t,u=Value.str x t from r);subst e;exact ni P w x t
theorem lb {P:Program}{w:World}:∀ {ks:List Key} {us:List Value},Vals (ks.map kV) us->ItemsAre (aX P w) ks us
 | [],_,r=>by rw[List.map_nil] at r;cases r;exact .nil
 | k::ks,_,r=>by
   rw[Lv] at r
   cases r with
   | cons h t=>exact .cons (jP h) (lb t)
abbrev KT (H:Hp):List (List Key×V)->List (List Key×Addr×Value)->Prop:=Paired fun p q=>p.1=q.1/\H q.2.1=some (.tup (p.1.map kV))/\RelV p.2 q.2.2
theorem KT.val {H:Hp}{kvs:List (List Key×V)}{xs:List (List Key×Addr×Value)}(r:KT H kvs xs)(k:List Key):eJ (dZ kvs k) ((atKey xs k).map (·.2)):=by
 induction r with
 | nil=>exact True.intro
 | @cons p q ps qs h t ih=>
   obtain⟨h1,_,h2⟩:=h
   by_cases e:p.1=k
   . have e':q.1=k:=h1.symm.trans e
     have b:atKey (q::qs) k=some q.2:=by simp[atKey,LO,e']
     rw[dA e,b];exact h2
   . have e':¬ q.1=k:=fun z=>e (h1.trans z)
     have b:atKey (q::qs) k=atKey qs k:=by simp[atKey,LO,e']
     rw[dB e,b];exact ih
theorem KT.AX {H:Hp}{kvs:List (List Key×V)}{xs:List (List Key×Addr×Value)}(r:KT H kvs xs)(k:List Key){y:V}{u:Value}(ry:RelV y u):KT H (kvs.map fun kv=>if kv.1=k then (kv.1,y) else kv) (xs.map (putAt k u)):=by
 induction r with
 | nil=>exact .nil
 | @cons p q ps qs h t ih=>
   rw[Lv,Lv]
   refine .cons ?_ ih
   obtain⟨h1,h2,h3⟩:=h
   unfold putAt
   by_cases e:p.1=k
   . rw[if_pos e,if_pos (h1.symm.trans e)];exact⟨h1,h2,ry⟩
   . rw[if_neg e,if_neg (fun z=>e (h1.trans z))];exact⟨h1,h2,h3⟩
theorem KT.put {H:Hp}{kvs:List (List Key×V)}{xs:List (List Key×Addr×Value)}(r:KT H kvs xs)(k:List Key){b:Addr}{y:V}{u:Value}(hb:H b=some (.tup (k.map kV)))(ry:RelV y u):KT H (putK kvs k y) (storedH xs k b u):=by
 have e:(kvs.any fun kv=>decide (kv.1=k))=(atKey xs k).isSome:=by
   rw[eR,(r.val k).dC,Mg]
 unfold putK storedH
 rw[e]
 by_cases q:(atKey xs k).isSome=true
 . rw[if_pos q,if_pos q];exact r.AX k ry
 . rw[if_neg q,if_neg q];exact Paired.snoc r ⟨rfl,hb,ry⟩
theorem KT.keeps {H H':Hp}{kvs:List (List Key×V)}{xs:List (List Key×Addr×Value)}(r:KT H kvs xs)(ht:∀ b ys,H b=some (.tup ys)->H' b=some (.tup ys)):KT H' kvs xs:=
 Paired.Ap r fun _ _ z=>⟨z.1,ht _ _ z.2.1,z.2.2⟩
section
variable {P:Program}{w:World}{H:Hp}{h:Heap}{a:Addr}
theorem zW {u:HO}(ok:gj P w H h)(e:Rd H a u):aM P w H h a u:=e.ok ok
theorem gC {kvs:List (Key×V)}(ok:gj P w H h)(e:Rd H a (.dK kvs)):kvs.length<=sizeLine/\(a == sysModules)=false/\∃ vs,KV kvs vs/\h.DictOf (aX P w) a vs:=
 show aM P w H h a (.dK kvs) from zW ok e
theorem zX {kvs:List (Key×V)}(ok:gj P w H h)(e:H a=some (.dK kvs)):kvs.length<=sizeLine/\(a == sysModules)=false/\∃ vs,KV kvs vs/\h.DictOf (aX P w) a vs:=gC ok (.inl e)
theorem h9 {ks:List Key}(ok:gj P w H h)(e:H a=some (.tup (ks.map kV))):(tupleKind (aX P w)).is h ks a:=by
 obtain⟨_,aF,r,o,h1,h2,n,h3⟩:=(show aM P w H h a (.tup (ks.map kV)) from ok a _ e)
 exact⟨o,aF.toArray,n,h1,h2,h3,by simpa using lb r⟩
theorem jQ {kvs:List (List Key×V)}(ok:gj P w H h)(e:Rd H a (.dT kvs)):kvs.length<=sizeLine/\(a == sysModules)=false/\∃ xs,KT H kvs xs/\h.DictOfH (tupleKind (aX P w)) a xs:=by
 obtain⟨z,y,xs,r,o,es,ep,h1,h2,h3,h4,h5⟩:=(show aM P w H h a (.dT kvs) from zW ok e)
 refine⟨z,y,xs,r,o,es,ep,h1,h2,h3,h4,fun x hx=>?_,h5⟩
 have all:∀ {l:List (List Key×V)} {m:List (List Key×Addr×Value)},KT H l m->∀ x∈m,(tupleKind (aX P w)).is h x.1 x.2.1:=by
   intro l m q
   induction q with
   | nil=>intro x hx;exact nomatch hx
   | @cons p q ps qs hq t ih=>
     intro x hx
     rcases K4.mp hx with e | hx
     . subst e
       exact h9 ok (by rw[<- hq.1];exact hq.2.1)
     . exact ih x hx
 exact all r x hx
theorem zY {kvs:List (List Key×V)}(ok:gj P w H h)(e:H a=some (.dT kvs)):kvs.length<=sizeLine/\(a == sysModules)=false/\∃ xs,KT H kvs xs/\h.DictOfH (tupleKind (aX P w)) a xs:=jQ ok (.inl e)
end
def dt (H:Hp)(a:Addr)(y:V)(r:Option V):Prop:=
 (∃ kvs k,Rd H a (.dK kvs)/\y=kV k/\r=dZ kvs k)\/∃ kvs k b,Rd H a (.dT kvs)/\y=.ref b/\H b=some (.tup (k.map kV))/\r=dZ kvs k
def kM (H:Hp)(a:Addr)(y v:V)(H':Hp):Prop:=
 (∃ kvs k,H a=some (.dK kvs)/\y=kV k/\kvs.length < sizeLine/\H'=upd H a (.dK (putK kvs k v))) \/
 ∃ kvs k b,H a=some (.dT kvs)/\y=.ref b/\H b=some (.tup (k.map kV))/\kvs.length < sizeLine/\H'=upd H a (.dT (putK kvs k v))
theorem dt.k {H:Hp}{a:Addr}{kvs:List (Key×V)}{k:Key}(e:H a=some (.dK kvs)):dt H a (kV k) (dZ kvs k):=.inl ⟨kvs,k,.inl e,rfl,rfl⟩
theorem dt.t {H:Hp}{a b:Addr}{kvs:List (List Key×V)}{k:List Key}(e:H a=some (.dT kvs))(eb:H b=some (.tup (k.map kV))):dt H a (.ref b) (dZ kvs k):=.inr ⟨kvs,k,b,.inl e,rfl,eb,rfl⟩
theorem kM.k {H:Hp}{a:Addr}{kvs:List (Key×V)}{k:Key}{v:V}(e:H a=some (.dK kvs))(hl:kvs.length < sizeLine):kM H a (kV k) v (upd H a (.dK (putK kvs k v))):=.inl ⟨kvs,k,e,rfl,hl,rfl⟩
theorem kM.t {H:Hp}{a b:Addr}{kvs:List (List Key×V)}{k:List Key}{v:V}(e:H a=some (.dT kvs))(eb:H b=some (.tup (k.map kV)))(hl:kvs.length < sizeLine):kM H a (.ref b) v (upd H a (.dT (putK kvs k v))):=.inr ⟨kvs,k,b,e,rfl,eb,hl,rfl⟩
section
variable {X:Cx}{pins:List (Addr×Obj)}{σ:St}{H:Hp}{s:Shared}{a:Addr}{y v:V}{u r:Value}{o:Option V}{A:Around}{E:Value->Shared->Prop}
theorem Inv.big (I:Inv X pins σ H s):sysModules < s.heap.objs.size:=by
 have h:mainGlobals < s.heap.objs.size:=(I.mod.glob.keeps I.bk).lt
 exact Nat.lt_trans (by decide) h
theorem rX {Q:Value->Shared->Prop}(hu:A.units+1 < cLine)(I:Inv X pins σ H s)(g:dt H a y (some v))(ry:RelV y u)(h:∀ w' s',Inv X pins σ H s'->RelV v w'->Q w' s'):wpAny (model X.prog X.w) A (getItem (.ref a) u) Q E s:=by
 rcases g with⟨kvs,k,e,ey,l⟩ | ⟨kvs,k,b,e,ey,eb,l⟩
 . subst ey
   obtain⟨z,hd,vs,rel,dd⟩:=gC I.aO e
   obtain⟨w',hw,uv⟩:=eJ.some_of (v:=v) (o:=valueAt vs k) (by rw[l];exact rel.val k)
   exact wpAny_getItem_of (jP ry) dd.mapOf hw (h w' _ (I.tok _) uv)
 . subst ey
   cases (show u=Value.ref b from ry)
   obtain⟨z,hd,xs,rel,dd⟩:=jQ I.aO e
   obtain⟨w',hw,uv⟩:=eJ.some_of (v:=v) (o:=(atKey xs k).map (·.2)) (by rw[l];exact rel.val k)
   obtain⟨p,hp,Gi⟩:=Option.map_eq_some_iff.mp hw
   refine wpAny_getItem_heap (tupleKind_room_in1 hu) (h9 I.aO eb) dd hp ?_
   rw[Gi]
   exact h w' _ (I.tok _) uv
theorem Gj {Q:Value->Shared->Prop}(hu:A.units+1 < cLine)(I:Inv X pins σ H s)(g:dt H a y o)(ry:RelV y u)(h:∀ s',Inv X pins σ H s'->Q (.bool o.isSome) s'):wpAny (model X.prog X.w) A (compareOp .In u (.ref a)) Q E s:=by
 rcases g with⟨kvs,k,e,ey,l⟩ | ⟨kvs,k,b,e,ey,eb,l⟩
 . subst ey
   obtain⟨z,hd,vs,rel,dd⟩:=gC I.aO e
   refine wpAny_in_of (jP ry) hd dd.mapOf ?_
   rw[<- (rel.val k).dC,<- l]
   exact h _ (I.tok _)
 . subst ey
   cases (show u=Value.ref b from ry)
   obtain⟨z,hd,xs,rel,dd⟩:=jQ I.aO e
   refine wpAny_in_heap (tupleKind_room_in1 hu) (h9 I.aO eb) hd dd ?_
   have q:=(rel.val k).dC
   rw[Mg] at q
   rw[<- q,<- l]
   exact h _ (I.tok _)
theorem x5 {Q:Value->Shared->Prop}(hu:A.units+1 < cLine)(I:Inv X pins σ H s)(g:dt H a y o)(ry:RelV y u)(h:∀ s',Inv X pins σ H s'->Q (.bool (!o.isSome)) s'):wpAny (model X.prog X.w) A (compareOp .NotIn u (.ref a)) Q E s:=by
 rcases g with⟨kvs,k,e,ey,l⟩ | ⟨kvs,k,b,e,ey,eb,l⟩
 . subst ey
   obtain⟨z,hd,vs,rel,dd⟩:=gC I.aO e
   refine wpAny_notIn_of (jP ry) hd dd.mapOf ?_
   rw[<- (rel.val k).dC,<- l]
   exact h _ (I.tok _)
 . subst ey
   cases (show u=Value.ref b from ry)
   obtain⟨z,hd,xs,rel,dd⟩:=jQ I.aO e
   refine wpAny_notIn_heap (tupleKind_room_in1 hu) (h9 I.aO eb) hd dd ?_
   have q:=(rel.val k).dC
   rw[Mg] at q
   rw[<- q,<- l]
   exact h _ (I.tok _)
theorem gD {h':Heap}{t':Nat}{ob:HO}(I:Inv X pins σ H s)(mu:CA (H a))(hs:Ma a s.heap h')(he:∃ q,h'.get? a=some q)(new:aM X.prog X.w (upd H a ob) h' a ob):Inv X pins σ (upd H a ob) { s with heap:=h',toks:=t'}:=
 I.write (x:=a) (e:=a) mu (.inl rfl) (fun b q hb z=>(hs.2 b hb).trans z) he new
theorem ux {P:Program}{w:World}{H':Hp}{h':Heap}{kvs:List (Key×V)}{vs:List (Key×Value)}(z:kvs.length<=sizeLine)(hd:(a == sysModules)=false)(rel:KV kvs vs)(dd:h'.DictOf (aX P w) a vs):aM P w H' h' a (.dK kvs):=⟨z,hd,vs,rel,dd⟩
theorem rY {H':Hp}{Q:Unit->Shared->Prop}(hu:A.units+1 < cLine)(I:Inv X pins σ H s)(g:kM H a y v H')(ry:RelV y u)(rv:RelV v r)(h:∀ s',Inv X pins σ H' s'->Q () s'):wpAny (model X.prog X.w) A (setItem (.ref a) u r) Q E s:=by
 rcases g with⟨kvs,k,e,ey,l,eH⟩ | ⟨kvs,k,b,e,ey,eb,l,eH⟩
 . subst ey eH
   obtain⟨z,hd,vs,rel,dd⟩:=zX I.aO e
   have hz:vs.length<=sizeLine:=by rw[<- rel.length];exact z
   have hl:(putK kvs k v).length<=sizeLine:=by have:=eU kvs k v;omega
   refine wpAny_setItem_pairs (hsz:=hz) (jP ry) dd fun h' AY hs=>h _ ?_
   have he:∃ q,h'.get? a=some q:=let ⟨q,_,_,hq,_⟩:=AY;⟨q,hq⟩
   exact gD I (by rw[e];exact True.intro) hs he (ux hl hd (rel.put k rv) AY)
 . subst ey eH
   cases (show u=Value.ref b from ry)
   obtain⟨z,hd,xs,rel,dd⟩:=zY I.aO e
   have hz:xs.length<=sizeLine:=by rw[<- Paired.length rel];exact z
   have hl:(putK kvs k v).length<=sizeLine:=by have:=eU kvs k v;omega
   refine wpAny_setItem_heap (hsz:=hz) (tupleKind_room_in1 hu) (h9 I.aO eb) dd fun h' AY hs=>h _ ?_
   obtain⟨q,es,ep,hq,h2,h3,h4,_,h5⟩:=AY
   refine gD I (by rw[e];exact True.intro) hs ⟨q,hq⟩ ⟨hl,hd,_,(rel.put k eb rv).keeps fun c ys ec=>?_,q,es,ep,hq,h2,h3,h4,h5⟩
   rw[aj (CM ec e (fun z=>nomatch z))]
   exact ec
end
def uy (i:Expr):Prop:=∀ ov iv,subscripted i false ov iv=operate [ov,iv] (getItem ov iv)
theorem x6 {prog:Program}{w:World}{A:Around}{E:Value->Shared->Prop}{s:Shared}{env:Env}{value slice:Expr}{pos:Pos}{T id:String}{Q:Value->Shared->Prop}(hl:typeLookup (.type T) "__getitem__"=pure (some (.builtin id)))(hs:uy slice)(h:wpAny (model prog w) A (eval value env) (fun o s₁=>wpAny (model prog w) A (eval slice env) (fun i s₂=>s₂.TypeIs o T/\wpAny (model prog w) A (getItem o i) Q E s₂) E s₁) E s):wpAny (model prog w) A (eval (.Subscript value slice pos) env) Q E s:=by
 refine Subscript_ (wpAny_mono h (fun o s₁ h₁=>wpAny_mono h₁ (fun i s₂ h₂=>?_) fun _ _ x=>x) fun _ _ x=>x)
 obtain⟨hT,h₂⟩:=h₂
 unfold subscriptTail
 refine wpAny_bind ?_
 rw[getitemInPython_of_ne hT.not_modules]
 refine wpAny_bind (wpAny_specialOf hT hl ?_)
 have fin:wpAny (model prog w) A (subscripted slice false o i) (fun r s₃=>wpAny (model prog w) A (letTemporaryGo value o r >>= fun _=>pure r) Q E s₃) E s₂:=by
   rw[hs o i]
   exact wpAny_operating (wpAny_mono h₂ (fun r s₃ h₃=>wpAny_bind (wpAny_letTemporaryGo (wpAny_pure h₃))) fun _ _ x=>x)
 first
   | exact wpAny_pure (wpAny_bind fin)
   | exact wpAny_bind (wpAny_pure (wpAny_bind fin))
   | exact wpAny_bind fin
theorem nJ {X:Cx}{pins:List (Addr×Obj)}{σ:St}{H:Hp}{s:Shared}{a:Addr}{y:V}{o:Option V}(I:Inv X pins σ H s)(g:dt H a y o):s.TypeIs (.ref a) "dict":=by
 rcases g with⟨kvs,k,e,_,_⟩ | ⟨kvs,k,b,e,_,_,_⟩
 . obtain⟨_,_,vs,_,dd⟩:=gC I.aO e
   exact dd.typeIs
 . obtain⟨_,_,xs,_,dd⟩:=jQ I.aO e
   exact dd.typeIs
def Dq (td ty:TE):TE:=fun σ H Q=>td σ H fun x H1=>ty σ H1 fun y H2=>∃ a v,x=.ref a/\dt H2 a y (some v)/\Q v H2
def AZ (ty td:TE):TE:=fun σ H Q=>ty σ H fun y H1=>td σ H1 fun x H2=>∃ a o,x=.ref a/\dt H2 a y o/\Q (.bl o.isSome) H2
def ma (ty td:TE):TE:=fun σ H Q=>ty σ H fun y H1=>td σ H1 fun x H2=>∃ a o,x=.ref a/\dt H2 a y o/\Q (.bl (!o.isSome)) H2
def Dr (td ty tv:TE):TS:=fun D σ H=>tv σ H fun v H1=>td σ H1 fun x H2=>ty σ H2 fun y H3=>∃ a H4,x=.ref a/\kM H3 a y v H4/\D.nx σ H4
section
variable {X:Cx}{o i value:Expr}{pos pos':Pos}{td ty tv:TE}
theorem md (hu:X.A.units+1 < cLine)(ho:PE X o td)(hi:PE X i ty)(hs:uy i):PE X (.Subscript o i pos) (Dq td ty):=by
 intro pins s σ H Q I h
 refine x6 PySem.F.slot_dict_getitem.lookup hs (aT (ho pins s σ H _ I h) fun u s1 ⟨x,H1,I1,rx,q1⟩=>aT (hi pins s1 σ H1 _ I1 q1) fun iv s2 ⟨y,H2,I2,ry,a,v,ex,g,q2⟩=>?_)
 subst ex
 obtain rfl:u=Value.ref a:=rx
 exact⟨nJ I2 g,rX hu I2 g ry fun w' s3 I3 uv=>⟨v,H2,I3,uv,q2⟩⟩
theorem uz (hu:X.A.units+1 < cLine)(hi:PE X i ty)(ho:PE X o td):PC X .In i o (AZ ty td):=by
 intro pins s σ H Q I h
 refine aT (hi pins s σ H _ I h) fun iv s1 ⟨y,H1,I1,ry,q1⟩=>aT (ho pins s1 σ H1 _ I1 q1) fun u s2 ⟨x,H2,I2,rx,a,ov,ex,g,q2⟩=>?_
 subst ex
 obtain rfl:u=Value.ref a:=rx
 exact Gj hu I2 g ry fun s3 I3=>⟨.bl ov.isSome,H2,I3,rfl,q2⟩
theorem rZ (hu:X.A.units+1 < cLine)(hi:PE X i ty)(ho:PE X o td):PC X .NotIn i o (ma ty td):=by
 intro pins s σ H Q I h
 refine aT (hi pins s σ H _ I h) fun iv s1 ⟨y,H1,I1,ry,q1⟩=>aT (ho pins s1 σ H1 _ I1 q1) fun u s2 ⟨x,H2,I2,rx,a,ov,ex,g,q2⟩=>?_
 subst ex
 obtain rfl:u=Value.ref a:=rx
 exact x5 hu I2 g ry fun s3 I3=>⟨.bl (!ov.isSome),H2,I3,rfl,q2⟩
theorem jh (hu:X.A.units+1 < cLine)(ho:PE X o td)(hi:PE X i ty)(hv:PE X value tv)(hs:swapsWith value (some (.Subscript o i pos')) pos.line X.env=pure false):PS X (.Assign [.Subscript o i pos'] value pos) (Dr td ty tv):=by
 intro pins s σ H D I h
 refine wpAny_Assign_Subscript (aT (hv pins s σ H _ I h) fun r s1 ⟨v,H1,I1,rv,q1⟩=>aT (ho pins s1 σ H1 _ I1 q1) fun u s2 ⟨x,H2,I2,rx,q2⟩=>aT (hi pins s2 σ H2 _ I2 q2) fun iv s3 ⟨y,H3,I3,ry,a,H4,ex,g,q3⟩=>?_) hs
 subst ex
 obtain rfl:u=Value.ref a:=rx
 exact rY hu I3 g ry rv fun s4 I4=>⟨σ,H4,I4,q3⟩
end
theorem nK {P:Program}{w:World}{H:Hp}(h:Heap)(hb:sysModules < h.objs.size):aM P w H (h.push { cls:=.type "dict",data:=.dict #[]}) h.objs.size (.dK []):=
 ⟨LD _,beq_eq_false_iff_ne.mpr (Ne.symm (Lq hb)),[],.nil,Heap.DictOf.new h⟩
theorem uA {P:Program}{w:World}{H:Hp}(h:Heap)(hb:sysModules < h.objs.size):aM P w H (h.push { cls:=.type "dict",data:=.dict #[]}) h.objs.size (.dT []):=
 ⟨LD _,beq_eq_false_iff_ne.mpr (Ne.symm (Lq hb)),[],.nil,_,#[],0,K3 _ rfl,⟨rfl,rfl,rfl⟩,rfl,rfl,List.nodup_nil⟩
def A0:TE:=fun _ H Q=>∀ p,H p=none->Q (.ref p) (upd H p (.dK []))
def A1:TE:=fun _ H Q=>∀ p,H p=none->Q (.ref p) (upd H p (.dT []))
section
variable {X:Cx}{pos:Pos}
theorem nL:PE X (.Dict [] [] pos) A0:=fun pins s σ H Q I h=>
 wpAny_Dict_empty ⟨.ref s.heap.objs.size,_,I.laid (a:=s.heap.objs.size) (o:=.dK []) (t':=s.toks) (fun _ _ q=>k0 _ q) (G1 _) (nK s.heap I.big),rfl,h _ (I.aO.fresh (G1 _))⟩
theorem uB:PE X (.Dict [] [] pos) A1:=fun pins s σ H Q I h=>
 wpAny_Dict_empty ⟨.ref s.heap.objs.size,_,I.laid (a:=s.heap.objs.size) (o:=.dT []) (t':=s.toks) (fun _ _ q=>k0 _ q) (G1 _) (uA s.heap I.big),rfl,h _ (I.aO.fresh (G1 _))⟩
end
def pb:List (TE×TE)->St->Hp->(List (V×V)->Hp->Prop)->Prop
 | [],_,H,Q=>Q [] H
 | (tk,tv)::r,σ,H,Q=>tk σ H fun x H1=>tv σ H1 fun y H2=>pb r σ H2 fun ps H3=>Q ((x,y)::ps) H3
abbrev VV:List (V×V)->List (Value×Value)->Prop:=Paired fun p q=>RelV p.1 q.1/\RelV p.2 q.2
def EX (X:Cx)(pos:Pos)(keys:List (Option Expr))(values:List Expr)(x8:List (TE×TE)):Prop:=
 ∀ (pins:List (Addr×Obj)) (s:Shared) (σ:St) (H:Hp) (Q:List (V×V)->Hp->Prop),Inv X pins σ H s->pb x8 σ H Q ->
   wpAny (model X.prog X.w) X.A (evalPairs (pairTrees keys values X.env pos)) (fun vs s'=>∃ ps H',Inv X pins σ H' s'/\VV ps vs/\Q ps H') X.xe s
theorem x9 {X:Cx}{pos:Pos}:EX X pos [] [] []:=fun pins s σ H Q I h=>pairTrees_nil_walk ⟨[],H,I,.nil,h⟩
theorem uC {X:Cx}{pos:Pos}{k v:Expr}{ks:List (Option Expr)}{vs:List Expr}{tk tv:TE}{x8:List (TE×TE)}(hk:PE X k tk)(hv:PE X v tv)(hr:EX X pos ks vs x8):EX X pos (some k::ks) (v::vs) ((tk,tv)::x8):=fun pins s σ H Q I h=>
 pairTrees_cons_walk (aT (hk pins s σ H _ I h) fun u s1 ⟨x,H1,I1,rx,q1⟩=>aT (hv pins s1 σ H1 _ I1 q1) fun w2 s2 ⟨y,H2,I2,ry,q2⟩=>
   aT (hr pins s2 σ H2 _ I2 q2) fun ws s3 ⟨ps,H3,I3,rel,q3⟩=>⟨(x,y)::ps,H3,I3,.cons ⟨rx,ry⟩ rel,q3⟩)
noncomputable def jR (kvs more:List (Key×V)):List (Key×V):=more.foldl (fun acc kv=>putK acc kv.1 kv.2) kvs
theorem KV.merge:∀ {more:List (Key×V)} {rs:List (Key×Value)} {kvs:List (Key×V)} {vs:List (Key×Value)},KV more rs->KV kvs vs->KV (jR kvs more) (merged vs rs):=by
 intro more rs kvs vs r
 unfold KV at r
 induction r generalizing kvs vs with
 | nil=>intro q;exact q
 | @cons p q ps qs h t ih=>
   intro r0
   have e:KV (putK kvs p.1 p.2) (stored vs q.1 q.2):=by
     have:=r0.put p.1 h.2
     rw[<- h.1];exact this
   exact ih e
theorem fT:∀ (more kvs:List (Key×V)),(jR kvs more).length<=kvs.length+more.length
 | [],kvs=>by show kvs.length<=kvs.length+0;omega
 | p::r,kvs=>by
   have h1:=fT r (putK kvs p.1 p.2)
   have h2:=eU kvs p.1 p.2
   show(jR (putK kvs p.1 p.2) r).length<=_
   rw[Lr];omega
theorem jS {P:Program}{w:World}:∀ {kvs:List (Key×V)} {ws:List (Value×Value)},VV (kvs.map fun kv=>(kV kv.1,kv.2)) ws->∃ rs,Carries (aX P w) ws rs/\KV kvs rs
 | [],_,r=>by rw[List.map_nil] at r;cases r;exact⟨[],True.intro,.nil⟩
 | p::kvs,_,r=>by
   rw[Lv] at r
   cases r with
   | @cons a b as bs h t=>
     obtain⟨rs,c,q⟩:=jS (P:=P) (w:=w) t
     obtain⟨b1,b2⟩:=b
     exact⟨(p.1,b2)::rs,⟨jP h.1,rfl,c⟩,.cons ⟨rfl,h.2⟩ q⟩
def Ds (x8:List (TE×TE)):TE:=fun σ H Q=>∀ p,H p=none->pb x8 σ (upd H p (.dK [])) fun ps H2=>H2 p=some (.dK [])/\∃ kvs:List (Key×V),ps=kvs.map (fun kv=>(kV kv.1,kv.2))/\kvs.length<=15/\Q (.ref p) (upd H2 p (.dK (jR [] kvs)))
theorem ya {X:Cx}{pos:Pos}{keys:List (Option Expr)}{values:List Expr}{x8:List (TE×TE)}(h:EX X pos keys values x8)(A2:keys.all (·.isSome)=true)(hl:keys.length=values.length)(h0:keys≠[])(Je:keys.length<=15):PE X (.Dict keys values pos) (Ds x8):=by
 intro pins s σ H Q I q
 have hn:=I.aO.fresh (G1 s.heap.objs.size)
 have I1:=I.laid (a:=s.heap.objs.size) (o:=.dK []) (h':=s.heap.push { cls:=.type "dict",data:=.dict #[]}) (t':=s.toks) (fun _ _ q=>k0 _ q) (G1 _) (nK s.heap I.big)
 refine wpAny_Dict_walk (knd:=aX X.prog X.w) A2 hl h0 Je (aT (h pins _ σ _ _ I1 (q _ hn)) fun ws s2 ⟨ps,H2,I2,rel,e,kvs,ep,lk,q2⟩=>?_)
 subst ep
 obtain⟨rs,c,rk⟩:=jS (P:=X.prog) (w:=X.w) rel
 obtain⟨z,hd,KQ,r0,dd⟩:=zX I2.aO e
 cases r0
 refine⟨rs,c,dd,fun h' AY hs=>⟨.ref s.heap.objs.size,_,?_,rfl,q2⟩⟩
 have hz:(jR [] kvs).length<=sizeLine:=by
   have h1:=fT kvs []
   rw[List.length_nil] at h1
   rw[sizeLine_eq];omega
 have he:∃ q,h'.get? s.heap.objs.size=some q:=let ⟨q,_,_,hq,_⟩:=AY;⟨q,hq⟩
 exact gD I2 (by rw[e];exact True.intro) hs he (ux hz hd (rk.merge .nil) AY)
structure M1 (X:Cx)(o:Expr)(m:Str)(apos:Pos)(e:Expr)(bo:Pos):Prop where
 base:attributeBase o m X.env (eval o X.env)=eval o X.env
 HL:((backTo bo (starEach [e] X.env)).all (fun x=>!x.1) && (backToKw bo (keywordEach [] X.env)).all (fun x=>x.1.isSome)
   && decide (([e]:List Expr).length+([]:List Keyword).length+(if ([]:List Keyword).isEmpty then 0 else 1) < 30))=true
 line:(apos.endLine == bo.line)=true
 trees:backTo bo (starEach [e] X.env)=[(false,eval e X.env)]
structure M2 (X:Cx)(o:Expr)(m:Str)(apos:Pos)(e f:Expr)(bo:Pos):Prop where
 base:attributeBase o m X.env (eval o X.env)=eval o X.env
 HL:((backTo bo (starEach [e,f] X.env)).all (fun x=>!x.1) && (backToKw bo (keywordEach [] X.env)).all (fun x=>x.1.isSome)
   && decide (([e,f]:List Expr).length+([]:List Keyword).length+(if ([]:List Keyword).isEmpty then 0 else 1) < 30))=true
 line:(apos.endLine == bo.line)=true
 trees:backTo bo (starEach [e,f] X.env)=[(false,eval e X.env),(false,eval f X.env)]
def HM (H:Hp)(a:Addr):Prop:=(∃ kvs,Rd H a (.dK kvs))\/∃ kvs,Rd H a (.dT kvs)
theorem A3 {X:Cx}{pins:List (Addr×Obj)}{σ:St}{H:Hp}{s:Shared}{a:Addr}(I:Inv X pins σ H s)(d:HM H a):s.TypeIs (.ref a) "dict"/\(∀ b,Value.ref a=.ref b->∃ ob,s.heap.get? b=some ob/\ob.dict=none)/\(a == sysModules)=false:=by
 rcases d with⟨kvs,e⟩ | ⟨kvs,e⟩
 . obtain⟨_,hd,vs,_,dd⟩:=gC I.aO e
   refine⟨dd.typeIs,fun b q=>?_,hd⟩
   cases q
   obtain⟨ob,_,_,h1,h2,_⟩:=dd
   exact⟨ob,h1,h2.2.1⟩
 . obtain⟨_,hd,xs,_,dd⟩:=jQ I.aO e
   refine⟨dd.typeIs,fun b q=>?_,hd⟩
   cases q
   obtain⟨ob,_,_,h1,h2,_⟩:=dd
   exact⟨ob,h1,h2.2.1⟩
section
variable {X:Cx}{pins:List (Addr×Obj)}{σ:St}{H:Hp}{s:Shared}{a:Addr}{y d:V}{u r:Value}{o:Option V}{A:Around}{E:Value->Shared->Prop}
theorem A4 {Q:Value->Shared->Prop}(hu:A.units+1 < cLine)(I:Inv X pins σ H s)(g:dt H a y o)(ry:RelV y u)(rd:RelV d r)(h:∀ w' s',Inv X pins σ H s'->RelV (o.getD d) w'->Q w' s'):wpAny (model X.prog X.w) A (call (.builtin "dict.get") [.ref a,u,r]) Q E s:=by
 rcases g with⟨kvs,k,e,ey,l⟩ | ⟨kvs,k,b,e,ey,eb,l⟩
 . subst ey
   obtain⟨z,hd,vs,rel,dd⟩:=gC I.aO e
   refine call_meetsIn PySem.F.slot_dict_get dd.typeIs PySem.F.entry_dict_get (PySem.F.args_dict_get_3 _ _ _) (meets_dict_get_default (aX X.prog X.w) a (jP ry) hd r) ⟨_,dd.mapOf,h _ _ (I.tok _) ?_⟩
   rw[l]
   exact(rel.val k).getD rd
 . subst ey
   cases (show u=Value.ref b from ry)
   obtain⟨z,hd,xs,rel,dd⟩:=jQ I.aO e
   refine call_meetsIn PySem.F.slot_dict_get dd.typeIs PySem.F.entry_dict_get (PySem.F.args_dict_get_3 _ _ _) (meetsH_dict_get_default (tupleKind (aX X.prog X.w)) a b hd r) ⟨tupleKind_room_in1 hu,k,xs,h9 I.aO eb,dd,h _ _ (I.tok _) ?_⟩
   rw[l]
   exact(rel.val k).getD rd
end
def A5 (td ty tx:TE):TE:=fun σ H Q=>td σ H fun x H1=>∃ a,x=.ref a/\HM H1 a/\ty σ H1 fun y H2=>tx σ H2 fun z H3=>∃ o,dt H3 a y o/\Q (o.getD z) H3
section
variable {X:Cx}{o e f:Expr}{apos bo:Pos}{td ty tx:TE}
theorem uD (hu:X.A.units+1 < cLine)(ho:PE X o td)(he:PE X e ty)(hf:PE X f tx)(m:M2 X o "get" apos e f bo):PE X (.Call (.Attribute o "get" apos) [e,f] [] bo) (A5 td ty tx):=by
 intro pins s σ H Q I h
 refine wpAny_Call_method m.base m.HL m.line PySem.F.plainAttrs_dict PySem.F.slot_dict_get PySem.F.type_dict_get (aT (ho pins s σ H _ I h) fun u s1 ⟨x,H1,I1,rx,a,ex,d,q1⟩=>?_)
 subst ex
 obtain rfl:u=Value.ref a:=rx
 obtain⟨t1,t2,_⟩:=A3 I1 d
 refine⟨t1,t2,?_⟩
 rw[m.trees]
 refine Calls.callWith_builtin rfl (Calls.evalArgs_plain (Calls.spliced_cons (aT (he pins s1 σ H1 _ I1 q1) fun iv s2 ⟨y,H2,I2,ry,q2⟩=>
   Calls.spliced_cons (aT (hf pins s2 σ H2 _ I2 q2) fun fv s3 ⟨z,H3,I3,rz,ov,g,q3⟩=>Calls.spliced_nil ?_))))
 exact A4 hu I3 g ry rz fun w' s4 I4 uv=>⟨_,H3,I4,uv,q3⟩
end
end L2
namespace Att
open PySem PySem.W PySem.Calls PyProof.Rows
theorem iW {P:Params}{h:Heap}:∀ (ns:List Int) (vs:List Value),WellAll P h vs (ns.map WData.int)->IntsAre vs ns:=by
 intro ns
 induction ns with
 | nil=>
   intro vs w
   rw[List.map_nil] at w
   cases w
   exact .nil
 | cons n ns ih=>
   intro vs w
   rw[Lv] at w
   cases w with
   | cons a b=>
     cases a
     exact .cons _ _ (ih _ b)
theorem r6 {l:OpenLaw}{n:Nat}(hn:l.most=some n){P:Params}{h:Heap}{args:List WData}{vals:List Value}(iX:l.row.toRowW.claim.pre args=true)(yb:WellAll P h vals args):∃ a vs ns,vals=[Value.ref a]/\args=[WData.list (ns.map WData.int)]/\h.get? a=some { cls:=.type "list",data:=.seq vs.toArray}/\IntsAre vs ns/\ns.length<=n:=by
 have Du:WShape.hasAll [] args [.list .int]=true:=(pre_splitW iX).1
 have hc:l.pre.holds [] { args:=args}=true:=(pre_splitW iX).2
 obtain⟨d,r,rfl,h1,h2⟩:=hasAllW_cons Du
 obtain rfl:=hasAllW_nil h2
 obtain⟨xs,rfl,h3⟩:=hasW_list h1
 obtain⟨ns,rfl⟩:=items_int h3
 have hlen:ns.length<=n:=by
   unfold OpenLaw.pre at hc
   have h4:(WTm.not (.lt (.lit (.int (n:Int))) (.len (.arg 0)))).holds [] { args:=[.list (ns.map .int)]}=true:=by
     have h4:=(holds_andW hc).1
     rw[hn] at h4
     exact h4
   have h5:=condW_of h4 (w_not (w_lt w_lit (w_len_list (w_arg rfl))))
   rw[Bn] at h5
   refine MC fun q=>?_
   have q':(n:Int) < ((ns.length:Nat):Int):=by omega
   first
     | (rw[decide_eq_true q'] at h5;exact absurd h5 (by decide))
     | (simp at h5;omega)
 cases yb with
 | cons w1 w2=>
   cases w2
   cases w1 with
   | list ho A2=>exact⟨_,_,ns,rfl,rfl,ho,iW ns _ A2,hlen⟩
theorem r8 (l:OpenLaw)(args:List WData):l.row.toRowW.claim.post args (.bool true) args=true:=
 postW_of (r:=l.row.toRowW) (X:=(true == true))
   (show WShape.has [] (.bool true) .bool=true by first | rfl | decide | simp[WShape.has,WShape.arms,WShape.armsAll])
   (show(WTm.eq .res (.lit (.bool true))).value [] { args:=args,res:=some (.bool true),after:=args}=some (.bool (true == true)) from w_eq_bool (w_res rfl) w_lit) rfl
theorem nM {l:OpenLaw}{n:Nat}{q:Program}{loose:List Str}{XP:(Str->Option Value)->Heap->Prop}{YP:World->Heap->Prop}{d:DefRec}(hn:l.most=some n)(Dv:d.params.defaults=[])(call:∀ (w:World) (s₀ s₁:Shared) (mg mb:Str->Option Value) (fa:Addr) (o:Obj) (pm cd doc:Value) (a:Addr) (vs:List Value) (ns:List Int),Ground q loose [] XP w s₀ mg mb s₁.heap->YP w s₁.heap->s₁.heap.get? fa=some o->o.data=.func (docDef d.name d.params d.body d.scope pm cd doc)->s₁.heap.CodeRec cd d.name->mg d.name=some (.ref fa)->s₁.heap.get? a=some { cls:=.type "list",data:=.seq vs.toArray}->IntsAre vs ns->ns.length<=n->s₁.gens=#[]->codeAny (model l.prog w) callerA (.call (.ref fa) ⟨[.ref a],[]⟩) (fun r s'=>r=.ok (.ret (.bool true))/\OldK s₁.heap s'.heap/\s'.os=s₁.os/\AllBare s'.gens) s₁):WalkO q loose XP YP l.row.toRowW d [] (fun f vs=>PySem.call f vs):=by
 intro w s₀ s₁ mg mb G Y fa o pm cd doc dV kV ho hd eE hD Dw hg args vals as iX Jf KR yb KS
 obtain rfl:dV=.none:=Dflts.none hD Dv
 obtain rfl:kV=.none:=Dflts.noKw hD
 obtain⟨a,vs,ns,rfl,rfl,A6,hints,hlen⟩:=r6 hn iX yb
 refine enter_call (codeAny_mono (call w s₀ s₁ mg mb fa o pm cd doc a vs ns G Y ho (fd_plain hd) eE Dw A6 hints hlen hg) fun r s' hq=>?_)
 obtain⟨rfl,h2,h3,h4⟩:=hq
 exact⟨.inl ⟨.bool true,.bool true,[],rfl,fun _=>rfl,.bool true,r8 l _,fun _=>⟨List.Pairwise.nil,fun _ hm=>(nomatch hm)⟩⟩,h2,h3,h4⟩
end Att
namespace L2
open PySem PySem.Spec PyProof.Rows
theorem fh:∀ {vs:List Value} {ns:List Int},IntsAre vs ns->Vals (ns.map V.int) vs
 | _,_,.nil=>.nil
 | _,_,.cons n t h=>.cons ⟨t,rfl⟩ (fh h)
def yc (H:Hp):Prop:=∀ b,H b=none\/∃ o xs,H b=some (.a7 o (.lst xs))
theorem uE {P:Program}{w:World}{K:W.Frag}{mg mb:Str->Option Value}{CX:hX}{k:Nat}{fa a:Addr}{fd:FuncData}{x:Str}{sp:Sp}{s₁:Shared}{vs:List Value}{ns:List Int}(KX:K.In s₁.heap)(xE:s₁.heap.Ns mainGlobals mg)(hb:s₁.heap.Ns builtinsNs mb)(Jg:∀ x:Str,x≠"__name__"->mb x=bootBuiltins x)(Gk:s₁.heap.NoLimit)(hg:s₁.gens=#[])(ha:s₁.heap.get? a=some { cls:=.type "list",data:=.seq vs.toArray})(hi:IntsAre vs ns)(hl:ns.length<=sizeLine)(hr:bI k callerA)(F:∀ base:Heap,K.In base->base.Ns mainGlobals mg->df P w K mg base CX k fa fd [x] sp)(Dx:∀ (s:Shared) (u:Value),BindsTo s fd ⟨[u],[]⟩ [(x,u)])(zT:∀ H:Hp,yc H->eF K H a (ns.map V.int)->sp [.ref a] H (fun v _=>v=.bl true) fun _ _ _=>False)(Dy:∀ H e s',CX [] H s₁ (fun _ _ _=>False) e s'->False):codeAny (model P w) callerA (.call (.ref fa) ⟨[.ref a],[]⟩) (fun r s'=>r=.ok (.ret (.bool true))/\OldK s₁.heap s'.heap/\s'.os=s₁.os/\AllBare s'.gens) s₁:=by
 have rv:=fh hi
 have Gm:=hi.length
 have core:∀ H:Hp,yc H->eF K H a (ns.map V.int)->gj P w H s₁.heap->(∀ b,H b≠none->b=a)->(H a≠none->K.lookup a=none) ->
     codeAny (model P w) callerA (.call (.ref fa) ⟨[.ref a],[]⟩) (fun r s'=>r=.ok (.ret (.bool true))/\OldK s₁.heap s'.heap/\s'.os=s₁.os/\AllBare s'.gens) s₁:=by
   intro H hO hS aO hA hK
   have qp:∀ {b:Addr} {o:Obj},s₁.heap.get? b=some o->H b=none->(lU s₁.heap H).get? b=some o:=fun e n=>tQ e n
   have Dk:∀ {b:Addr} {o:Obj} {es:Array DictEntry} {ep:Nat},s₁.heap.get? b=some o->o.data=.dict es ep->H b=none:=fun {b o es ep} e d=>by
     cases q:H b with
     | none=>rfl
     | some u=>
       have e':b=a:=hA b (by rw[q];simp)
       subst e'
       rw[ha] at e;cases e
       have d':Data.seq vs.toArray _=Data.dict es ep:=d
       cases d'
   have EY:∀ {b:Addr} {m:Str->Option Value},s₁.heap.Ns b m->(lU s₁.heap H).Ns b m:=fun {b m} ⟨o,es,ep,e,d,r⟩=>⟨o,es,ep,qp e (Dk e d),d,r⟩
   have HN:K.In (lU s₁.heap H):=fun b o e=>qp (KX b o e) (by
     cases q:H b with
     | none=>rfl
     | some u=>
       have e':b=a:=hA b (by rw[q];simp)
       subst e'
       rw[hK (by rw[q];simp)] at e;cases e)
   have hM:Mod K mg (lU s₁.heap H):=⟨HN,EY xE,⟨mb,EY hb,Jg⟩,let ⟨mc,h1,h2⟩:=Gk;⟨mc,EY h1,h2⟩⟩
   have e0:nD P w K mg (lU s₁.heap H) callerA [] s₁ H:=⟨rfl,hM,fun b o e=>xI e,Nat.le_of_eq (rG _ _),trivial,fun b hb=>absurd (show b∈([]:List Addr) from hb) (by simp),aO,.of_eq hg⟩
   refine codeAny_mono ((F _ HN (EY xE)).run callerA [] s₁ H ⟨[.ref a],[]⟩ [.ref a] [.ref a] _ _ hr e0 (Dx s₁ (.ref a)) (.cons rfl .nil) (zT H hO hS)) fun r s' h=>?_
   cases r with
   | error e=>exact(Dy H e s' h).elim
   | ok fl=>
     cases fl with
     | next=>exact False.elim h
     | brk=>exact False.elim h
     | cont=>exact False.elim h
     | ret u=>
       obtain⟨v,H',os,bare,un,Gn,r',q⟩:=h
       have q':v=.bl true:=q
       subst q'
       obtain rfl:u=Value.bool true:=r'
       refine⟨rfl,OldK.of_keep fun b o e=>?_,os,bare⟩
       cases q:H b with
       | none=>exact un.keep b o e q (by intro z;exact absurd (show b∈([]:List Addr) from z) (by simp)) (by simp)
       | some u=>
         rcases hO b with z | ⟨ob,xs,z⟩
         . rw[q] at z;cases z
         . have z2:=un.lT b ob _ z
           obtain⟨e1,_⟩:=aO b _ z
           obtain⟨e2,_⟩:=Gn b _ z2
           rw[e] at e1;cases e1
           exact e2
 cases hk:K.lookup a with
 | some o=>
   have e:=KX a o hk
   rw[ha] at e
   cases e
   refine core (fun _=>none) (fun _=>.inl rfl) (.inr ⟨_,vs.toArray,_,hk,rfl,rfl,rfl,by rw[LF,Gm];exact hl,by simpa using rv⟩) (fun b u z=>by have z':(none:Option HO)=some u:=z;cases z') (fun b z=>absurd rfl z) fun z=>absurd rfl z
 | none=>
   refine core (fun b=>if b=a then some (.a7 { cls:=.type "list",data:=.seq vs.toArray} (.lst (ns.map V.int))) else none) (fun b=>?_) (.inl (.inr (.inl ⟨{ cls:=.type "list",data:=.seq vs.toArray},if_pos rfl⟩))) (fun b u z=>?_) (fun b z=>?_) fun _=>hk
   . by_cases hb:b=a
     . exact .inr ⟨_,_,if_pos hb⟩
     . exact .inl (if_neg hb)
   . by_cases hb:b=a
     . have z':=(if_pos hb).symm.trans z
       cases z'
       subst hb
       exact⟨ha,by rw[Bn];exact hl,vs,_,rv,ha⟩
     . have z':=(if_neg hb).symm.trans z
       cases z'
   . by_cases hb:b=a
     . exact hb
     . exact absurd (if_neg hb) z
noncomputable abbrev HP {K:W.Frag}{h:Heap}(_:K.In h):W.Frag:=K
theorem yd {l:W.OpenLaw}{n k:Nat}{q:Program}{loose:List Str}{XP:(Str->Option Value)->Heap->Prop}{YP:World->Heap->Prop}{d:DefRec}{K:Params->W.Frag}{CX:World->hX}{sp:World->Sp}{x:Str}(hn:l.most=some n)(CD:n<=sizeLine)(Dv:d.params.defaults=[])(hr:bI k callerA)(hY:∀ (w:World) (h:Heap),YP w h->(K w.params).In h)(F:∀ (w:World) (mg:Str->Option Value) (fa:Addr) (h:Heap),(K w.params).In h->h.Ns mainGlobals mg->mg d.name=some (.ref fa)->∃ fd:FuncData,(∀ (s:Shared) (u:Value),BindsTo s fd ⟨[u],[]⟩ [(x,u)])/\∀ base:Heap,(K w.params).In base->base.Ns mainGlobals mg->df l.prog w (K w.params) mg base (CX w) k fa fd [x] (sp w))(zT:∀ (w:World) (H:Hp) (a:Addr) (ns:List Int),ns.length<=n->yc H->eF (K w.params) H a (ns.map V.int)->sp w [.ref a] H (fun v _=>v=.bl true) fun _ _ _=>False)(Dy:∀ (w:World) (H:Hp) (s:Shared) (e:Value) (s':Shared),CX w [] H s (fun _ _ _=>False) e s'->False):W.WalkO q loose XP YP l.row.toRowW d [] (fun f vs=>PySem.call f vs):=by
 refine Att.nM hn Dv fun w s₀ s₁ mg mb fa o pm cd doc a vs ns G Y ho hd eE Dw A6 hints hlen hg=>?_
 have KX:=hY w _ Y
 obtain⟨fd,hb,hF⟩:=F w mg fa _ KX G.T.g Dw
 exact uE KX G.T.g G.T.b G.T.builtins G.T.nolimit hg A6 hints (LA hlen CD) hr hF hb (fun H hO hS=>zT w H a ns hlen hO hS) fun H e s'=>Dy w H s₁ e s'
theorem uF {l:W.OpenLaw}{n k:Nat}{q:Program}{loose:List Str}{XP:(Str->Option Value)->Heap->Prop}{YP:World->Heap->Prop}{d:DefRec}{K:Params->W.Frag}{CX:hX}{sp:W.Frag->Sp}{x:Str}(hn:l.most=some n)(CD:n<=sizeLine)(Dv:d.params.defaults=[])(hr:bI k callerA)(hY:∀ (w:World) (h:Heap),YP w h->(K w.params).In h)(F:∀ (w:World) (mg:Str->Option Value) (fa:Addr) (h:Heap),(K w.params).In h->h.Ns mainGlobals mg->mg d.name=some (.ref fa)->∃ fd:FuncData,(∀ (s:Shared) (u:Value),BindsTo s fd ⟨[u],[]⟩ [(x,u)])/\∀ base:Heap,(K w.params).In base->base.Ns mainGlobals mg->df l.prog w (K w.params) mg base CX k fa fd [x] (sp (K w.params)))(zT:∀ (K:W.Frag) (H:Hp) (a:Addr) (ns:List Int),ns.length<=n->yc H->eF K H a (ns.map V.int)->sp K [.ref a] H (fun v _=>v=.bl true) fun _ _ _=>False)(Dy:∀ (H:Hp) (s:Shared) (e:Value) (s':Shared),CX [] H s (fun _ _ _=>False) e s'->False):W.WalkO q loose XP YP l.row.toRowW d [] (fun f vs=>PySem.call f vs):=
 yd (K:=K) (CX:=fun _=>CX) (sp:=fun w=>sp (K w.params)) hn CD Dv hr hY F (fun w H a ns h1 h2 h3=>zT (K w.params) H a ns h1 h2 h3) fun _ H s e s'=>Dy H s e s'
noncomputable def inClass (s:Stmt)(j:Nat):Stmt:=match s with
 | .ClassDef _ _ _ body _ _ _ _ _ _ _=>body.getD j (.Pass ⟨0,0,0,0⟩)
 | _=>.Pass ⟨0,0,0,0⟩
noncomputable def bp (s:Stmt):Arguments:=match s with
 | .FunctionDef _ a _ _ _ _ _ _ _ _=>a
 | _=>{ posonlyargs:=[],args:=[],vararg:=none,kwonlyargs:=[],kw_defaults:=[],kwarg:=none,defaults:=[]}
noncomputable def aD (s:Stmt):List Stmt:=match s with
 | .FunctionDef _ _ b _ _ _ _ _ _ _=>b
 | _=>[]
noncomputable def ag (s:Stmt):Scope:=match s with
 | .FunctionDef _ _ _ _ _ _ sc _ _ _=>sc
 | _=>{ kind:=.function,names:=[],isGenerator:=false,isCoroutine:=false}
abbrev HQ:hX:=fun _ _ _ _ _ _=>False
abbrev E0:XK:=fun _ _ _=>False
structure CF (K:W.Frag)(x qual:Str)(st:Stmt)(f:Addr)(fd:FuncData):Prop where
 ex:∃ (oc:Value) (od:Option Addr) (kV doc pm:Value) (an:Option Addr) (bj ct:Value) (k7:Array (Option Value)),
   fd=W.fnOf x qual (bp st) (aD st) (ag st) .none kV doc pm an bj ct/\K.lookup f=some ⟨oc,od,.func fd,k7⟩/\W.codeIn K bj qual=true
 kp:W.keepIn K (.ref f)=true
section
variable {K:W.Frag}
theorem CF.binds {x qual:Str}{st:Stmt}{f:Addr}{fd:FuncData}{ps:List Str}(F:CF K x qual st f fd)(h:∀ (kV doc pm:Value) (an:Option Addr) (bj ct:Value) (us:List Value),us.length=ps.length->bindArgs (W.fnOf x qual (bp st) (aD st) (ag st) .none kV doc pm an bj ct) ⟨us,[]⟩=pure (ps.zip us)):Binds K fd ps []:=by
 obtain⟨oc,od,kV,doc,pm,an,bj,ct,k7,rfl,lk,eE⟩:=F.ex
 exact .all (h kV doc pm an bj ct)
theorem jT {x qual:Str}{st:Stmt}{f:Addr}{oc:Value}{od an:Option Addr}{k7:Array (Option Value)}{kV doc pm bj ct:Value}(l:K.lookup f=some ⟨oc,od,.func (W.fnOf x qual (bp st) (aD st) (ag st) .none kV doc pm an bj ct),k7⟩)(c:W.codeIn K bj qual=true)(k:W.keepIn K (.ref f)=true):CF K x qual st f (W.fnOf x qual (bp st) (aD st) (ag st) .none kV doc pm an bj ct):=⟨⟨oc,od,kV,doc,pm,an,bj,ct,k7,rfl,l,c⟩,k⟩
end
theorem pe {A B:Prop}(h:B):if false=true then A else B:=by
 rw[if_neg K8]
 exact h
theorem pf {A B:Prop}(h:A):if true=true then A else B:=by
 rw[if_pos rfl]
 exact h
def aw (H H':Hp):Prop:=∀ b o,H b=some o->H' b=some o
theorem aw.refl (H:Hp):aw H H:=fun _ _ h=>h
theorem aw.trans {H H1 H2:Hp}(a:aw H H1)(b:aw H1 H2):aw H H2:=fun c o h=>b c o (a c o h)
theorem aw.free {H H':Hp}(e:aw H H'){l:Addr}(h:H' l=Option.none):H l=Option.none:=by
 cases q:H l with
 | none=>rfl
 | some o=>
   rw[e l o q] at h
   cases h
theorem aw.seq {K:W.Frag}{H H':Hp}{a:Addr}{xs:List V}(e:aw H H')(h:eF K H a xs):eF K H' a xs:=by
 rcases h with(h | ⟨o,h⟩ | ⟨_,_,_,_,h⟩ | ⟨o,h⟩) | h
 . exact .inl (.inl (e _ _ h))
 . exact .inl (.inr (.inl ⟨o,e _ _ h⟩))
 . cases h
 . exact .inl (.inr (.inr (.inr ⟨o,e _ _ h⟩)))
 . exact .inr h
end L2
set_option maxHeartbeats 4000000
namespace Sg
open PySem PySem.Spec PyProof.Rows L2 PySem.Builtin PySem.Builtin.Getset_descriptor
def pj (h:Heap)(x D:Addr):Prop:=∃ ox,h.get? x=some ox/\ox.cls=.ref D
theorem pj.ty {M:Model}{h:Heap}{x D:Addr}(I:pj h x D):W.Looks M h (typeOf (.ref x)) (.ref D):=by
 obtain⟨ox,h1,h2⟩:=I
 rw[<- h2]
 exact(W.Looks.ld h1).andThen .now
theorem A7 {prog:Program}{w:World}{A:Around}{E:Value->Shared->Prop}{K:W.Frag}{s:Shared}{x D:Addr}{name:Str}{tk:Tok}{fill expr:Bool}{Q:Value->Shared->Prop}{r:Builtin.ObjectAttr.Found}(X:K.In s.heap)(I:pj s.heap x D)
   (Jh:W.findIn K (.ref D) "__getattribute__"=some (some (.builtin "BaseException.__getattribute__"))) (Ji:W.findIn K (.ref D) "__getattr__"=some none) (rF:W.mroIn K D (.type "BaseException")=some true)
   (hf:W.Looks (model prog w) s.heap (Builtin.ObjectAttr.find (.ref x) (.ref D) name) r)
   (h:match r with
     | .bind g a=>wpAny (model prog w) A.in1 (call g [a,.ref x,.ref D]) (fun v s'=>wpAny (model prog w) A (handedOut v) Q E s') (fun _ _=>False) s
     | .value v=>wpAny (model prog w) A (handedOut v) Q E s
     | .missing=>False) :
   wpAny (model prog w) A (getAttrBy (.ref x) (.str name tk) fill expr) Q E s:=by
 obtain⟨hh,gg,d,t,os⟩:=s
 have L0:=I.ty (M:=model prog w)
 have L1:=W.looks_findIn (M:=model prog w) X Jh
 have Jj:=W.looks_findIn (M:=model prog w) X Ji
 have L4:=W.looks_mroIn (M:=model prog w) X rF
 have f3:=PySem.F.excAttr_ValueError.ga.bind (.ref x)
 unfold getAttrBy
 refine wpAny_holding (wpAny_bind (L0.at (wpAny_bind (L1.at ?_))))
 have Jk:(Value.builtin "BaseException.__getattribute__" == Value.builtin "object.__getattribute__")=false:=by
   decide +kernel
 simp only[Jk,Bool.and_false,Ml,if_false]
 unfold getAttrByItsOwn hookBefore
 refine wpAny_bind (Jj.at ?_)
 refine wpAny_bind (wpAny_attempt (wpAny_holding ?_))
 unfold callGetattribute boundAndCalled
 have Jl:(expr && onTheHeap (Value.builtin "BaseException.__getattribute__"))=false:=by
   cases expr <;> rfl
 rw[Jl,f3]
 simp only[Ml,if_false]
 refine wpAny_bind (wpAny_pure ?_)
 have Jm:W.Looks (model prog w) hh (isInstance (.ref x) (.type "BaseException")) true:=L0.andThen L4
 refine wpAny_call (codeAny_call_builtin PySem.F.excAttr_ValueError.ga.plain PySem.F.entry_bexc_ga (@W.check_slot (model prog w) _ _ _ "BaseException.__getattribute__" "BaseException" "__getattribute__" (.ref x) [.str name tk] [] _ (by decide +kernel) (by decide +kernel) Jm (PySem.F.args_bexc_ga _ _) ?_))
 unfold Builtin.«object.__getattribute__»
 refine wpAny_bind (wpAny_pure ?_)
 show wpAny (model prog w) A.in1 (Builtin.ObjectAttr.attrName (.str name tk) >>= _) _ _ _
 unfold Builtin.ObjectAttr.attrName
 refine wpAny_bind (wpAny_pure (wpAny_bind (L0.at (wpAny_bind (hf.at ?_)))))
 cases r with
 | bind g a=>
   show wpAny (model prog w) A.in1 (Builtin.ObjectAttr.bindTo g a (.ref x) (.ref D)) _ _ _
   unfold Builtin.ObjectAttr.bindTo
   show wpAny (model prog w) A.in1 (holding [a] (call g [a,.ref x,.ref D]) >>= ret) _ _ _
   exact wpAny_bind (wpAny_holding (wpAny_mono h (fun v s' z=>wpAny_pure z) fun _ _ z=>z.elim))
 | value v=>
   show wpAny (model prog w) A.in1 (ret v) _ _ _
   exact wpAny_pure h
 | missing=>exact h.elim
theorem ye {prog:Program}{w:World}{A:Around}{K:W.Frag}{s:Shared}{x D:Addr}{tp:Value}{R:Result->Shared->Prop}(X:K.In s.heap)(I:pj s.heap x D)(hm:W.mroIn K D (.type "object")=some true)(hR:R (.ok (.ret (.ref D))) s):codeAny (model prog w) A (.call (.builtin "getset_descriptor.__get__") ⟨[.builtin "object.__class__",.ref x,tp],[]⟩) R s:=by
 obtain⟨hh,g,dr,t,os⟩:=s
 have L0:=I.ty (M:=model prog w)
 have L1:=W.looks_mroIn (M:=model prog w) X hm
 have pl:=W.KF.slot_gs.plain
 have ent:=W.KF.entry_gs
 refine codeAny_call_builtin pl ent (W.KF.slot_gs.check _ _ _ _ _ _ _ _ W.KF.type_class (W.KF.args_gs _ _ _) ?_)
 unfold Builtin.«getset_descriptor.__get__» descrGet
 rw[W.dga_obj]
 refine wpAny_bind (wpAny_pure ?_)
 unfold descrGetter descrCheckInstance descrNameAndClass isInstance
 simp only[W.KF.owner_class]
 repeat lk
 refine⟨Code.quiet_builtin _ (by decide +kernel),codeAny_builtin W.KF.entry_class ?_⟩
 unfold Builtin.«object.__class__» shownTypeOf
 repeat lk
 exact hR
structure CG (K:W.Frag)(C:Addr):Prop where
 hc:(W.clsIn K C).isSome=true
 ga:W.findIn K (.ref C) "__getattribute__"=some (some (.builtin "BaseException.__getattribute__"))
 gt:W.findIn K (.ref C) "__getattr__"=some none
 be:W.mroIn K C (.type "BaseException")=some true
 ha:W.findIn K (.ref C) "__class__"=some (some (.builtin "object.__class__"))
 hn:W.specialIn K (.builtin "object.__class__") "__get__"=some (some (.builtin "getset_descriptor.__get__"))
 AO:W.takesIn K (.builtin "object.__class__")=some true
 hm:W.mroIn K C (.type "object")=some true
theorem uG {M:Model}{K:W.Frag}{h:Heap}{x C:Addr}(X:K.In h)(T:CG K C):W.Looks M h (Builtin.ObjectAttr.find (.ref x) (.ref C) "__class__") (.bind (.builtin "getset_descriptor.__get__") (.builtin "object.__class__")):=by
 refine(W.looks_findIn X T.ha).andThen ?_
 refine(W.looks_specialIn X T.hn:W.Looks M h (Builtin.ObjectAttr.getOf (some (.builtin "object.__class__"))) _).andThen ?_
 refine((W.looks_takesIn X T.AO).andThen .now:W.Looks M h (Builtin.ObjectAttr.dataDescriptor? (some (.builtin "object.__class__")) (some (.builtin "getset_descriptor.__get__"))) (some (.builtin "getset_descriptor.__get__",.builtin "object.__class__"))).andThen ?_
 exact W.Looks.tag .now
theorem nO {K:W.Frag}{x D:Addr}(T:CG K D):W.KitX K (.ref x) (.ref D) (fun h=>pj h x D) where
 ty:=fun _ _ _ I=>I.ty
 it:=fun M h X _=>by
   obtain⟨Jn,xW⟩:=Mt.mp T.hc
   unfold W.clsIn at xW
   split at xW
   . rename_i u1 u2 u3 u4 Gp
     intro A' Q' E' s' k q
     unfold isType loadHead
     exact wpAny_bind (wpAny_loadPart (k _ _ (X _ _ Gp)) (wpAny_pure q))
   . cases xW
 ne:=fun h tp dd aF n sl X Jo=>by
   obtain⟨Jn,xW⟩:=Mt.mp T.hc
   refine Bool.eq_false_iff.mpr fun q=>?_
   have e:D=tp:=Value.ref.inj (beq_iff_eq.mp q)
   subst e
   unfold W.clsIn at xW
   split at xW
   . rename_i u1 u2 u3 u4 Gp
     have z:=(X _ _ Gp).symm.trans Jo
     cases z
   . cases xW
 ca:=fun {prog w A E Q s} X I k=>by
   unfold getAttr? getAttrBy?
   refine wpAny_bind (wpAny_mkText (wpAny_bind (wpAny_attempt ?_)))
   refine A7 (s:={ s with toks:=s.toks+1}) X I T.ga T.gt T.be (uG X T) ?_
   refine wpAny_call (ye (s:={ s with toks:=s.toks+1}) X I T.hm ?_)
   exact W.handed_on rfl (wpAny_pure k)
end Sg
namespace Sg
open PySem PySem.Spec PyProof.Rows L2
noncomputable abbrev St:=L2.St
def uH (h:Heap)(x C dx:Addr):Prop:=∃ ox,h.get? x=some ox/\ox.cls=.ref C/\ox.dict=some dx/\∃ vs,ox.data=.fields vs
theorem uH.of {h:Heap}{x C dx:Addr}(I:uH h x C dx):pj h x C:=let ⟨ox,h1,h2,_⟩:=I;⟨ox,h1,h2⟩
inductive Dt where
 | aW
 | bl (b:Bool)
 | int (i:Int)
 | str (x:Str)
 | tup (ds:List Dt)
 | lst (ds:List Dt)
 | fQ (ns:List Int)
 | bK (kvs:List (Key×Dt))
 | obj (C:Addr) (fs:List (Str×Dt))
 | ty (n:String)
 | cls (C:Addr)
 | xo (C:Addr)
 | cH (kvs:List (Key×Dt))
 | sd (C:Addr) (fs:List (Str×Dt))
 | gE (kvs:List (Key×Dt))
 | memo (a:Addr) (ls:ng) (j n:Nat)
 | eG (a:Addr) (ls:ng) (j n:Nat)
 | tJ (a:Addr) (ls:ng) (n:Nat)
 | nP (C:Addr) (fs:List (Str×Dt)) (gs:List (Nat->List (Key×FD))) (nm:List Str) (n:Nat)
 | kN (fd:FD)
 | bE (cM:List (List Key×Int))
noncomputable def Gq (fs:List (Str×Dt))(nm:List Str)(a:Addr)(ls:ng)(n:Nat):List (Str×Dt):=fs ++ (Lp nm.length).map fun j=>(nm.getD j "",.memo a ls j n)
def Known (H:Hp)(p:Addr)(f:Nat->List (Key×FD))(n:Nat):Prop:=∀ i,i < n->∃ q o kvs,H q=some (.kd (some (p,i)) o kvs)/\xH H kvs (f i)
def me (H:Hp)(a:Addr)(ls:ng):Prop:=H a=some (.memo ls)\/∃ ns,H a=some (.iL ls ns)
theorem Known.mono {H H':Hp}{p:Addr}{f:Nat->List (Key×FD)}{n:Nat}(e:∀ b u,H b=some u->H' b=some u)(h:Known H p f n):Known H' p f n:=fun i hi=>let ⟨q,o,kvs,h1,h2⟩:=h i hi;⟨q,o,kvs,e _ _ h1,h2.kp (.of e)⟩
theorem me.mono {H H':Hp}{a:Addr}{ls:ng}(e:∀ b u,H b=some u->H' b=some u)(h:me H a ls):me H' a ls:=h.imp (e _ _) fun⟨ns,z⟩=>⟨ns,e _ _ z⟩
mutual
inductive Rep (K:W.Frag)(H:Hp):V->Dt->Prop
 | aW:Rep K H .aW .aW
 | bl (b:Bool):Rep K H (.bl b) (.bl b)
 | int (i:Int):Rep K H (.int i) (.int i)
 | str (x:Str):Rep K H (.str x) (.str x)
 | tup {a:Addr} {vs:List V} {ds:List Dt}:tH K H a vs->aS K H vs ds->Rep K H (.ref a) (.tup ds)
 | lst {a:Addr} {vs:List V} {ds:List Dt}:H a=some (.lst vs)->aS K H vs ds->Rep K H (.ref a) (.lst ds)
 | fQ {a:Addr} {ns:List Int}:eF K H a (ns.map V.int)->Rep K H (.ref a) (.fQ ns)
 | bK {a:Addr} {kvs:List (Key×V)} {kds:List (Key×Dt)}:H a=some (.dK kvs)->bu K H kvs kds->Rep K H (.ref a) (.bK kds)
 | obj {a C dx:Addr} {fs:List (Str×V)} {ds:List (Str×Dt)}:Rd H a (.ins C dx fs)->bX K H fs ds->Rep K H (.ref a) (.obj C ds)
 | ty (n:String):Rep K H (.ty n) (.ty n)
 | cls (C:Addr):Rep K H (.ref C) (.cls C)
 | xo {a C:Addr} {ph:Heap->Prop}:H a=some (.ext ph)->(∀ h,ph h->pj h a C)->Rep K H (.ref a) (.xo C)
 | cH {a:Addr} {ob:Obj} {kvs:List (Key×V)} {kds:List (Key×Dt)}:H a=some (.a7 ob (.dK kvs))->bu K H kvs kds->Rep K H (.ref a) (.cH kds)
 | sd {a C dx:Addr} {ph:Heap->Prop} {fs:List (Str×V)} {ds:List (Str×Dt)}:H a=some (.ext ph)->(∀ h,ph h->uH h a C dx)->H dx=some (.xd fs)->bX K H fs ds->Rep K H (.ref a) (.sd C ds)
 | gE {a:Addr} {tg:Option (Addr×Nat)} {ob:Obj} {kvs:List (Key×V)} {kds:List (Key×Dt)}:H a=some (.kd tg ob kvs)->bu K H kvs kds->Rep K H (.ref a) (.gE kds)
 | memo {a p:Addr} {ls:ng} {j n:Nat} {f:Nat->List (Key×FD)}:ls[j]?=some (p,f)->H a=some (.memo ls)->(p=a\/H p=some (.part a))->Known H p f n->Rep K H (.ref p) (.memo a ls j n)
 | eG {a p:Addr} {ls:ng} {j n:Nat} {f:Nat->List (Key×FD)}:ls[j]?=some (p,f)->me H a ls->(p=a\/H p=some (.part a))->Known H p f n->Rep K H (.ref p) (.eG a ls j n)
 | tJ {a:Addr} {ls:ng} {n:Nat}:(∀ (j:Nat) (p:Addr) (f:Nat->List (Key×FD)),ls[j]?=some (p,f)->Known H p f n)->Rep K H .aW (.tJ a ls n)
 | nP {s a C dx:Addr} {fv:List (Str×V)} {fs:List (Str×Dt)} {gs:List (Nat->List (Key×FD))} {nm:List Str} {n:Nat} {ls:ng}:ls.map (·.2)=gs->Rd H s (.ins C dx fv)->bX K H fv (Gq fs nm a ls n)->Rep K H (.ref s) (.nP C fs gs nm n)
 | kN {v:V} {fd:FD}:Fz H v fd->Rep K H v (.kN fd)
 | bE {a:Addr} {cM:List (List Key×Int)}:H a=some (.dT (cM.map fun k=>(k.1,V.int k.2)))->Rep K H (.ref a) (.bE cM)
inductive aS (K:W.Frag)(H:Hp):List V->List Dt->Prop
 | nil:aS K H [] []
 | cons {v:V} {d:Dt} {vs:List V} {ds:List Dt}:Rep K H v d->aS K H vs ds->aS K H (v::vs) (d::ds)
inductive bu (K:W.Frag)(H:Hp):List (Key×V)->List (Key×Dt)->Prop
 | nil:bu K H [] []
 | cons {k:Key} {v:V} {d:Dt} {vs:List (Key×V)} {ds:List (Key×Dt)}:Rep K H v d->bu K H vs ds->bu K H ((k,v)::vs) ((k,d)::ds)
inductive bX (K:W.Frag)(H:Hp):List (Str×V)->List (Str×Dt)->Prop
 | nil:bX K H [] []
 | cons {k:Str} {v:V} {d:Dt} {vs:List (Str×V)} {ds:List (Str×Dt)}:Rep K H v d->bX K H vs ds->bX K H ((k,v)::vs) ((k,d)::ds)
end
theorem dj {H H':Hp}{a:Addr}{u:HO}(e:aw H H')(h:Rd H a u):Rd H' a u:=by
 rcases h with h | ⟨o,h⟩ | ⟨tg,o,kvs,h,z⟩ | ⟨o,h⟩
 . exact .inl (e _ _ h)
 . exact .inr (.inl ⟨o,e _ _ h⟩)
 . exact .inr (.inr (.inl ⟨tg,o,kvs,e _ _ h,z⟩))
 . exact .inr (.inr (.inr ⟨o,e _ _ h⟩))
theorem cg {K:W.Frag}{H H':Hp}{a:Addr}{xs:List V}(e:aw H H')(h:tH K H a xs):tH K H' a xs:=by
 rcases h with h | h
 . exact .inl (e _ _ h)
 . exact .inr h
mutual
theorem Rep.mono {K:W.Frag}{H H':Hp}(e:aw H H'):∀ {v:V} {d:Dt},Rep K H v d->Rep K H' v d
 | _,_,.aW=>.aW
 | _,_,.bl b=>.bl b
 | _,_,.int i=>.int i
 | _,_,.str x=>.str x
 | _,_,.tup h r=>.tup (cg e h) (aS.mono e r)
 | _,_,.lst h r=>.lst (e _ _ h) (aS.mono e r)
 | _,_,.fQ h=>.fQ (e.seq h)
 | _,_,.bK h r=>.bK (e _ _ h) (bu.mono e r)
 | _,_,.obj h r=>.obj (dj e h) (bX.mono e r)
 | _,_,.ty n=>.ty n
 | _,_,.cls C=>.cls C
 | _,_,.xo h r=>.xo (e _ _ h) r
 | _,_,.cH h r=>.cH (e _ _ h) (bu.mono e r)
 | _,_,.sd h q g r=>.sd (e _ _ h) q (e _ _ g) (bX.mono e r)
 | _,_,.gE h r=>.gE (e _ _ h) (bu.mono e r)
 | _,_,.memo h1 h2 h3 h4=>.memo h1 (e _ _ h2) (h3.imp id fun z=>e _ _ z) (h4.mono e)
 | _,_,.eG h1 h2 h3 h4=>.eG h1 (h2.mono e) (h3.imp id fun z=>e _ _ z) (h4.mono e)
 | _,_,.tJ h=>.tJ fun j p f z=>(h j p f z).mono e
 | _,_,.nP h1 h2 h3=>.nP h1 (dj e h2) (bX.mono e h3)
 | _,_,.kN h=>.kN (h.st fun b u q _=>e b u q)
 | _,_,.bE h=>.bE (e _ _ h)
theorem aS.mono {K:W.Frag}{H H':Hp}(e:aw H H'):∀ {v:List V} {d:List Dt},aS K H v d->aS K H' v d
 | _,_,.nil=>.nil
 | _,_,.cons h r=>.cons (Rep.mono e h) (aS.mono e r)
theorem bu.mono {K:W.Frag}{H H':Hp}(e:aw H H'):∀ {v:List (Key×V)} {d:List (Key×Dt)},bu K H v d->bu K H' v d
 | _,_,.nil=>.nil
 | _,_,.cons h r=>.cons (Rep.mono e h) (bu.mono e r)
theorem bX.mono {K:W.Frag}{H H':Hp}(e:aw H H'):∀ {v:List (Str×V)} {d:List (Str×Dt)},bX K H v d->bX K H' v d
 | _,_,.nil=>.nil
 | _,_,.cons h r=>.cons (Rep.mono e h) (bX.mono e r)
end
theorem aS.length {K:W.Frag}{H:Hp}:∀ {v:List V} {d:List Dt},aS K H v d->v.length=d.length
 | _,_,.nil=>rfl
 | _,_,.cons _ r=>congrArg (·+1) (aS.length r)
theorem aS.get {K:W.Frag}{H:Hp}:∀ {v:List V} {d:List Dt} {i:Nat} {x:Dt},aS K H v d->d[i]?=some x->∃ y,v[i]?=some y/\Rep K H y x
 | _,_,_,_,.nil,e=>by simp at e
 | _,_,0,_,.cons h _,e=>by simp at e;subst e;exact⟨_,rfl,h⟩
 | _,_,i+1,x,.cons _ r,e=>by
   obtain⟨y,h1,h2⟩:=aS.get (i:=i) (x:=x) r (by simpa using e)
   exact⟨y,by simpa using h1,h2⟩
theorem aS.get' {K:W.Frag}{H:Hp}{v:List V}{d:List Dt}{i:Nat}{y:V}(r:aS K H v d)(e:v[i]?=some y):∃ x,d[i]?=some x/\Rep K H y x:=by
 have hi:i < v.length:=(KP.mp e).1
 have EZ:i < d.length:=by rw[<- r.length];exact hi
 obtain⟨z,h1,h2⟩:=r.get (fe EZ)
 rw[e] at h1;cases h1
 exact⟨_,fe EZ,h2⟩
theorem aS.append {K:W.Frag}{H:Hp}:∀ {v:List V} {d:List Dt} {v':List V} {d':List Dt},aS K H v d->aS K H v' d'->aS K H (v ++ v') (d ++ d')
 | _,_,_,_,.nil,s=>s
 | _,_,_,_,.cons h r,s=>.cons h (aS.append r s)
theorem aS.take {K:W.Frag}{H:Hp}:∀ {v:List V} {d:List Dt} (n:Nat),aS K H v d->aS K H (v.take n) (d.take n)
 | _,_,0,_=>.nil
 | _,_,_+1,.nil=>.nil
 | _,_,n+1,.cons h r=>.cons h (aS.take n r)
theorem bX.lookup {K:W.Frag}{H:Hp}{f:Str}:∀ {v:List (Str×V)} {d:List (Str×Dt)} {x:Dt},bX K H v d->d.lookup f=some x->∃ y,v.lookup f=some y/\Rep K H y x
 | _,_,_,.nil,e=>by simp at e
 | (k,v)::r,(_,d)::s,x,.cons h t,e=>by
   rw[L9] at e ⊢
   cases q:(f == k) with
   | true=>rw[q] at e;cases e;exact⟨v,rfl,h⟩
   | false=>rw[q] at e;exact bX.lookup t e
theorem bX.none_of {K:W.Frag}{H:Hp}{f:Str}:∀ {v:List (Str×V)} {d:List (Str×Dt)},bX K H v d->d.lookup f=none->v.lookup f=none
 | _,_,.nil,_=>rfl
 | (k,v)::r,(_,d)::s,.cons h t,e=>by
   rw[L9] at e ⊢
   cases q:(f == k) with
   | true=>rw[q] at e;cases e
   | false=>rw[q] at e;exact bX.none_of t e
theorem bX.length {K:W.Frag}{H:Hp}:∀ {v:List (Str×V)} {d:List (Str×Dt)},bX K H v d->v.length=d.length
 | _,_,.nil=>rfl
 | _,_,.cons _ r=>congrArg (·+1) (bX.length r)
theorem bu.length {K:W.Frag}{H:Hp}:∀ {v:List (Key×V)} {d:List (Key×Dt)},bu K H v d->v.length=d.length
 | _,_,.nil=>rfl
 | _,_,.cons _ r=>congrArg (·+1) (bu.length r)
structure aL (Hf H ar H':Hp):Prop where
 big:aw H H'
 a7:aw Hf ar
 sub:aw ar H'
 new:∀ a o,ar a=some o->(∃ o,Hf a=some o)\/H a=Option.none\/Kept o
theorem aL.refl {Hf H:Hp}(s:aw Hf H):aL Hf H Hf H:=⟨aw.refl _,aw.refl _,s,fun a o h=>.inl ⟨o,h⟩⟩
theorem aL.trans {Hf H Hf1 H1 aR H2:Hp}(a:aL Hf H Hf1 H1)(b:aL Hf1 H1 aR H2):aL Hf H aR H2:=
 ⟨a.big.trans b.big,a.a7.trans b.a7,b.sub,fun x o h=>by
   rcases b.new x o h with⟨o',h'⟩ | h' | h'
   . have e:=b.a7 _ _ h'
     rw[h] at e;cases e
     exact a.new x o h'
   . exact .inr (.inl (a.big.free h'))
   . exact .inr (.inr h')⟩
theorem aL.mf {Hf H ar H':Hp}(g:aL Hf H ar H'){a:Addr}{u o:HO}(h:H a=some u)(nk:¬ Kept u)(q:ar a=some o):∃ o,Hf a=some o:=by
 rcases g.new a o q with z | z | z
 . exact z
 . rw[h] at z;cases z
 . have e:=g.big _ _ h
   rw[g.sub _ _ q] at e;cases e
   exact absurd z nk
theorem aQ {H:Hp}{p:Addr}{o:HO}(n:H p=Option.none):aw H (upd H p o):=fun b u e=>by
 rw[aj (ao e n)];exact e
theorem ia {Hf H:Hp}{p:Addr}{o:HO}(s:aw Hf H):aw (upd Hf p o) (upd H p o):=fun b u e=>by
 by_cases hb:b=p
 . subst hb;rw[ak] at e ⊢;exact e
 . rw[aj hb] at e ⊢;exact s _ _ e
theorem lg {Hf H:Hp}{p:Addr}{o:HO}(s:aw Hf H)(n:Hf p=Option.none):aw Hf (upd H p o):=fun b u e=>by
 rw[aj (ao e n)];exact s _ _ e
theorem aL.alloc {Hf H:Hp}{p:Addr}{o:HO}(s:aw Hf H)(n:H p=Option.none):aL Hf H (upd Hf p o) (upd H p o):=
 ⟨aQ n,aQ (s.free n),ia s,fun a u h=>by
   by_cases hb:a=p
   . subst hb;exact .inr (.inl n)
   . rw[aj hb] at h;exact .inl ⟨u,h⟩⟩
theorem aL.cN {Hf H:Hp}{p:Addr}{o:HO}(s:aw Hf H)(n:H p=Option.none):aL Hf H Hf (upd H p o):=
 ⟨aQ n,aw.refl _,lg s (s.free n),fun a u h=>.inl ⟨u,h⟩⟩
inductive Own where
 | lst (ds:List Dt)
 | bK (kds:List (Key×Dt))
 | obj (C:Addr) (fs:List (Str×Dt))
 | qr (x:Addr) (C:Addr) (fs:List (Str×Dt))
 | mh (C:Addr) (fs:List (Str×Dt)) (gs:List (Nat->List (Key×FD))) (nm:List Str) (n:Nat)
 | nQ (x:Addr) (C:Addr) (fs:List (Str×Dt)) (gs:List (Nat->List (Key×FD))) (nm:List Str) (n:Nat)
 | bE (cM:List (List Key×Int))
inductive Slot where
 | bb
 | val (d:Dt)
 | own (o:Own)
def cb (K:W.Frag)(Hf H:Hp)(a:Addr):Own->Prop
 | .lst ds=>∃ vs,H a=some (.lst vs)/\aS K Hf vs ds
 | .bK kds=>∃ kvs,H a=some (.dK kvs)/\bu K Hf kvs kds
 | .obj C ds=>∃ dx fs,H a=some (.ins C dx fs)/\bX K Hf fs ds
 | .qr x C ds=>a=x/\∃ dx fs,H a=some (.ins C dx fs)/\bX K Hf fs ds
 | .mh C ds gs nm n=>∃ dx fs b ls,(ls:ng).map (·.2)=gs/\H a=some (.ins C dx fs)/\bX K Hf fs (Gq ds nm b ls n)
 | .nQ x C ds gs nm n=>a=x/\∃ dx fs b ls,(ls:ng).map (·.2)=gs/\H a=some (.ins C dx fs)/\bX K Hf fs (Gq ds nm b ls n)
 | .bE cM=>H a=some (.dT (cM.map fun k=>(k.1,V.int k.2)))
theorem cb.Dz {K:W.Frag}{Hf H:Hp}{a:Addr}:∀ {o:Own},cb K Hf H a o->∃ u,H a=some u/\¬ Kept u
 | .lst _,⟨_,h,_⟩=>⟨_,h,fun z=>z⟩
 | .bK _,⟨_,h,_⟩=>⟨_,h,fun z=>z⟩
 | .obj _ _,⟨_,_,h,_⟩=>⟨_,h,fun z=>z⟩
 | .qr _ _ _,⟨_,_,_,h,_⟩=>⟨_,h,fun z=>z⟩
 | .mh _ _ _ _ _,⟨_,_,_,_,_,h,_⟩=>⟨_,h,fun z=>z⟩
 | .nQ _ _ _ _ _ _,⟨_,_,_,_,_,_,h,_⟩=>⟨_,h,fun z=>z⟩
 | .bE _,h=>⟨_,h,fun z=>z⟩
theorem cb.some {K:W.Frag}{Hf H:Hp}{a:Addr}:∀ {o:Own},cb K Hf H a o->∃ u,H a=some u
 | .lst _,⟨_,h,_⟩=>⟨_,h⟩
 | .bK _,⟨_,h,_⟩=>⟨_,h⟩
 | .obj _ _,⟨_,_,h,_⟩=>⟨_,h⟩
 | .qr _ _ _,⟨_,_,_,h,_⟩=>⟨_,h⟩
 | .mh _ _ _ _ _,⟨_,_,_,_,_,h,_⟩=>⟨_,h⟩
 | .nQ _ _ _ _ _ _,⟨_,_,_,_,_,_,h,_⟩=>⟨_,h⟩
 | .bE _,h=>⟨_,h⟩
theorem cb.grow {K:W.Frag}{Hf H ar H':Hp}{a:Addr}(e:H' a=H a)(f:aw Hf ar):∀ {o:Own},cb K Hf H a o->cb K ar H' a o
 | .lst _,⟨vs,h,r⟩=>⟨vs,by rw[e];exact h,r.mono f⟩
 | .bK _,⟨vs,h,r⟩=>⟨vs,by rw[e];exact h,r.mono f⟩
 | .obj _ _,⟨dx,fs,h,r⟩=>⟨dx,fs,by rw[e];exact h,r.mono f⟩
 | .qr _ _ _,⟨q,dx,fs,h,r⟩=>⟨q,dx,fs,by rw[e];exact h,r.mono f⟩
 | .mh _ _ _ _ _,⟨dx,fs,b,ls,q,h,r⟩=>⟨dx,fs,b,ls,q,by rw[e];exact h,r.mono f⟩
 | .nQ _ _ _ _ _ _,⟨q0,dx,fs,b,ls,q,h,r⟩=>⟨q0,dx,fs,b,ls,q,by rw[e];exact h,r.mono f⟩
 | .bE cM,h=>(show H' a=Option.some (HO.dT (cM.map fun k=>(k.1,V.int k.2))) from by rw[e];exact h)
structure Gr where
 Hf:Hp
 H:Hp
structure bW (K:W.Frag)(G:Gr)(st:L2.St)(Hf H:Hp)(dl:List Slot):Prop where
 gr:aL G.Hf G.H Hf H
 len:st.length=dl.length
 val:∀ (i:Nat) d,dl[i]?=some (.val d)->∃ v,st[i]?=some (some v)/\Rep K Hf v d
 own:∀ (i:Nat) o,dl[i]?=some (.own o)->∃ a,st[i]?=some (some (.ref a))/\Hf a=Option.none/\G.H a=Option.none/\cb K Hf H a o
 tK:∀ (i j:Nat) o o' a,dl[i]?=some (.own o)->dl[j]?=some (.own o')->st[i]?=some (some (.ref a))->st[j]?=some (some (.ref a))->i=j
section
variable {K:W.Frag}{G:Gr}{st:L2.St}{Hf H ar H':Hp}{dl dl':List Slot}
theorem bW.sub (S:bW K G st Hf H dl):aw Hf H:=S.gr.sub
theorem bW.grow (S:bW K G st Hf H dl)(g:aL Hf H ar H'):bW K G st ar H' dl:=by
 refine⟨S.gr.trans g,S.len,fun i d h=>let ⟨v,h1,h2⟩:=S.val i d h;⟨v,h1,h2.mono g.a7⟩,fun i o h=>?_,S.tK⟩
 obtain⟨a,h1,h2,h3,h4⟩:=S.own i o h
 obtain⟨u,hu,nk⟩:=h4.Dz
 refine⟨a,h1,?_,h3,h4.grow (by rw[hu];exact g.big _ _ hu) g.a7⟩
 cases q:ar a with
 | none=>rfl
 | some u'=>
   obtain⟨o',z⟩:=g.mf hu nk q
   rw[h2] at z;cases z
theorem bW.set (S:bW K G st Hf H dl){i:Nat}{v:V}{d:Dt}(r:Rep K Hf v d):bW K G (st.set i (some v)) Hf H (dl.set i (.val d)):=by
 have ln:=S.len
 refine⟨S.gr,by simp[S.len],fun j x h=>?_,fun j o h=>?_,fun j k o o' a h1 h2 h3 h4=>?_⟩
 . by_cases e:i=j
   . subst e
     by_cases hl:i < dl.length
     . rw[Ja hl] at h;cases h
       exact⟨v,Ja (by omega),r⟩
     . rw[LL (by simp;omega)] at h;cases h
   . rw[J4 e] at h ⊢;exact S.val j x h
 . by_cases e:i=j
   . subst e
     by_cases hl:i < dl.length
     . rw[Ja hl] at h;cases h
     . rw[LL (by simp;omega)] at h;cases h
   . rw[J4 e] at h ⊢;exact S.own j o h
 . have nj:i≠j:=fun e=>by
     subst e
     by_cases hl:i < dl.length
     . rw[Ja hl] at h1;cases h1
     . rw[LL (by simp;omega)] at h1;cases h1
   have nk:i≠k:=fun e=>by
     subst e
     by_cases hl:i < dl.length
     . rw[Ja hl] at h2;cases h2
     . rw[LL (by simp;omega)] at h2;cases h2
   rw[J4 nj] at h1 h3
   rw[J4 nk] at h2 h4
   exact S.tK j k o o' a h1 h2 h3 h4
theorem bW.uI (S:bW K G st Hf H dl){i:Nat}{p:Addr}{o:HO}{w w':Own}(hi:dl[i]?=some (.own w))(hp:st[i]?=some (some (.ref p)))(r:cb K Hf (upd H p o) p w'):bW K G st Hf (upd H p o) (dl.set i (.own w')):=by
 have ln:=S.len
 obtain⟨p',q1,q2,q3,q4⟩:=S.own i w hi
 rw[hp] at q1;cases q1
 have hl:i < dl.length:=(KP.mp hi).1
 have g:aL G.Hf G.H Hf (upd H p o):=⟨fun b u e=>by rw[aj (ao e q3)];exact S.gr.big _ _ e,S.gr.a7,lg S.sub q2,S.gr.new⟩
 refine⟨g,by simp[S.len],fun j x h=>?_,fun j o' h=>?_,fun j k o1 o2 a h1 h2 h3 h4=>?_⟩
 . by_cases e:i=j
   . subst e;rw[Ja hl] at h;cases h
   . rw[J4 e] at h;exact S.val j x h
 . by_cases e:i=j
   . subst e;rw[Ja hl] at h;cases h
     exact⟨p,hp,q2,q3,r⟩
   . rw[J4 e] at h
     obtain⟨a,z1,z2,z3,z4⟩:=S.own j o' h
     have:a≠p:=fun q=>by subst q;exact e (S.tK i j _ _ _ hi h hp z1)
     exact⟨a,z1,z2,z3,z4.grow (aj this) (aw.refl _)⟩
 . have tr:∀ (j:Nat) o',(dl.set i (.own w'))[j]?=some (.own o')->∃ Jp,dl[j]?=some (.own Jp):=fun j o' h=>by
     by_cases e:i=j
     . subst e;exact⟨_,hi⟩
     . rw[J4 e] at h;exact⟨_,h⟩
   obtain⟨_,t1⟩:=tr j o1 h1
   obtain⟨_,t2⟩:=tr k o2 h2
   exact S.tK j k _ _ a t1 t2 h3 h4
def Le (dl dl':List Slot):Prop:=dl.length=dl'.length/\∀ (i:Nat) s,dl[i]?=some s->s≠.bb->dl'[i]?=some s
theorem Le.refl (dl:List Slot):Le dl dl:=⟨rfl,fun _ _ h _=>h⟩
theorem bW.weak (S:bW K G st Hf H dl')(l:Le dl dl'):bW K G st Hf H dl:=
 ⟨S.gr,by rw[S.len,l.1],fun i d h=>S.val i d (l.2 i _ h (by intro z;cases z)),fun i o h=>S.own i o (l.2 i _ h (by intro z;cases z)),
  fun i j o o' a h1 h2=>S.tK i j o o' a (l.2 i _ h1 (by intro z;cases z)) (l.2 j _ h2 (by intro z;cases z))⟩
def DA:List Slot->List Slot->Prop
 | [],[]=>True
 | .bb::r,_::s=>DA r s
 | x::r,y::s=>x=y/\DA r s
 | _,_=>False
theorem Le.of:∀ {dl dl':List Slot},DA dl dl'->Le dl dl'
 | [],[],_=>Le.refl _
 | .bb::r,y::s,h=>by
   have q:=Le.of (dl:=r) (dl':=s) h
   refine⟨congrArg (·+1) q.1,fun i x e n=>?_⟩
   cases i with
   | zero=>simp at e;exact absurd e.symm n
   | succ i=>exact q.2 i x (by simpa using e) n
 | .val d::r,y::s,h=>by
   obtain⟨h1,h2⟩:=(show Slot.val d=y/\DA r s from h)
   subst h1
   have q:=Le.of h2
   refine⟨congrArg (·+1) q.1,fun i x e n=>?_⟩
   cases i with
   | zero=>exact e
   | succ i=>exact q.2 i x (by simpa using e) n
 | .own d::r,y::s,h=>by
   obtain⟨h1,h2⟩:=(show Slot.own d=y/\DA r s from h)
   subst h1
   have q:=Le.of h2
   refine⟨congrArg (·+1) q.1,fun i x e n=>?_⟩
   cases i with
   | zero=>exact e
   | succ i=>exact q.2 i x (by simpa using e) n
end
def tD (K:PySem.W.Frag)(G:Gr)(dl:List Slot)(d:Dt):TE:=fun st H Q=>∃ Hf,bW K G st Hf H dl/\∀ v ar H',aL Hf H ar H'->Rep K ar v d->Q v H'
def CH (K:PySem.W.Frag)(G:Gr)(dl:List Slot)(ds:List Dt):TA:=fun st H Q=>∃ Hf,bW K G st Hf H dl/\∀ vs ar H',aL Hf H ar H'->aS K ar vs ds->Q vs H'
def E1 (K:PySem.W.Frag)(G:Gr)(dl:List Slot)(b:Bool):TT:=fun st H Q=>∃ Hf,bW K G st Hf H dl/\∀ ar H',aL Hf H ar H'->Q b H'
abbrev EE (X:Cx)(G:Gr)(dl:List Slot)(e:Expr)(d:Dt):Prop:=PE X e (tD X.K G dl d)
abbrev EA (X:Cx)(G:Gr)(dl:List Slot)(es:List Expr)(ds:List Dt):Prop:=PA X es (CH X.K G dl ds)
abbrev EB (X:Cx)(G:Gr)(dl:List Slot)(e:Expr)(b:Bool):Prop:=PT X e (E1 X.K G dl b)
def ExcAt (K:PySem.W.Frag)(Hf:Hp)(od:Option Addr)(fs:List (Str×Dt)):Prop:=match od with
 | none=>fs=[]
 | some dx=>∃ fv,Hf dx=some (.xd fv)/\bX K Hf fv fs
inductive Out where
 | nx (dl:List Slot)
 | rt (d:Dt)
 | ro (w:Own)
 | bk (dl:List Slot)
 | ct (dl:List Slot)
 | ex (c:Value) (fs:List (Str×Dt))
 | raw (R:L2.St->Hp->Prop)
def kO (K:W.Frag)(G:Gr)(E:XK)(D:Ends)(Hf:Hp):Out->Prop
 | .nx dl=>∀ st ar H,aw Hf ar->bW K G st ar H dl->D.nx st H
 | .bk dl=>∀ st ar H,aw Hf ar->bW K G st ar H dl->D.bk st H
 | .ct dl=>∀ st ar H,aw Hf ar->bW K G st ar H dl->D.ct st H
 | .rt d=>∀ v ar H,aL G.Hf G.H ar H->Rep K ar v d->D.rt v H
 | .ro o=>∀ p ar H,aL G.Hf G.H ar H->G.H p=none->ar p=none->cb K ar H p o->D.rt (.ref p) H
 | .ex c fs=>∀ od ar H,aL G.Hf G.H ar H->ExcAt K ar od fs->E c od H
 | .raw R=>∀ st H,R st H->D.nx st H
theorem kO.mono {K:W.Frag}{G:Gr}{E:XK}{D:Ends}{Hf Hf1:Hp}(s:aw Hf Hf1):∀ {o:Out},kO K G E D Hf o->kO K G E D Hf1 o
 | .nx _,k=>fun st ar H s' S=>k st ar H (s.trans s') S
 | .bk _,k=>fun st ar H s' S=>k st ar H (s.trans s') S
 | .ct _,k=>fun st ar H s' S=>k st ar H (s.trans s') S
 | .rt _,k=>k
 | .ro _,k=>k
 | .ex _ _,k=>k
 | .raw _,k=>k
def tO (K:W.Frag)(G:Gr)(E:XK)(dl:List Slot)(o:Out):TS:=fun D st H=>∃ Hf,bW K G st Hf H dl/\kO K G E D Hf o
abbrev ES (X:Cx)(G:Gr)(E:XK)(dl:List Slot)(s:Stmt)(o:Out):Prop:=PS X s (tO X.K G E dl o)
abbrev ji (X:Cx)(G:Gr)(E:XK)(dl:List Slot)(s:List Stmt)(o:Out):Prop:=qd X s (tO X.K G E dl o)
theorem cy {X:Cx}{e:Expr}{t t':TE}(h:PE X e t)(i:∀ st H Q,t' st H Q->t st H Q):PE X e t':=fun pins s st H Q I q=>h pins s st H Q I (i st H Q q)
theorem A8 {X:Cx}{e:Expr}{t t':TT}(h:PT X e t)(i:∀ st H Q,t' st H Q->t st H Q):PT X e t':=fun pins s st H Q I q=>h pins s st H Q I (i st H Q q)
theorem HR {X:Cx}{e:List Expr}{t t':TA}(h:PA X e t)(i:∀ st H Q,t' st H Q->t st H Q):PA X e t':=fun pos pins s st H Q I q=>h pos pins s st H Q I (i st H Q q)
theorem nS {X:Cx}{e:Stmt}{t t':TS}(h:PS X e t)(i:∀ D st H,t' D st H->t D st H):PS X e t':=fun pins s st H D I q=>h pins s st H D I (i D st H q)
theorem uJ {X:Cx}{e:List Stmt}{t t':TS}(h:qd X e t)(i:∀ D st H,t' D st H->t D st H):qd X e t':=fun pins s st H D I q=>h pins s st H D I (i D st H q)
section
variable {X:Cx}{G:Gr}{dl:List Slot}{a b e:Expr}{i j:Int}{d d1 d2:Dt}{pos:Pos}{x y:Str}{u v:Bool}
theorem aa (n:Nat){x:Str}{pos:Pos}(hd:dl[n]?=some (.val d):=by rfl)(hN:X.N[n]?=some x:=by rfl)(hv:nu X.env.scope x:=by first | exact LV rfl | exact LJ (LV rfl) | exact LJ (LJ rfl))(hb:(x == ("__debug__":Str))=false:=by decide)(eE:(x == ("__classdict__":Str))=false:=by decide):EE X G dl (.Name x pos) d:=
 cy (jE hN hv hb eE) fun st H Q zq=>k3 zq fun Hf zq=>have S:=zq.1;have k:=zq.2;let ⟨v,h1,h2⟩:=S.val n d hd;⟨v,h1,k v Hf H (.refl S.sub) h2⟩
theorem af {z:Int}{j pos}:EE X G dl (.Constant (.int z) j pos) (.int z):=cy Ar fun st H Q zq=>k3 zq fun Hf zq=>have S:=zq.1;have k:=zq.2;k _ Hf H (.refl S.sub) (.int z)
theorem cj {z:Str}{j pos}:EE X G dl (.Constant (.str z) j pos) (.str z):=cy Au fun st H Q zq=>k3 zq fun Hf zq=>have S:=zq.1;have k:=zq.2;k _ Hf H (.refl S.sub) (.str z)
theorem uK {j pos}:EE X G dl (.Constant .none j pos) .aW:=cy As fun st H Q zq=>k3 zq fun Hf zq=>have S:=zq.1;have k:=zq.2;k _ Hf H (.refl S.sub) .aW
def qt (K:W.Frag)(r:R2)(d1 d2 d:Dt):Prop:=∀ v w Hf H Q,aw Hf H->Rep K Hf v d1->Rep K Hf w d2->(∀ u ar H',aL Hf H ar H'->Rep K ar u d->Q u H')->r v w H Q
theorem jU {r:R2}(h:qt X.K r d1 d2 d):∀ st H Q,tD X.K G dl d st H Q->C2 r (tD X.K G dl d1) (tD X.K G dl d2) st H Q:=fun st H Q zq=>k3 zq fun Hf zq=>have S:=zq.1;have k:=zq.2;
 ⟨Hf,S,fun v Hf1 H1 g1 r1=>⟨Hf1,S.grow g1,fun w aR H2 g2 r2=>h v w aR H2 Q g2.sub (r1.mono g2.a7) r2 fun u fR H3 g3 r3=>k u fR H3 ((g1.trans g2).trans g3) r3⟩⟩
theorem jV {op:Operator}{r:R2}(ho:gk X (binaryOp op) r)(h:qt X.K r d1 d2 d)(ha:EE X G dl a d1)(hb:EE X G dl b d2):EE X G dl (.BinOp a op b pos) d:=cy (C3 ho ha hb) (jU h)
theorem mi {op:CmpOp}{r:R2}(ho:gk X (compareOp op) r)(h:qt X.K r d1 d2 d)(hm:behindInMarks op b=false)(ha:EE X G dl a d1)(hb:EE X G dl b d2):EE X G dl (.Compare a [op] [b] pos) d:=cy (xS ho ha hb hm) (jU h)
theorem d0 {op:CmpOp}{r:R2}(ho:gk X (compareOp op) r)(h:qt X.K r d1 d2 (.bl u))(hm:behindInMarks op b=false)(ha:EE X G dl a d1)(hb:EE X G dl b d2):EB X G dl (.Compare a [op] [b] pos) u:=
 A8 (xU ho ha hb hm) fun st H Q zq=>k3 zq fun Hf zq=>have S:=zq.1;have k:=zq.2;jU h st H _ ⟨Hf,S,fun v ar H' g r=>by cases r;exact⟨u,rfl,k ar H' g⟩⟩
theorem iO {K:W.Frag}{g:Int->Int->V}{g':Int->Int->Dt}(h:∀ K H i j,Rep K H (g i j) (g' i j)):qt K (xP g) (.int i) (.int j) (g' i j):=fun v w Hf H Q s r1 r2 k=>by
 cases r1;cases r2;exact⟨i,j,rfl,rfl,k _ Hf H (.refl s) (h _ _ _ _)⟩
theorem yf {K:W.Frag}{C:Int->Int->Prop}{g:Int->Int->V}{g':Int->Int->Dt}(h:∀ K H i j,Rep K H (g i j) (g' i j))(hc:C i j):qt K (rI C g) (.int i) (.int j) (g' i j):=fun v w Hf H Q s r1 r2 k=>by
 cases r1;cases r2;exact⟨i,j,rfl,rfl,hc,k _ Hf H (.refl s) (h _ _ _ _)⟩
theorem b7 (ha:EE X G dl a (.int i))(hb:EE X G dl b (.int j)):EE X G dl (.BinOp a .Add b pos) (.int (i+j)):=jV AH (iO (g':=fun i j=>.int (i+j)) fun _ _ _ _=>.int _) ha hb
theorem A9 (ha:EE X G dl a (.int i))(hb:EE X G dl b (.int j)):EE X G dl (.BinOp a .Sub b pos) (.int (i - j)):=jV AI (iO (g':=fun i j=>.int (i - j)) fun _ _ _ _=>.int _) ha hb
theorem yg:gk X (binaryOp .Mult) (rI IntMulOk fun i j=>.int (i * j)):=EN fun _ _ _ _ _ _ _ hc q=>mul_int q hc
theorem mj (ha:EE X G dl a (.int i))(hb:EE X G dl b (.int j))(hc:IntMulOk i j):EE X G dl (.BinOp a .Mult b pos) (.int (i * j)):=jV yg (yf (g':=fun i j=>.int (i * j)) (fun _ _ _ _=>.int _) hc) ha hb
theorem uL:gk X (binaryOp .FloorDiv) (rI (fun _ j=>0 < j/\j.natAbs.log2 < 9000) fun i j=>.int (i / j)):=EN fun i j _ _ _ _ _ hc q=>by
 refine floordiv_int (Int.ne_of_gt hc.1) ?_ (.inl (PyProof.noPylong_of_log2 hc.2))
 rw[Int.fdiv_eq_ediv_of_nonneg _ (Int.le_of_lt hc.1)]
 exact q
theorem ck (ha:EE X G dl a (.int i))(hb:EE X G dl b (.int j))(hc:0 < j/\j.natAbs.log2 < 9000):EE X G dl (.BinOp a .FloorDiv b pos) (.int (i / j)):=jV uL (yf (g':=fun i j=>.int (i / j)) (fun _ _ _ _=>.int _) hc) ha hb
theorem b8 (ha:EE X G dl a (.int i))(hb:EE X G dl b (.int j))(hc:0 < j):EE X G dl (.BinOp a .Mod b pos) (.int (i % j)):=jV AJ (yf (g':=fun i j=>.int (i % j)) (fun _ _ _ _=>.int _) hc) ha hb
theorem Ba (ha:EE X G dl a (.int i))(hb:EE X G dl b (.int j))(hc:C6 i j):EE X G dl (.BinOp a .Pow b pos) (.int (i ^ j.toNat)):=jV AK (yf (g':=fun i j=>.int (i ^ j.toNat)) (fun _ _ _ _=>.int _) hc) ha hb
theorem Bb {K:W.Frag}(h:x.length+y.length<=sizeLine):qt K (fun a b H Q=>∃ i j,a=.str i/\b=.str j/\i.length+j.length<=sizeLine/\Q (.str (i ++ j)) H) (.str x) (.str y) (.str (x ++ y)):=fun v w Hf H Q s r1 r2 k=>by
 cases r1;cases r2;exact⟨x,y,rfl,rfl,h,k _ Hf H (.refl s) (.str _)⟩
theorem Bc (ha:EE X G dl a (.str x))(hb:EE X G dl b (.str y))(h:x.length+y.length<=sizeLine):EE X G dl (.BinOp a .Add b pos) (.str (x ++ y)):=jV oY (Bb h) ha hb
theorem pk (ha:EE X G dl a (.int i)):EE X G dl (.UnaryOp .USub a pos) (.int (-i)):=
 cy (C4 AL ha) fun st H Q zq=>k3 zq fun Hf zq=>have S:=zq.1;have k:=zq.2;⟨Hf,S,fun v Hf1 H1 g1 r1=>by cases r1;exact⟨i,rfl,k _ Hf1 H1 g1 (.int _)⟩⟩
theorem DB (ha:EE X G dl a (.int i))(hb:EE X G dl b (.int j)):EE X G dl (.Compare a [.Lt] [b] pos) (.bl (decide (i < j))):=mi zQ (iO (g':=fun i j=>.bl (decide (i < j))) fun _ _ _ _=>.bl _) (dn _) ha hb
theorem gF (h:EE X G dl e (.bl u))(he:∀ whole,isTrue e X.env whole=(do let v <- whole;standAt e.pos;holding [v] (truthy v)):=by intro _;rfl):EB X G dl e u:=
 A8 (Aw h he) fun st H Q zq=>k3 zq fun Hf zq=>have S:=zq.1;have k:=zq.2;⟨Hf,S,fun v Hf1 H1 g1 r1=>by cases r1;exact⟨u,rfl,k Hf1 H1 g1⟩⟩
end
section
variable {X:Cx}{G:Gr}{E:XK}{dl dl1:List Slot}{a b c e:Expr}{es:List Expr}{i j:Int}{d d1:Dt}{ds:List Dt}{pos:Pos}{o o':Out}{x:Str}{u v:Bool}{rest:List Expr}{sts se:List Stmt}{s:Stmt}
theorem uM:PE X e fun _ _ _=>False:=fun _ _ _ _ _ _ h=>h.elim
theorem pw_nev:PW X e fun _ _ _=>False:=fun _ _ _ _ _ _ _ h=>h.elim
abbrev EW (X:Cx)(G:Gr)(dl:List Slot)(e:Expr)(b:Bool):Prop:=PW X e (E1 X.K G dl b)
theorem E3 {e:Expr}{t t':TT}(h:PW X e t)(i:∀ st H Q,t' st H Q->t st H Q):PW X e t':=fun wh pins s st H Q I q=>h wh pins s st H Q I (i st H Q q)
theorem ml (ha:EB X G dl a u):EW X G dl (.BoolOp .And [a] pos) u:=pw_and1 ha
theorem ib (ha:EB X G dl a u):EW X G dl (.BoolOp .Or [a] pos) u:=pw_or1 ha
theorem ig (ha:EB X G dl a u)(hb:u=true->EW X G dl (.BoolOp .And (b::rest) pos) v):EW X G dl (.BoolOp .And (a::b::rest) pos) (u && v):=by
 cases u with
 | true=>exact E3 (pw_and ha (hb rfl)) fun st H Q zq=>k3 zq fun Hf zq=>have S:=zq.1;have k:=zq.2;⟨Hf,S,fun Hf1 H1 g1=>pf ⟨Hf1,S.grow g1,fun aR H2 g2=>k aR H2 (g1.trans g2)⟩⟩
 | false=>exact E3 (pw_and ha pw_nev) fun st H Q zq=>k3 zq fun Hf zq=>have S:=zq.1;have k:=zq.2;⟨Hf,S,fun Hf1 H1 g1=>pe (k Hf1 H1 g1)⟩
theorem iP (ha:EB X G dl a u)(hb:u=false->EW X G dl (.BoolOp .Or (b::rest) pos) v):EW X G dl (.BoolOp .Or (a::b::rest) pos) (u || v):=by
 cases u with
 | false=>exact E3 (pw_or ha (hb rfl)) fun st H Q zq=>k3 zq fun Hf zq=>have S:=zq.1;have k:=zq.2;⟨Hf,S,fun Hf1 H1 g1=>pe ⟨Hf1,S.grow g1,fun aR H2 g2=>k aR H2 (g1.trans g2)⟩⟩
 | true=>exact E3 (pw_or ha pw_nev) fun st H Q zq=>k3 zq fun Hf zq=>have S:=zq.1;have k:=zq.2;⟨Hf,S,fun Hf1 H1 g1=>pf (k Hf1 H1 g1)⟩
theorem kP (h:EW X G dl e u):EB X G dl e u:=h.pt
theorem fZ (ha:EB X G dl a u):EB X G dl (.UnaryOp .Not a pos) (!u):=A8 (Ax ha) fun st H Q zq=>k3 zq fun Hf zq=>have S:=zq.1;have k:=zq.2;⟨Hf,S,fun Hf1 H1 g1=>k Hf1 H1 g1⟩
theorem jj (ha:EE X G dl a (.bl u)):EE X G dl (.BoolOp .And [a] pos) (.bl u):=tX ha
theorem Bd (ha:EE X G dl a (.bl u)):EE X G dl (.BoolOp .Or [a] pos) (.bl u):=tX ha
theorem mm (ha:EE X G dl a (.bl u))(hb:u=true->EE X G dl (.BoolOp .And (b::rest) pos) (.bl v)):EE X G dl (.BoolOp .And (a::b::rest) pos) (.bl (u && v)):=by
 cases u with
 | true=>exact cy (tY ha (hb rfl)) fun st H Q zq=>k3 zq fun Hf zq=>have S:=zq.1;have k:=zq.2;⟨Hf,S,fun w Hf1 H1 g1 r1=>by cases r1;exact⟨true,rfl,pf ⟨Hf1,S.grow g1,fun w aR H2 g2 r2=>k w aR H2 (g1.trans g2) r2⟩⟩⟩
 | false=>exact cy (tY ha uM) fun st H Q zq=>k3 zq fun Hf zq=>have S:=zq.1;have k:=zq.2;⟨Hf,S,fun w Hf1 H1 g1 r1=>by cases r1;exact⟨false,rfl,pe (k _ Hf1 H1 g1 (.bl _))⟩⟩
theorem zZ (ha:EE X G dl a (.bl u))(hb:u=false->EE X G dl (.BoolOp .Or (b::rest) pos) (.bl v)):EE X G dl (.BoolOp .Or (a::b::rest) pos) (.bl (u || v)):=by
 cases u with
 | false=>exact cy (zJ ha (hb rfl)) fun st H Q zq=>k3 zq fun Hf zq=>have S:=zq.1;have k:=zq.2;⟨Hf,S,fun w Hf1 H1 g1 r1=>by cases r1;exact⟨false,rfl,pe ⟨Hf1,S.grow g1,fun w aR H2 g2 r2=>k w aR H2 (g1.trans g2) r2⟩⟩⟩
 | true=>exact cy (zJ ha uM) fun st H Q zq=>k3 zq fun Hf zq=>have S:=zq.1;have k:=zq.2;⟨Hf,S,fun w Hf1 H1 g1 r1=>by cases r1;exact⟨true,rfl,pf (k _ Hf1 H1 g1 (.bl _))⟩⟩
theorem Be (ha:EE X G dl a (.bl u)):EE X G dl (.UnaryOp .Not a pos) (.bl (!u)):=cy (Ay ha) fun st H Q zq=>k3 zq fun Hf zq=>have S:=zq.1;have k:=zq.2;⟨Hf,S,fun w Hf1 H1 g1 r1=>by cases r1;exact⟨u,rfl,k _ Hf1 H1 g1 (.bl _)⟩⟩
theorem bN (h:EB X G dl e u)(q:u=v):EB X G dl e v:=by subst q;exact h
theorem aI (h:EE X G dl e d)(q:d=d1):EE X G dl e d1:=by subst q;exact h
theorem ai:EA X G dl [] []:=HR uh fun st H Q zq=>k3 zq fun Hf zq=>have S:=zq.1;have k:=zq.2;k [] Hf H (.refl S.sub) .nil
theorem ae (ha:EE X G dl e d)(hr:EA X G dl es ds)(hs:starEach (e::es) X.env=(false,eval e X.env)::starEach es X.env:=by rfl):EA X G dl (e::es) (d::ds):=
 HR (qi ha hr hs) fun st H Q zq=>k3 zq fun Hf zq=>have S:=zq.1;have k:=zq.2;⟨Hf,S,fun v Hf1 H1 g1 r1=>⟨Hf1,S.grow g1,fun vs aR H2 g2 r2=>k _ aR H2 (g1.trans g2) (.cons (r1.mono g2.a7) r2)⟩⟩
theorem ij {x1}(h:EA X G dl es ds)(hl:ds.length<=sizeLine:=by decide):EE X G dl (.Tuple es x1 pos) (.tup ds):=
 cy (uk h) fun st H Q zq=>k3 zq fun Hf zq=>have S:=zq.1;have k:=zq.2;⟨Hf,S,fun vs Hf1 H1 g1 r1=>⟨by rw[r1.length];exact hl,fun p hp=>k _ (upd Hf1 p (.tup vs)) _ (g1.trans (.alloc g1.sub hp)) (.tup (.of ak) (r1.mono (aQ (g1.sub.free hp))))⟩⟩
theorem Bf (h:EA X G dl es ds)(hl:ds.length<=sizeLine:=by decide):EE X G dl (.List es pos) (.lst ds):=
 cy (um h) fun st H Q zq=>k3 zq fun Hf zq=>have S:=zq.1;have k:=zq.2;⟨Hf,S,fun vs Hf1 H1 g1 r1=>⟨by rw[r1.length];exact hl,fun p hp=>k _ (upd Hf1 p (.lst vs)) _ (g1.trans (.alloc g1.sub hp)) (.lst ak (r1.mono (aQ (g1.sub.free hp))))⟩⟩
theorem aS.jf {K:W.Frag}{H:Hp}{vs:List V}{ds:List Dt}{i:Int}{d:Dt}(r:aS K H vs ds)(h:L2.jf ds i=some d):∃ v,L2.jf vs i=some v/\Rep K H v d:=by
 unfold L2.jf at h ⊢
 rw[r.length]
 cases q:zU ds.length i with
 | none=>rw[q] at h;cases h
 | some n=>
   rw[q] at h
   exact r.get h
theorem aA (ha:EE X G dl a (.tup ds))(hb:EE X G dl b (.int i))(h:jf ds i=some d)(hs:fg b:=by intro _ _;rfl):EE X G dl (.Subscript a b pos) d:=
 cy (ql AR ha hb hs) (jU fun v w Hf H Q s r1 r2 k=>by
   cases r1 with
   | tup q r=>
     cases r2
     obtain⟨v,h1,h2⟩:=r.jf h
     exact⟨_,_,i,v,rfl,rfl,cg s q,h1,k v Hf H (.refl s) h2⟩)
theorem uN (ha:EE X G dl a (.lst ds))(hb:EE X G dl b (.int i))(h:jf ds i=some d)(hs:fg b:=by intro _ _;rfl):EE X G dl (.Subscript a b pos) d:=
 cy (ql qm ha hb hs) (jU fun v w Hf H Q s r1 r2 k=>by
   cases r1 with
   | lst q r=>
     cases r2
     obtain⟨v,h1,h2⟩:=r.jf h
     exact⟨_,_,i,v,rfl,rfl,.of (s _ _ q),h1,k v Hf H (.refl s) h2⟩)
theorem Bg {ns:List Int}{z:Int}(ha:EE X G dl a (.fQ ns))(hb:EE X G dl b (.int i))(h:jf ns i=some z)(hs:fg b:=by intro _ _;rfl):EE X G dl (.Subscript a b pos) (.int z):=
 cy (ql qm ha hb hs) (jU fun v w Hf H Q s r1 r2 k=>by
   cases r1 with
   | fQ q=>
     cases r2
     have h':L2.jf (ns.map V.int) i=some (.int z):=by
       unfold L2.jf at h ⊢
       rw[Bn]
       cases q2:zU ns.length i with
       | none=>rw[q2] at h;cases h
       | some n=>
         rw[q2] at h
         show(ns.map V.int)[n]?=_
         rw[J7,show ns[n]?=some z from h];rfl
     exact⟨_,_,i,_,rfl,rfl,s.seq q,h',k _ Hf H (.refl s) (.int z)⟩)
theorem Bh {z:Nat}(ha:EE X G dl a (.str x))(hb:EE X G dl b (.int i))(h:jf x.cps.toList i=some z)(hl:x.length<=sizeLine)(hs:fg b:=by intro _ _;rfl):EE X G dl (.Subscript a b pos) (.str ⟨#[z]⟩):=
 cy (ql AS ha hb hs) (jU fun v w Hf H Q s r1 r2 k=>by
   cases r1;cases r2
   exact⟨x,i,z,rfl,rfl,hl,h,k _ Hf H (.refl s) (.str _)⟩)
theorem a8:ji X G E dl [] (.nx dl):=uJ xN fun D st H zq=>k3 zq fun Hf zq=>have S:=zq.1;have k:=zq.2;k st Hf H (aw.refl _) S
theorem ah (h1:ES X G E dl s (.nx dl1))(h2:ji X G E dl1 sts o):ji X G E dl (s::sts) o:=
 uJ (jG h1 h2) fun D st H zq=>k3 zq fun Hf zq=>have S:=zq.1;have k:=zq.2;⟨Hf,S,fun eM ar H' s' S'=>⟨ar,S',k.mono s'⟩⟩
theorem aq (h1:ES X G E dl s o):ji X G E dl [s] o:=lY h1
theorem kO.stop {K:W.Frag}{D D':Ends}{Hf:Hp}(h:(∀ dl,o≠.nx dl)/\∀ R,o≠.raw R)(hr:D'.rt=D.rt)(hb:D'.bk=D.bk)(hc:D'.ct=D.ct)(k:kO K G E D Hf o):kO K G E D' Hf o:=by
 cases o with
 | nx dl=>exact absurd rfl (h.1 dl)
 | raw R=>exact absurd rfl (h.2 R)
 | rt d=>show ∀ v Hf H,_->_->D'.rt v H;rw[hr];exact k
 | ro d=>show ∀ v Hf H,_->_->_->_->D'.rt _ H;rw[hr];exact k
 | bk d=>show ∀ v Hf H,_->_->D'.bk v H;rw[hb];exact k
 | ct d=>show ∀ v Hf H,_->_->D'.ct v H;rw[hc];exact k
 | ex c fs=>exact k
theorem d5 (h1:ES X G E dl s o)(h:(∀ dl,o≠.nx dl)/\(∀ R,o≠.raw R):=by exact⟨(fun _ z=>nomatch z),(fun _ z=>nomatch z)⟩):ji X G E dl (s::sts) o:=
 uJ (jG h1 (g9 (sts:=sts))) fun D st H zq=>k3 zq fun Hf zq=>have S:=zq.1;have k:=zq.2;⟨Hf,S,kO.stop (D:=D) h rfl rfl rfl k⟩
theorem bc (hc:EB X G dl c u)(h1:u=true->ji X G E dl sts o)(h2:u=false->ji X G E dl se o):ES X G E dl (.If c sts se pos) o:=by
 cases u with
 | true=>exact nS (zK hc (h1 rfl) (g9 (sts:=se))) fun D st H zq=>k3 zq fun Hf zq=>have S:=zq.1;have k:=zq.2;⟨Hf,S,fun Hf1 H1 g1=>pf ⟨Hf1,S.grow g1,k.mono g1.a7⟩⟩
 | false=>exact nS (zK hc (g9 (sts:=sts)) (h2 rfl)) fun D st H zq=>k3 zq fun Hf zq=>have S:=zq.1;have k:=zq.2;⟨Hf,S,fun Hf1 H1 g1=>pe ⟨Hf1,S.grow g1,k.mono g1.a7⟩⟩
theorem aY (h:EE X G dl e d):ES X G E dl (.Return (some e) pos) (.rt d):=nS (oV h) fun D st H zq=>k3 zq fun Hf zq=>have S:=zq.1;have k:=zq.2;⟨Hf,S,fun v Hf1 H1 g1 r1=>k v Hf1 H1 (S.gr.trans g1) r1⟩
theorem qu (h:EE X G dl e d)(hs:swapsWith e none pos.line X.env=pure false:=by rfl):ES X G E dl (.Expr e pos) (.nx dl):=
 nS (qf h hs) fun D st H zq=>k3 zq fun Hf zq=>have S:=zq.1;have k:=zq.2;⟨Hf,S,fun v Hf1 H1 g1 r1=>k st Hf1 H1 g1.a7 (S.grow g1)⟩
theorem ax (n:Nat){x:Str}{pos':Pos}(hN:X.N.Nodup)(he:EE X G dl e d)(hi:X.N[n]?=some x:=by rfl)(hx:Loc X.env.scope x:=by first | exact LV rfl | exact LJ rfl)(hs:swapsWith e (some (.Name x pos')) pos.line X.env=pure false:=by rfl)(hf:X.fn x=true\/X.env.scope.names.lookup x=some .local:=by first | exact .inl rfl | exact .inr rfl | assumption):ES X G E dl (.Assign [.Name x pos'] e pos) (.nx (dl.set n (.val d))):=
 nS (tZ hN hi hx he hs hf) fun D st H zq=>k3 zq fun Hf zq=>have S:=zq.1;have k:=zq.2;⟨Hf,S,fun v Hf1 H1 g1 r1=>k _ Hf1 H1 g1.a7 ((S.grow g1).set r1)⟩
inductive gG (X:Cx)(G:Gr)(E:XK)(body:List Stmt)(S:Nat->List Slot)(pre:Nat->List Slot)(n m:Nat):Out->Prop
 | all (h:m=n):gG X G E body S pre n m (.nx (S n))
 | rt {d:Dt} (h:m < n) (hb:ji X G E (pre m) body (.rt d)):gG X G E body S pre n m (.rt d)
 | ro {d:Own} (h:m < n) (hb:ji X G E (pre m) body (.ro d)):gG X G E body S pre n m (.ro d)
 | bk {dl':List Slot} (h:m < n) (hb:ji X G E (pre m) body (.bk dl')):gG X G E body S pre n m (.nx dl')
 | ex {c:Value} {fs:List (Str×Dt)} (h:m < n) (hb:ji X G E (pre m) body (.ex c fs)):gG X G E body S pre n m (.ex c fs)
inductive Goes (X:Cx)(G:Gr)(E:XK)(body:List Stmt)(pre post:List Slot):Prop
 | nx {dl':List Slot} (hb:ji X G E pre body (.nx dl')) (l:Le post dl')
 | ct {dl':List Slot} (hb:ji X G E pre body (.ct dl')) (l:Le post dl')
def uO (X:Cx)(G:Gr)(E:XK)(body:List Stmt):TS:=fun D st H=>∃ pre o,ji X G E pre body o/\tO X.K G E pre o D st H
theorem jW {body:List Stmt}:qd X body (uO X G E body):=fun pins s st H D J ⟨pre,o,h,q⟩=>h pins s st H D J q
theorem ik {body:List Stmt}{pre post:List Slot}{D:Ends}{st:L2.St}{Hf H:Hp}(g:Goes X G E body pre post)(S:bW X.K G st Hf H pre)(hn:∀ st ar H,aw Hf ar->bW X.K G st ar H post->D.nx st H)(hc:∀ st ar H,aw Hf ar->bW X.K G st ar H post->D.ct st H):uO X G E body D st H:=by
 cases g with
 | nx hb l=>exact⟨_,_,hb,Hf,S,fun eM ar H' s' S'=>hn eM ar H' s' (S'.weak l)⟩
 | ct hb l=>exact⟨_,_,hb,Hf,S,fun eM ar H' s' S'=>hc eM ar H' s' (S'.weak l)⟩
theorem lh {body:List Stmt}{S pre:Nat->List Slot}{n m:Nat}{D D':Ends}{st:L2.St}{Hf H:Hp}(e:gG X G E body S pre n m o)(hm:m < n)(S':bW X.K G st Hf H (pre m))(k:kO X.K G E D Hf o)(hr:D'.rt=D.rt)(uP:D'.bk=D.nx):uO X G E body D' st H:=by
 cases e with
 | all h=>omega
 | rt h hb=>exact⟨_,_,hb,Hf,S',by show ∀ v Hf H,_->_->D'.rt v H;rw[hr];exact k⟩
 | ro h hb=>exact⟨_,_,hb,Hf,S',by show ∀ v Hf H,_->_->_->_->D'.rt _ H;rw[hr];exact k⟩
 | bk h hb=>exact⟨_,_,hb,Hf,S',by show ∀ v Hf H,_->_->D'.bk v H;rw[uP];exact k⟩
 | ex h hb=>exact⟨_,_,hb,Hf,S',k⟩
theorem uQ (nN:Nat){x:Str}{px:Pos}{body:List Stmt}{lo:Int}{n m:Nat}(S:Nat->List Slot)(hN:X.N.Nodup)(jX:X.calm=true)(hp:PassesOwn (model X.prog X.w) X.A X.env X.xe){wi:TI}{iter:Expr}(hI:PI X (.Name x px) iter wi)(hw:∀ st Hf H R,bW X.K G st Hf H dl->(∀ ar H',aL Hf H ar H'->R (zL lo n) H')->wi st H R)(h0:Le (S 0) dl)(Gs:m<=n)(hb:∀ k,k < m->Goes X G E body ((S k).set nN (.val (.int (lo+k)))) (S (k+1)))(he:gG X G E body S (fun k=>(S k).set nN (.val (.int (lo+k)))) n m o)(hi:X.N[nN]?=some x:=by rfl)(hx:Loc X.env.scope x:=by first | exact LV rfl | exact LJ rfl)(hf:X.fn x=true\/X.env.scope.names.lookup x=some .local:=by first | exact .inl rfl | exact .inr rfl | assumption)(hs:∀ x,foldedSetIterable iter X.env x=pure x:=by intro _;rfl):ES X G E dl (.For (.Name x px) iter body [] pos) o:=by
 refine nS (oX hp jX hI (aU hN hi hx hf) (jW (G:=G) (E:=E)) hs) fun D st H ⟨Hf,S0,k⟩=>hw st Hf H _ S0 fun ar H' g=>?_
 refine rP (lo:=lo) (n:=n) (fun j st H=>j<=m/\∃ Hf1,aw Hf Hf1/\bW X.K G st Hf1 H (S j)) ⟨LD _,ar,g.a7,(S0.grow g).weak h0⟩ (fun j st H hj ⟨KU,Hf1,s1,Sj⟩=>?_) (fun st H ⟨Jq,Hf1,s1,Sn⟩=>?_)
 . have Sp:bW X.K G (st.set nN (some (.int (lo+j)))) Hf1 H ((S j).set nN (.val (.int (lo+j)))):=Sj.set (.int _)
   by_cases bM:j < m
   . exact ik (hb j bM) Sp (fun st aR H s2 S'=>⟨bM,aR,s1.trans s2,S'⟩) (fun st aR H s2 S'=>⟨bM,aR,s1.trans s2,S'⟩)
   . have e:j=m:=by omega
     subst e
     exact lh he hj Sp (k.mono s1) rfl rfl
 . have e:m=n:=by omega
   subst e
   cases he with
   | all _=>exact k st Hf1 H s1 Sn
   | rt h _=>omega
   | ro h _=>omega
   | bk h _=>omega
   | ex h _=>omega
theorem fi (nN:Nat){x:Str}{p px pc:Pos}{body:List Stmt}{n:Int}{m:Nat}(S:Nat->List Slot)(hN:X.N.Nodup)(jX:X.calm=true)(hp:PassesOwn (model X.prog X.w) X.A X.env X.xe)(E4:X.mg "range"=none)(ha:EA X G dl [a] [.int n])(hn:-(2 ^ 62)<=n/\n < 2 ^ 62)(h0:Le (S 0) dl)(Gs:m<=n.toNat)(hb:∀ k:Nat,k < m->Goes X G E body ((S k).set nN (.val (.int k))) (S (k+1)))(he:gG X G E body S (fun k=>(S k).set nN (.val (.int k))) n.toNat m o)(hg:Gl X "range":=by rfl)(hi:X.N[nN]?=some x:=by rfl)(hx:Loc X.env.scope x:=by first | exact LV rfl | exact LJ rfl)(hf:X.fn x=true\/X.env.scope.names.lookup x=some .local:=by first | exact .inl rfl | exact .inr rfl | assumption)(Gu:starEach [a] X.env=[(false,eval a X.env)]:=by rfl)(hs:∀ z,foldedSetIterable (.Call (.Name "range" p) [a] [] pc) X.env z=pure z:=by intro _;rfl):ES X G E dl (.For (.Name x px) (.Call (.Name "range" p) [a] [] pc) body [] pos) o:=by
 have ez:∀ k:Nat,(0:Int)+k=k:=fun k=>Int.zero_add _
 have eS:(fun k:Nat=>(S k).set nN (.val (.int ((0:Int)+k))))=fun k:Nat=>(S k).set nN (.val (.int k)):=by funext k;rw[ez]
 refine uQ nN (lo:=0) (n:=n.toNat) (m:=m) S hN jX hp (rM hg E4 ha Gu) (fun st Hf H R S0 h=>⟨Hf,S0,fun vs Hf1 H1 g1 r1=>?_⟩) h0 Gs (fun k hk=>by rw[ez];exact hb k hk) (by rw[eS];exact he) hi hx hf hs
 cases r1 with
 | cons r t=>cases t;cases r;exact⟨n,rfl,hn.1,hn.2,h Hf1 H1 g1⟩
inductive Res where
 | ret (d:Dt)
 | own (w:Own)
 | exc (c:Value) (fs:List (Str×Dt))
def DC (K:W.Frag)(Hf H:Hp)(Q:VK)(E:XK):Res->Prop
 | .ret d=>∀ v ar H',aL Hf H ar H'->Rep K ar v d->Q v H'
 | .own w=>∀ p ar H',aL Hf H ar H'->H p=none->ar p=none->cb K ar H' p w->Q (.ref p) H'
 | .exc c fs=>∀ od ar H',aL Hf H ar H'->ExcAt K ar od fs->E c od H'
def uR (K:W.Frag)(n:Nat)(R:List Dt->Res->Prop):Sp:=fun vs H Q E=>∃ Hf ds r,aw Hf H/\aS K Hf vs ds/\ds.length=n/\R ds r/\DC K Hf H Q E r
def tL (CX:hX):Prop:=∀ outer H s e s',CX outer H s E0 e s'->False
theorem aZ:tL HQ:=fun _ _ _ _ _ h=>h
theorem tL.passes {CX:hX}(n:tL CX):Passes CX X E0:=fun _ _ _ _ _ _ _ h=>(n _ _ _ _ _ h).elim
noncomputable def slots (N:List Str)(ds:List Dt):List Slot:=ds.map Slot.val ++ LR (N.length - ds.length) .bb
theorem lj {K:W.Frag}{N:List Str}{Hf H:Hp}{vs:List V}{ds:List Dt}(s:aw Hf H)(r:aS K Hf vs ds):bW K ⟨Hf,H⟩ (start N vs) Hf H (slots N ds):=by
 have hl:=r.length
 have lS:∀ (i:Nat) o,(slots N ds)[i]?≠some (.own o):=fun i o h=>by
   unfold slots at h
   by_cases hi:i < ds.length
   . rw[Lx (by simpa using hi),J7] at h
     cases e:ds[i]? with
     | none=>rw[e] at h;cases h
     | some a=>rw[e] at h;cases h
   . rw[Ly (by simpa using hi),LW] at h
     split at h <;> cases h
 refine⟨.refl s,?_,fun i d h=>?_,fun i o h=>absurd h (lS i o),fun i j o o' a h=>absurd h (lS i o)⟩
 . unfold L2.start slots
   simp[hl]
 . unfold slots at h
   by_cases hi:i < ds.length
   . rw[Lx (by simpa using hi),J7] at h
     cases e:ds[i]? with
     | none=>rw[e] at h;cases h
     | some a=>
       rw[e] at h;cases h
       obtain⟨v,h1,h2⟩:=r.get e
       refine⟨v,?_,h2⟩
       unfold L2.start
       rw[Lx (by simp;omega),J7,h1];rfl
   . rw[Ly (by simpa using hi),LW] at h
     split at h <;> cases h
inductive Comes:Out->Res->Prop
 | rt (d:Dt):Comes (.rt d) (.ret d)
 | ro (d:Own):Comes (.ro d) (.own d)
 | nx (dl:List Slot):Comes (.nx dl) (.ret .aW)
 | kn {dl:List Slot} {d:Dt} (h:∀ K G st Hf H,bW K G st Hf H dl->Rep K Hf .aW d):Comes (.nx dl) (.ret d)
 | ex (c:Value) (fs:List (Str×Dt)):Comes (.ex c fs) (.exc c fs)
theorem Comes.ends {K:W.Frag}{Hf H:Hp}{Q:VK}{o:Out}{r:Res}(h:Comes o r)(k:DC K Hf H Q E r):kO K ⟨Hf,H⟩ E { nx:=fun _ H'=>Q .aW H',rt:=Q} Hf o:=by
 cases h with
 | rt d=>exact k
 | ro d=>exact k
 | nx dl=>exact fun st ar H' s' S=>k _ ar H' S.gr .aW
 | kn h=>exact fun st ar H' s' S=>k _ ar H' S.gr (h _ _ _ _ _ S)
 | ex c fs=>exact k
theorem jY {P:Program}{w:World}{K:W.Frag}{mg:Str->Option Value}{base:Heap}{CX:hX}{x qual:Str}{st:Stmt}{f:Addr}{fd:FuncData}{N ps:List Str}{k n:Nat}{R:List Dt->Res->Prop}(F:CF K x qual st f fd)(S:av N ps (ag st))(hn:ps.length=n)(gz:∀ (bj:Value) (A:Around) (outer:List Env) (s:Shared) (H:Hp) (E:XK) (G:Gr) (ds:List Dt) (r:Res),bI k (A.deeper (envOfC qual (ag st) s.heap.objs.size f bj))->ds.length=n->R ds r->∃ o,Comes o r/\ji (l4 CX P w K mg base N qual (ag st) f bj A outer s H E) G E (slots N ds) (aD st) o):df P w K mg base CX (k+1) f fd ps (uR K n R):=by
 obtain⟨oc,od,kV,doc,pm,an,bj,ct,k7,rfl,lk,eE⟩:=F.ex
 refine ur lk eE S (fun vs H Q E ⟨Hf,ds,r,s,rp,hl,_⟩=>by rw[rp.length,hl,hn]) fun A outer s H vs Q E hr ⟨Hf,ds,r,sm,rp,hl,hR,hk⟩=>?_
 obtain⟨o,hc,hb⟩:=gz bj A outer s H E ⟨Hf,H⟩ ds r hr hl hR
 exact⟨_,hb,Hf,lj sm rp,hc.ends hk⟩
section
variable {CX:hX}{k n:Nat}{f C:Addr}{fd:FuncData}{ps:List Str}{R:List Dt->Res->Prop}{m:Str}{p apos:Pos}{ob:Expr}{dvs:List Dt}{vds:List V}{xF:List Value}{fs:List (Str×Dt)}
theorem yh (F:df X.prog X.w X.K X.mg X.base CX k f fd ps (uR X.K n R))(nx:tL CX)(hr:bI k X.A)(hm:X.mg x=some (.ref f))(hk:W.keepIn X.K (.ref f)=true)(hb:Binds X.K fd ps xF)(hd:Vals vds xF)(Bi:∀ H,aS X.K H vds dvs)(ha:EA X G dl (e::es) ds)(hl:(ds ++ dvs).length=n)(h:R (ds ++ dvs) (.ret d))(hg:Gl X x:=by rfl)(eP:(x == ("__debug__":Str))=false:=by decide)(he:starEach (e::es) X.env=(false,eval e X.env)::starEach es X.env:=by rfl)(fP:(backTo pos (starEach es X.env)).any (·.1)=false:=by rfl):EE X G dl (.Call (.Name x p) (e::es) [] pos) d:=
 cy (qj (E:=E0) F hr hg hm hk hb hd nx.passes ha eP he fP) fun st H Q zq=>k3 zq fun Hf zq=>have S:=zq.1;have k:=zq.2;⟨Hf,S,fun vs Hf1 H1 g1 r1=>⟨Hf1,ds ++ dvs,.ret d,g1.sub,r1.append (Bi _),hl,h,fun v aR H2 g2 r2=>k v aR H2 (g1.trans g2) r2⟩⟩
theorem qv {pl:Sem Bool}(he:EE X G dl ob (.obj C fs))(c:l3 X.K C)(hm:Meth X.K C m f)(F:df X.prog X.w X.K X.mg X.base CX k f fd ps (uR X.K n R))(nx:tL CX)(hr:bI k X.A)(hb:Binds X.K fd ps xF)(hd:Vals vds xF)(Bi:∀ H,aS X.K H vds dvs)
   (ha:EA X G dl (e::es) ds) (hl:(.obj C fs::(ds ++ dvs)).length=n) (h:R (.obj C fs::(ds ++ dvs)) (.ret d)) (ll:fs.lookup m=none)
   (nB:starEach (e::es) X.env=(false,eval e X.env)::starEach es X.env:=by rfl) (fP:(backTo pos (starEach es X.env)).any (·.1)=false:=by rfl)
   (ht:eval (.Call (.Attribute ob m apos) (e::es) [] pos) X.env=(do
     let ov <- eval ob X.env
     standAt apos.atName
     let (f,first) <- holding [ov] (getMethod ov m pl)
     callWith pos f first (backTo pos (starEach (e::es) X.env)) (backToKw pos (keywordEach [] X.env))):=by rfl):EE X G dl (.Call (.Attribute ob m apos) (e::es) [] pos) d:=
 cy (xY (pl:=pl) (E:=E0) he c hm F hr hb hd nx.passes ha nB fP ht) fun st H Q zq=>k3 zq fun Hf zq=>have S:=zq.1;have k:=zq.2;⟨Hf,S,fun v Hf1 H1 g1 r1=>by
   cases r1 with
   | @obj a _ dx fv _ q r=>
     exact⟨a,dx,fv,rfl,dj g1.sub q,r.none_of ll,Hf1,S.grow g1,fun vs aR H2 g2 r2=>⟨aR,_,.ret d,g2.sub,.cons (.obj (dj g2.a7 q) (r.mono g2.a7)) (r2.append (Bi _)),hl,h,fun v fR H3 g3 r3=>k v fR H3 ((g1.trans g2).trans g3) r3⟩⟩⟩
theorem uS {pl:Sem Bool}(he:EE X G dl ob (.obj C fs))(c:l3 X.K C)(hm:Meth X.K C m f)(F:df X.prog X.w X.K X.mg X.base CX k f fd ps (uR X.K n R))(nx:tL CX)(hr:bI k X.A)(hb:Binds X.K fd ps xF)(hd:Vals vds xF)(Bi:∀ H,aS X.K H vds dvs)
   (hl:(Dt.obj C fs::dvs).length=n) (h:R (.obj C fs::dvs) (.ret d)) (ll:fs.lookup m=none)
   (ht:eval (.Call (.Attribute ob m apos) [] [] pos) X.env=(do
     let ov <- eval ob X.env
     standAt apos.atName
     let (f,first) <- holding [ov] (getMethod ov m pl)
     callWith pos f first (backTo pos (starEach [] X.env)) (backToKw pos (keywordEach [] X.env))):=by rfl):EE X G dl (.Call (.Attribute ob m apos) [] [] pos) d:=
 cy (uo (pl:=pl) (E:=E0) he c hm F hr hb hd nx.passes ht) fun st H Q zq=>k3 zq fun Hf zq=>have S:=zq.1;have k:=zq.2;⟨Hf,S,fun v Hf1 H1 g1 r1=>by
   cases r1 with
   | @obj a _ dx fv _ q r=>
     exact⟨a,dx,fv,rfl,dj g1.sub q,r.none_of ll,Hf1,_,.ret d,g1.sub,.cons (.obj q r) (Bi _),hl,h,fun v fR H3 g3 r3=>k v fR H3 (g1.trans g3) r3⟩⟩
end
end
section
variable {X:Cx}{G:Gr}{dl:List Slot}{a b c e:Expr}{i j:Int}{d d1 d2:Dt}{ds:List Dt}{pos p:Pos}{o:Out}{x y f:Str}{u v:Bool}{s:Stmt}{C:Addr}{fs:List (Str×Dt)}
theorem qw {T:String}(hm:X.mg x=none)(hv:bootBuiltins x=some (.type T))(hg:Gl X x:=by rfl)(hn:x≠"__name__":=by decide)(hd:(x == ("__debug__":Str))=false:=by decide):EE X G dl (.Name x pos) (.ty T):=
 cy (xM (v:=.ty T) hg hm hv rfl hn hd) fun st H Q zq=>k3 zq fun Hf zq=>have S:=zq.1;have k:=zq.2;k _ Hf H (.refl S.sub) (.ty T)
theorem jl {w:V}{z:Value}(hm:X.mg x=some z)(r:RelV w z)(hr:∀ H,Rep X.K H w d)(hg:Gl X x:=by rfl)(hd:(x == ("__debug__":Str))=false:=by decide):EE X G dl (.Name x pos) d:=
 cy (xK hg hm r hd) fun st H Q zq=>k3 zq fun Hf zq=>have S:=zq.1;have k:=zq.2;k _ Hf H (.refl S.sub) (hr _)
theorem boot_int:bootBuiltins "int"=some (.type "int"):=by decide +kernel
theorem boot_bool:bootBuiltins "bool"=some (.type "bool"):=by decide +kernel
theorem boot_str:bootBuiltins "str"=some (.type "str"):=by decide +kernel
theorem boot_tuple:bootBuiltins "tuple"=some (.type "tuple"):=by decide +kernel
theorem boot_list:bootBuiltins "list"=some (.type "list"):=by decide +kernel
structure Bj (K:W.Frag)(C:Addr):Prop where
 makes:W.makesIn K C=true
 init:W.findIn K (.ref C) "__init__"=some (some (.builtin "object.__init__"))
 kp:W.keepIn K (.ref C)=true
theorem sf {pins:List (Addr×Obj)}{st:L2.St}{H:Hp}{s:Shared}{Q:VK}(M:Bj X.K C)(I:L2.Inv X pins st H s)(h:∀ x dx,H x=none->H dx=none->dx≠x->Q (.ref x) (upd (upd H dx (.own x)) x (.ins C dx []))):wpAny (model X.prog X.w) X.A (call (.ref C) []) (EP X pins st Q) X.xe s:=by
 have hq:=h (s.heap.objs.size+1) s.heap.objs.size (I.aO.fresh (Mp _)) (I.aO.fresh (G1 _)) (Lq (Mj _))
 have I2:=L2.Inv.made (C:=C) I
 refine wpAny_call (rT (s:=s) I.dW M.makes M.init (fun self=>W.Looks.of_pure (W.oi_bind self)) ?_)
 obtain⟨hh,g,d,t,os⟩:=s
 have Y:=W.makes_of (M:=model X.prog X.w) I.dW M.makes
 have t1:W.Looks (model X.prog X.w) ((hh.push W.emptyDict).push (W.instObj C hh.objs.size)) (typeOf (.ref (hh.objs.size+1))) (.ref C):=by
   have e2:=K3 (hh.push W.emptyDict) (o:=W.instObj C hh.objs.size) rfl
   rw[LZ] at e2
   exact(W.Looks.ld e2).andThen .now
 have t2:W.Looks (model X.prog X.w) ((hh.push W.emptyDict).push (W.instObj C hh.objs.size)) (isInstance (.ref (hh.objs.size+1)) (.type "object")) true:=t1.andThen (Y.top.keeps fun b o e=>k0 _ (k0 _ e))
 refine codeAny_call_builtin W.oi_plain W.entry_oi (@W.check_slot (model X.prog X.w) _ _ _ "object.__init__" "object" "__init__" (.ref (hh.objs.size+1)) [] [] _ W.oi_kind W.oi_split t2 (W.oi_args (.ref (hh.objs.size+1))) ?_)
 rw[W.oi_run]
 exact wpAny_pure (And.intro rfl ⟨V.ref (hh.objs.size+1),_,I2,rfl,hq⟩)
theorem mn (he:EE X G dl e (.obj C fs))(c:l3 X.K C)(n:de X.K C f)(h:fs.lookup f=some d)(hb:attributeBase e f X.env (eval e X.env)=eval e X.env:=by rfl):EE X G dl (.Attribute e f pos) d:=
 cy (uf he hb) fun st H Q zq=>k3 zq fun Hf zq=>have S:=zq.1;have k:=zq.2;⟨Hf,S,fun v Hf1 H1 g1 r1=>by
   cases r1 with
   | @obj a _ dx fv _ q r=>
     obtain⟨y,h1,h2⟩:=r.lookup h
     exact⟨a,C,dx,fv,y,rfl,dj g1.sub q,c,n,h1,k y Hf1 H1 g1 h2⟩⟩
theorem qx (hm:X.mg "len"=none)(ha:EE X G dl a (.lst ds))(hg:Gl X "len":=by rfl)(he:starEach [a] X.env=[(false,eval a X.env)]:=by rfl):EE X G dl (.Call (.Name "len" p) [a] [] pos) (.int ds.length):=
 cy (cf dY hg hm PySem.boot_len (ae ha ai he) (he:=he)) fun st H Q zq=>k3 zq fun Hf zq=>have S:=zq.1;have k:=zq.2;⟨Hf,S,fun vs Hf1 H1 g1 r1=>by
   cases r1 with
   | cons r t=>cases t;cases r with
     | @lst q vs _ z w=>exact⟨q,vs,rfl,.inl (.of (g1.sub _ _ z)),by rw[w.length];exact k _ Hf1 H1 g1 (.int _)⟩⟩
theorem qy {ns:List Int}(hm:X.mg "len"=none)(ha:EE X G dl a (.fQ ns))(hg:Gl X "len":=by rfl)(he:starEach [a] X.env=[(false,eval a X.env)]:=by rfl):EE X G dl (.Call (.Name "len" p) [a] [] pos) (.int ns.length):=
 cy (cf dY hg hm PySem.boot_len (ae ha ai he) (he:=he)) fun st H Q zq=>k3 zq fun Hf zq=>have S:=zq.1;have k:=zq.2;⟨Hf,S,fun vs Hf1 H1 g1 r1=>by
   cases r1 with
   | cons r t=>cases t;cases r with
     | @fQ q _ z=>exact⟨q,_,rfl,.inl (g1.sub.seq z),by rw[Bn];exact k _ Hf1 H1 g1 (.int _)⟩⟩
theorem yi (hm:X.mg "len"=none)(ha:EE X G dl a (.tup ds))(hg:Gl X "len":=by rfl)(he:starEach [a] X.env=[(false,eval a X.env)]:=by rfl):EE X G dl (.Call (.Name "len" p) [a] [] pos) (.int ds.length):=
 cy (cf dY hg hm PySem.boot_len (ae ha ai he) (he:=he)) fun st H Q zq=>k3 zq fun Hf zq=>have S:=zq.1;have k:=zq.2;⟨Hf,S,fun vs Hf1 H1 g1 r1=>by
   cases r1 with
   | cons r t=>cases t;cases r with
     | @tup q vs _ z w=>exact⟨q,vs,rfl,.inr (cg g1.sub z),by rw[w.length];exact k _ Hf1 H1 g1 (.int _)⟩⟩
theorem mq (hm:X.mg "len"=none)(ha:EE X G dl a (.str x))(hl:x.length<=sizeLine)(hg:Gl X "len":=by rfl)(he:starEach [a] X.env=[(false,eval a X.env)]:=by rfl):EE X G dl (.Call (.Name "len" p) [a] [] pos) (.int x.length):=
 cy (cf l9 hg hm PySem.boot_len (ae ha ai he) (he:=he)) fun st H Q zq=>k3 zq fun Hf zq=>have S:=zq.1;have k:=zq.2;⟨Hf,S,fun vs Hf1 H1 g1 r1=>by
   cases r1 with
   | cons r t=>cases t;cases r;exact⟨x,rfl,hl,k _ Hf1 H1 g1 (.int _)⟩⟩
noncomputable def Gv:Dt->Value
 | .aW=>.type "NoneType"
 | .bl _=>.type "bool"
 | .int _=>.type "int"
 | .str _=>.type "str"
 | .tup _=>.type "tuple"
 | .lst _=>.type "list"
 | .fQ _=>.type "list"
 | .bK _=>.type "dict"
 | .obj C _=>.ref C
 | .ty _=>.type "type"
 | .cls _=>.type "type"
 | .xo C=>.ref C
 | .cH _=>.type "dict"
 | .sd C _=>.ref C
 | .gE _=>.type "dict"
 | .memo _ _ _ _=>.type "list"
 | .eG _ _ _ _=>.type "list"
 | .tJ _ _ _=>.type "NoneType"
 | .nP C _ _ _ _=>.ref C
 | _=>.type "object"
structure E5 (K:W.Frag)(C:Addr):Prop where
 cl:l3 K C
 ha:W.findIn K (.ref C) "__class__"=some (some (.builtin "object.__class__"))
 hn:W.specialIn K (.builtin "object.__class__") "__get__"=some (some (.builtin "getset_descriptor.__get__"))
 AO:W.takesIn K (.builtin "object.__class__")=some true
 hm:W.mroIn K C (.type "object")=some true
def Bk (K:W.Frag):Dt->Prop
 | .obj C _=>E5 K C
 | .xo C=>CG K C
 | .sd C _=>CG K C
 | .memo _ _ _ _=>False
 | .eG _ _ _ _=>False
 | .tJ _ _ _=>False
 | .nP C _ _ _ _=>E5 K C
 | .kN _=>False
 | .bE _=>False
 | .ty _=>False
 | .cls _=>False
 | _=>True
noncomputable def DD:Dt->Option Value
 | .ty n=>some (.type n)
 | .cls C=>some (.ref C)
 | _=>none
theorem uT {pins:List (Addr×Obj)}{st:L2.St}{Hf H:Hp}{s:Shared}{Q:Value->Shared->Prop}{w:V}{z c:Value}{r:Bool}(I:L2.Inv X pins st H s)(sm:aw Hf H)(rp:Rep X.K Hf w d)(rx:RelV w z)(t:Bk X.K d)(e:W.kitOne X.K (Gv d) c=some r)(h:∀ tk,Q (.bool r) { s with toks:=tk}):wpAny (model X.prog X.w) X.A (call (.builtin "isinstance") [z,c]) Q X.xe s:=by
 cases rp with
 | aW=>cases (show z=Value.none from rx);exact W.kia_one W.kitx_none I.dW True.intro e (fun z=>nomatch z) h
 | bl y=>cases (show z=Value.bool y from rx);exact W.kia_one W.kitx_bool I.dW True.intro e (fun z=>nomatch z) h
 | int i=>obtain⟨t,q⟩:=(show ∃ t,z=Value.int i t from rx);cases q;exact W.kia_one W.kitx_int I.dW True.intro e (fun z=>nomatch z) h
 | str y=>obtain⟨t,q⟩:=(show ∃ t,z=Value.str y t from rx);cases q;exact W.kia_one W.kitx_str I.dW True.intro e (fun z=>nomatch z) h
 | @tup a vs ds q rr=>
   cases (show z=Value.ref a from rx)
   obtain⟨aF,_,⟨o,h1,h2,_⟩,_⟩:=I.tuple (cg sm q)
   exact W.kia_one W.kitx_tuple I.dW ⟨o,h1,h2⟩ e (fun z=>nomatch z) h
 | @lst a vs ds q rr=>
   cases (show z=Value.ref a from rx)
   obtain⟨aF,_,⟨o,n,h1,h2,_⟩,_⟩:=I.list (.of (sm _ _ q))
   exact W.kia_one W.kitx_list I.dW ⟨o,h1,h2⟩ e (fun z=>nomatch z) h
 | @fQ a ns q=>
   cases (show z=Value.ref a from rx)
   obtain⟨aF,_,⟨o,n,h1,h2,_⟩,_⟩:=I.list (sm.seq q)
   exact W.kia_one W.kitx_list I.dW ⟨o,h1,h2⟩ e (fun z=>nomatch z) h
 | @bK a kvs kds q rr=>
   cases (show z=Value.ref a from rx)
   exact hV (x:=.ref a) I rfl (.dK (sm _ _ q)) e h
 | @obj a C dx fv fs q rr=>
   cases (show z=Value.ref a from rx)
   have t:E5 X.K C:=t
   exact hV (x:=.ref a) I rfl (.ins (dj sm q) t.cl t.ha t.hn t.AO t.hm) e h
 | ty n=>exact t.elim
 | cls C=>exact t.elim
 | @xo a C ph q hp=>
   cases (show z=Value.ref a from rx)
   have t:CG X.K C:=t
   have ok:aM X.prog X.w H s.heap a (.ext ph):=I.aO a _ (sm _ _ q)
   exact W.kia_one (nO t) I.dW (hp _ ok.1) e (fun z=>nomatch z) h
 | @cH a ob kvs kds q rr=>
   cases (show z=Value.ref a from rx)
   obtain⟨_,_,vs,_,D⟩:=gC (kvs:=kvs) I.aO (.inr (.inl ⟨ob,sm _ _ q⟩))
   exact W.kia_one W.kitx_dict I.dW D.typeIs e (fun z=>nomatch z) h
 | @sd a C dx ph fv fs q hp g rr=>
   cases (show z=Value.ref a from rx)
   have t:CG X.K C:=t
   have ok:aM X.prog X.w H s.heap a (.ext ph):=I.aO a _ (sm _ _ q)
   exact W.kia_one (nO t) I.dW (hp _ ok.1).of e (fun z=>nomatch z) h
 | @gE a tg ob kvs kds q rr=>
   cases (show z=Value.ref a from rx)
   obtain⟨_,_,vs,_,D⟩:=gC (kvs:=kvs) I.aO (.inr (.inr (.inl ⟨tg,ob,kvs,sm _ _ q,rfl⟩)))
   exact W.kia_one W.kitx_dict I.dW D.typeIs e (fun z=>nomatch z) h
 | memo=>exact t.elim
 | eG=>exact t.elim
 | kN=>exact t.elim
 | bE=>exact t.elim
 | tJ=>exact t.elim
 | @nP a _ C dx fv fs gs nm n ls _ q rr=>
   cases (show z=Value.ref a from rx)
   have t:E5 X.K C:=t
   exact hV (x:=.ref a) I rfl (.ins (dj sm q) t.cl t.ha t.hn t.AO t.hm) e h
theorem boot_isinstance:bootBuiltins "isinstance"=some (.builtin "isinstance"):=by decide +kernel
def Gw (K:W.Frag)(d d2:Dt)(r:Bool):List V->Hp->VK->Prop:=fun xs H Q=>∃ Hf w c,xs=[w,c]/\aw Hf H/\Rep K Hf w d/\Rep K Hf c d2/\Q (.bl r) H
theorem uU {r:Bool}{z:Value}(hc:DD d2=some z)(t:Bk X.K d)(h:W.kitOne X.K (Gv d) z=some r):eN X (.builtin "isinstance") (Gw X.K d d2 r):=by
 intro pins s st H xs us Q I rv ⟨Hf,w,c,e,sm,r1,r2,q⟩
 subst e
 cases rv with
 | cons q1 t1=>
   cases t1 with
   | cons q2 t2=>
     cases t2
     rename_i ud uc
     have ez:uc=z:=by
       cases r2 with
       | ty n=>cases hc;exact q2
       | cls C=>cases hc;exact q2
       | _=>cases hc
     subst ez
     exact uT I sm r1 q1 t h fun tk=>⟨.bl r,H,I.tok _,rfl,q⟩
theorem mv {r:Bool}{z:Value}(hm:X.mg "isinstance"=none)(ha:EE X G dl a d)(hb:EE X G dl b d2)(hc:DD d2=some z)(t:Bk X.K d)(h:W.kitOne X.K (Gv d) z=some r)(hg:Gl X "isinstance":=by rfl)(he:starEach [a,b] X.env=(false,eval a X.env)::starEach [b] X.env:=by rfl)(DE:starEach [b] X.env=[(false,eval b X.env)]:=by rfl)(fP:(backTo pos (starEach [b] X.env)).any (·.1)=false:=by rfl):EE X G dl (.Call (.Name "isinstance" p) [a,b] [] pos) (.bl r):=
 cy (cf (uU hc t h) hg hm boot_isinstance (ae ha (ae hb ai DE) he) (by decide) (by decide) he fP) fun st H Q zq=>k3 zq fun Hf zq=>have S:=zq.1;have k:=zq.2;⟨Hf,S,fun vs Hf1 H1 g1 r1=>by
   cases r1 with
   | cons r1 t1=>cases t1 with
     | cons r2 t2=>cases t2;exact⟨Hf1,_,_,rfl,g1.sub,r1,r2,k _ Hf1 H1 g1 (.bl _)⟩⟩
mutual
noncomputable def pd:Dt->PyData
 | .aW=>.none
 | .bl b=>.bool b
 | .int i=>.int i
 | .str x=>.str x
 | .tup ds=>.tuple (xG ds)
 | .lst ds=>.list (xG ds)
 | .fQ _=>.none
 | .bK _=>.none
 | .obj _ _=>.none
 | .ty _=>.none
 | .cls _=>.none
 | .xo _=>.none
 | .cH _=>.none
 | .sd _ _=>.none
 | .gE _=>.none
 | .memo _ _ _ _=>.none
 | .eG _ _ _ _=>.none
 | .tJ _ _ _=>.none
 | .nP _ _ _ _ _=>.none
 | .kN _=>.none
 | .bE _=>.none
noncomputable def xG:List Dt->List PyData
 | []=>[]
 | d::r=>pd d::xG r
end
mutual
noncomputable def plain:Dt->Bool
 | .tup ds=>f6 ds
 | .lst ds=>f6 ds
 | .fQ _=>false
 | .bK _=>false
 | .obj _ _=>false
 | .ty _=>false
 | .cls _=>false
 | .xo _=>false
 | .cH _=>false
 | .sd _ _=>false
 | .gE _=>false
 | .memo _ _ _ _=>false
 | .eG _ _ _ _=>false
 | .tJ _ _ _=>false
 | .nP _ _ _ _ _=>false
 | .kN _=>false
 | .bE _=>false
 | .aW=>true
 | .bl _=>true
 | .int _=>true
 | .str _=>true
noncomputable def f6:List Dt->Bool
 | []=>true
 | d::r=>plain d && f6 r
end
section
variable {pins:List (Addr×Obj)}{st:L2.St}{Hf H:Hp}{s:Shared}
mutual
theorem jZ (I:L2.Inv X pins st H s)(sm:aw Hf H):∀ {w:V} {d:Dt} {z:Value},Rep X.K Hf w d->plain d=true->RelV w z->∃ as,Reads s.heap z (pd d) as
 | _,_,z,.aW,_,r=>by cases (show z=Value.none from r);exact⟨_,.none⟩
 | _,_,z,.bl b,_,r=>by cases (show z=Value.bool b from r);exact⟨_,.bool b⟩
 | _,_,z,.int i,_,r=>by obtain⟨t,q⟩:=(show ∃ t,z=Value.int i t from r);cases q;exact⟨_,.int i t⟩
 | _,_,z,.str x,_,r=>by obtain⟨t,q⟩:=(show ∃ t,z=Value.str x t from r);cases q;exact⟨_,.str x t⟩
 | _,_,z,@Rep.tup _ _ a vs ds q rr,h,r=>by
   cases (show z=Value.ref a from r)
   obtain⟨aF,rv,⟨o,h1,h2,n,h3⟩,_⟩:=I.tuple (cg sm q)
   obtain⟨as,ra⟩:=il I sm rr (by rw[plain] at h;exact h) rv
   refine⟨as,?_⟩
   rw[pd]
   exact .tuple h1 h2 h3 (by simpa using ra)
 | _,_,z,@Rep.lst _ _ a vs ds q rr,h,r=>by
   cases (show z=Value.ref a from r)
   obtain⟨aF,rv,⟨o,n,h1,h2,_,h3⟩,_⟩:=I.list (.of (sm _ _ q))
   obtain⟨as,ra⟩:=il I sm rr (by rw[plain] at h;exact h) rv
   refine⟨a::as,?_⟩
   rw[pd]
   exact .list h1 h2 h3 (by simpa using ra)
 | _,_,_,.bK _ _,h,_=>by rw[plain] at h;cases h
 | _,_,_,.fQ _,h,_=>by rw[plain] at h;cases h
 | _,_,_,.obj _ _,h,_=>by rw[plain] at h;cases h
 | _,_,_,.ty _,h,_=>by rw[plain] at h;cases h
 | _,_,_,.cls _,h,_=>by rw[plain] at h;cases h
 | _,_,_,.xo _ _,h,_=>by rw[plain] at h;cases h
 | _,_,_,.cH _ _,h,_=>by rw[plain] at h;cases h
 | _,_,_,.sd _ _ _ _,h,_=>by rw[plain] at h;cases h
 | _,_,_,.gE _ _,h,_=>by rw[plain] at h;cases h
 | _,_,_,.memo _ _ _ _,h,_=>by rw[plain] at h;cases h
 | _,_,_,.eG _ _ _ _,h,_=>by rw[plain] at h;cases h
 | _,_,_,.tJ _,h,_=>by rw[plain] at h;cases h
 | _,_,_,.nP _ _ _,h,_=>by rw[plain] at h;cases h
 | _,_,_,.kN _,h,_=>by rw[plain] at h;cases h
 | _,_,_,.bE _,h,_=>by rw[plain] at h;cases h
theorem il (I:L2.Inv X pins st H s)(sm:aw Hf H):∀ {vs:List V} {ds:List Dt} {zs:List Value},aS X.K Hf vs ds->f6 ds=true->Vals vs zs->∃ as,ReadsAll s.heap zs (xG ds) as
 | _,_,_,.nil,_,.nil=>⟨[],by rw[xG];exact .nil⟩
 | _,_,_,.cons r t,h,.cons q w=>by
   rw[f6,LX] at h
   obtain⟨as,h1⟩:=jZ I sm r h.1 q
   obtain⟨bs,h2⟩:=il I sm t h.2 w
   exact⟨as ++ bs,by rw[xG];exact .cons h1 h2⟩
end
end
def Bl (d:Dt):Prop:=plain d=true/\SeqAt.shaped (pd d)=true
def DF (K:PySem.W.Frag)(d1 d2:Dt)(g:Bool->Bool):R2:=fun x y H Q=>∃ Hf,aw Hf H/\Rep K Hf x d1/\Rep K Hf y d2/\Bl d1/\Bl d2/\Q (.bl (g (PyData.eqv (pd d1) (pd d2)))) H
theorem Bm (hu:X.A.units+64 < cLine):gk X (compareOp .NotEq) (DF X.K d1 d2 (!·)):=by
 intro pins s st H x y v w Q I rx ry ⟨Hf,sm,r1,r2,o1,o2,q⟩
 obtain⟨as,h1⟩:=jZ I sm r1 o1.1 rx
 obtain⟨bs,h2⟩:=jZ I sm r2 o2.1 ry
 exact ne_dataH h1 h2 o1.2 o2.2 hu ⟨.bl _,H,I,rfl,q⟩
theorem Bo {K:W.Frag}{g:Bool->Bool}(o1:Bl d1)(o2:Bl d2):qt K (DF K d1 d2 g) d1 d2 (.bl (g (PyData.eqv (pd d1) (pd d2)))):=fun v w Hf H Q s r1 r2 k=>⟨Hf,s,r1,r2,o1,o2,k _ Hf H (.refl s) (.bl _)⟩
mutual
theorem eqv_refl:∀ d:Dt,plain d=true->PyData.eqv (pd d) (pd d)=true
 | .aW,_=>by simp[pd,PyData.eqv]
 | .bl b,_=>by simp[pd,PyData.eqv]
 | .int i,_=>by simp[pd,PyData.eqv]
 | .str x,_=>by simp[pd,PyData.eqv]
 | .tup ds,h=>by rw[plain] at h;rw[pd,PyData.eqv];exact ip ds h
 | .lst ds,h=>by rw[plain] at h;rw[pd,PyData.eqv];exact ip ds h
 | .bK _,h=>by rw[plain] at h;cases h
 | .fQ _,h=>by rw[plain] at h;cases h
 | .obj _ _,h=>by rw[plain] at h;cases h
 | .ty _,h=>by rw[plain] at h;cases h
 | .cls _,h=>by rw[plain] at h;cases h
 | .xo _,h=>by rw[plain] at h;cases h
 | .cH _,h=>by rw[plain] at h;cases h
 | .sd _ _,h=>by rw[plain] at h;cases h
 | .gE _,h=>by rw[plain] at h;cases h
 | .memo _ _ _ _,h=>by rw[plain] at h;cases h
 | .eG _ _ _ _,h=>by rw[plain] at h;cases h
 | .tJ _ _ _,h=>by rw[plain] at h;cases h
 | .nP _ _ _ _ _,h=>by rw[plain] at h;cases h
theorem ip:∀ ds:List Dt,f6 ds=true->PyData.eqvAll (xG ds) (xG ds)=true
 | [],_=>by simp[xG,PyData.eqvAll]
 | d::r,h=>by
   rw[f6,LX] at h
   rw[xG,PyData.eqvAll,eqv_refl d h.1,ip r h.2];rfl
end
theorem z0 (hr:X.A.units+64 < cLine)(ha:EE X G dl a d1)(hb:EE X G dl b d2)(o1:Bl d1)(o2:Bl d2)(hu:(!PyData.eqv (pd d1) (pd d2))=u):EB X G dl (.Compare a [.NotEq] [b] pos) u:=by
 subst hu;exact d0 (Bm hr) (Bo (g:=(!·)) o1 o2) (dn _) ha hb
theorem uV (ha:EE X G dl a (.int i))(hb:EE X G dl b (.int j)):EB X G dl (.Compare a [.Lt] [b] pos) (decide (i < j)):=d0 zQ (iO (g':=fun i j=>.bl (decide (i < j))) fun _ _ _ _=>.bl _) (dn _) ha hb
theorem qz (ha:EE X G dl a (.int i))(hb:EE X G dl b (.int j)):EB X G dl (.Compare a [.Gt] [b] pos) (decide (j < i)):=d0 C7 (iO (g':=fun i j=>.bl (decide (j < i))) fun _ _ _ _=>.bl _) (dn _) ha hb
theorem DG (ha:EE X G dl a (.int i))(hb:EE X G dl b (.int j)):EB X G dl (.Compare a [.GtE] [b] pos) (decide (j<=i)):=d0 C8 (iO (g':=fun i j=>.bl (decide (j<=i))) fun _ _ _ _=>.bl _) (dn _) ha hb
theorem j0 {K:W.Frag}{w1 w2:V}{g:Bool->Bool}(h1:∀ H w,Rep K H w d1->w=w1)(h2:∀ H w,Rep K H w d2->w=w2)(hs:xR w1 w2=true):qt K (fun x y H Q=>xR x y=true/\Q (.bl (g (decide (x=y)))) H) d1 d2 (.bl (g (decide (w1=w2)))):=fun v w Hf H Q s r1 r2 k=>by
 cases h1 _ _ r1;cases h2 _ _ r2;exact⟨hs,k _ Hf H (.refl s) (.bl _)⟩
theorem ff (i j:Int):decide (V.int i=V.int j)=decide (i=j):=by simp
theorem gw (i j:Str):decide (V.str i=V.str j)=decide (i=j):=by simp
theorem iq (ha:EE X G dl a (.int i))(hb:EE X G dl b (.int j)):EE X G dl (.Compare a [.Eq] [b] pos) (.bl (decide (i=j))):=by
 rw[<- ff];exact mi t9 (j0 (g:=id) (fun _ _ r=>by cases r;rfl) (fun _ _ r=>by cases r;rfl) rfl) (dn _) ha hb
theorem du (ha:EE X G dl a (.int i))(hb:EE X G dl b (.int j)):EB X G dl (.Compare a [.Eq] [b] pos) (decide (i=j)):=by
 rw[<- ff];exact d0 t9 (j0 (g:=id) (fun _ _ r=>by cases r;rfl) (fun _ _ r=>by cases r;rfl) rfl) (dn _) ha hb
theorem uW (ha:EE X G dl a (.int i))(hb:EE X G dl b (.int j)):EB X G dl (.Compare a [.NotEq] [b] pos) (!decide (i=j)):=by
 rw[<- ff];exact d0 zP (j0 (g:=(!·)) (fun _ _ r=>by cases r;rfl) (fun _ _ r=>by cases r;rfl) rfl) (dn _) ha hb
theorem uX (ha:EE X G dl a (.str x))(hb:EE X G dl b (.str y)):EB X G dl (.Compare a [.Eq] [b] pos) (decide (x=y)):=by
 rw[<- gw];exact d0 t9 (j0 (g:=id) (fun _ _ r=>by cases r;rfl) (fun _ _ r=>by cases r;rfl) rfl) (dn _) ha hb
theorem mw (ha:EE X G dl a (.str x))(hb:EE X G dl b (.str y)):EB X G dl (.Compare a [.NotEq] [b] pos) (!decide (x=y)):=by
 rw[<- gw];exact d0 zP (j0 (g:=(!·)) (fun _ _ r=>by cases r;rfl) (fun _ _ r=>by cases r;rfl) rfl) (dn _) ha hb
end
structure GF (P:Program)(w:World)(K:W.Frag)(mg:Str->Option Value)(base:Heap)(CX:hX)(k:Nat)(x:Str)(n:Nat)(R:List Dt->Res->Prop):Prop where
 ex:∃ f fd ps,df P w K mg base CX k f fd ps (uR K n R)/\mg x=some (.ref f)/\W.keepIn K (.ref f)=true/\Binds K fd ps []
structure MF (P:Program)(w:World)(K:W.Frag)(mg:Str->Option Value)(base:Heap)(CX:hX)(k:Nat)(C:Addr)(m:Str)(n:Nat)(R:List Dt->Res->Prop):Prop where
 cl:l3 K C
 ex:∃ f fd ps,df P w K mg base CX k f fd ps (uR K n R)/\Meth K C m f/\Binds K fd ps []
section
variable {X:Cx}{G:Gr}{dl:List Slot}{e:Expr}{es:List Expr}{d:Dt}{ds:List Dt}{pos p apos:Pos}{x m:Str}{C:Addr}{fs:List (Str×Dt)}{CX:hX}{k k' n:Nat}{R:List Dt->Res->Prop}{ob:Expr}
theorem aN (F:GF X.prog X.w X.K X.mg X.base CX k x n R)(nx:tL CX)(hr:bI k' X.A)(ha:EA X G dl (e::es) ds)(h:R ds (.ret d))(uY:k<=k':=by decide)(hl:ds.length=n:=by rfl)(hg:Gl X x:=by rfl)(eP:(x == ("__debug__":Str))=false:=by decide)(he:starEach (e::es) X.env=(false,eval e X.env)::starEach es X.env:=by rfl)(fP:(backTo pos (starEach es X.env)).any (·.1)=false:=by rfl):EE X G dl (.Call (.Name x p) (e::es) [] pos) d:=by
 obtain⟨f,fd,ps,F,hm,hk,hb⟩:=F.ex
 refine yh (dvs:=[]) (vds:=[]) F nx (hr.mono uY) hm hk hb .nil (fun _=>.nil) ha (by rw[L6];exact hl) (by rw[L6];exact h) hg eP he fP
theorem qA {pl:Sem Bool}(he:EE X G dl ob (.obj C fs))(F:MF X.prog X.w X.K X.mg X.base CX k C m n R)(nx:tL CX)(hr:bI k' X.A)(ha:EA X G dl (e::es) ds)(h:R (.obj C fs::ds) (.ret d))(uY:k<=k':=by decide)(hl:(Dt.obj C fs::ds).length=n:=by rfl)(ll:fs.lookup m=none:=by rfl)
   (nB:starEach (e::es) X.env=(false,eval e X.env)::starEach es X.env:=by rfl) (fP:(backTo pos (starEach es X.env)).any (·.1)=false:=by rfl)
   (ht:eval (.Call (.Attribute ob m apos) (e::es) [] pos) X.env=(do
     let ov <- eval ob X.env
     standAt apos.atName
     let (f,first) <- holding [ov] (getMethod ov m pl)
     callWith pos f first (backTo pos (starEach (e::es) X.env)) (backToKw pos (keywordEach [] X.env))):=by rfl):EE X G dl (.Call (.Attribute ob m apos) (e::es) [] pos) d:=by
 obtain⟨f,fd,ps,Fo,hm,hb⟩:=F.ex
 refine qv (dvs:=[]) (vds:=[]) (pl:=pl) he F.cl hm Fo nx (hr.mono uY) hb .nil (fun _=>.nil) ha (by rw[L6];exact hl) (by rw[L6];exact h) ll nB fP ht
theorem uZ {pl:Sem Bool}(he:EE X G dl ob (.obj C fs))(F:MF X.prog X.w X.K X.mg X.base CX k C m n R)(nx:tL CX)(hr:bI k' X.A)(h:R [.obj C fs] (.ret d))(uY:k<=k':=by decide)(hl:[Dt.obj C fs].length=n:=by rfl)(ll:fs.lookup m=none:=by rfl)
   (ht:eval (.Call (.Attribute ob m apos) [] [] pos) X.env=(do
     let ov <- eval ob X.env
     standAt apos.atName
     let (f,first) <- holding [ov] (getMethod ov m pl)
     callWith pos f first (backTo pos (starEach [] X.env)) (backToKw pos (keywordEach [] X.env))):=by rfl):EE X G dl (.Call (.Attribute ob m apos) [] [] pos) d:=by
 obtain⟨f,fd,ps,Fo,hm,hb⟩:=F.ex
 refine uS (dvs:=[]) (vds:=[]) (pl:=pl) he F.cl hm Fo nx (hr.mono uY) hb .nil (fun _=>.nil) hl h ll ht
end
noncomputable def HS:List Value:=[.type "ValueError",.type "Exception",.type "BaseException",.type "object"]
structure KW (K:W.Frag)(C:Addr):Prop where
 ex:W.excIn K C HS "ValueError.__new__"=true
def mx:Value->Shared->Prop:=fun _ _=>False
theorem yj {P:Program}{w:World}{A:Around}{R:Result->Shared->Prop}{s:Shared}{elt tg iter:Expr}{sc:Scope}{pos:Pos}{it acc:Value}{env:Env}(J:Nat->Shared->Prop)
   (turn:∀ n s,J n s->wpAny (model P w) A (pyNext it) (fun r s1=>match r with
     | none=>R (.ok .next) s1
     | some v=>wpAny (model P w) A (letOwnedTupleGo tg it v) (fun _ s2=>wpAny (model P w) A (assign tg env v) (fun _ s3=>wpAny (model P w) A (eval elt env) (fun x s4=>
         wpAny (model P w) A (call (.builtin "list.append") [acc,x]) (fun _ s5=>∃ m,m < n/\J m s5) mx s4) mx s3) mx s2) mx s1) mx s)
   (n:Nat) (h:J n s):codeAny (model P w) A (.compLoop (.ListComp elt [⟨tg,iter,[],0⟩] sc pos) 0 it acc env) R s:=by
 have off:∀ {B:Value->Shared->Prop} (x:Value) (s':Shared),mx x s'->B x s':=fun _ _ z=>z.elim
 refine codeAny_loop rfl J (fun n s hJ=>?_) n h
 show wpAny _ A ((compTurn (.ListComp elt [⟨tg,iter,[],0⟩] sc pos) 0 it acc env).onRaise (fun x=>(do noteFrame x env;theTreesLotGoes x))) _ _ s
 refine wpAny_noted ?_
 rw[compTurn_list1]
 refine wpAny_bind (wpAny_standAt (wpAny_bind (wpAny_mono (turn n s hJ) (fun r s1 h1=>?_) off)))
 cases r with
 | none=>exact wpAny_pure h1
 | some v=>
   refine wpAny_bind (wpAny_mono h1 (fun _ s2 h2=>wpAny_bind (wpAny_mono h2 (fun _ s3 h3=>wpAny_bind (wpAny_bind ?_)) off)) off)
   exact wpAny_mono h3 (fun x s4 h4=>wpAny_bind (wpAny_mono h4 (fun _ s5 h5=>wpAny_pure (wpAny_pure ⟨rfl,h5⟩)) off)) off
noncomputable def my (cells:List (Str×Addr)):List (Str×NameKind)->List (Str×Addr)->List (Str×Addr)
 | [],cs=>cs
 | (n,k)::r,cs=>if k == .free then my cells r ((n,(cells.lookup n).getD 0)::cs) else my cells r cs
noncomputable def gH (sc:Scope)(env:Env):List (Str×Addr):=my env.cells sc.names []
theorem mz {env:Env}:∀ (l:List (Str×NameKind)) (cs:List (Str×Addr)),(∀ y∈l,y.2=.free->∃ c,env.cells.lookup y.1=some c) ->
   (forIn l cs fun(x:Str×NameKind) r=>(if x.2 == .free then (do let c <- cellOf env x.1;pure (ForInStep.yield ((x.1,c)::r))) else pure (ForInStep.yield r):Sem _))=pure (my env.cells l cs)
 | [],cs,_=>rfl
 | (n,k)::l,cs,h=>by
   have hr:∀ y∈l,y.2=.free->∃ c,env.cells.lookup y.1=some c:=fun y hy=>h y (KY _ hy)
   rw[MK,my]
   by_cases hk:(k == NameKind.free)=true
   . obtain⟨c,hc⟩:=h (n,k) Lu (by simpa using hk)
     have hc:env.cells.lookup n=some c:=hc
     simp only[hk,if_true,cellOf,hc,pure_bind,Option.getD_some]
     exact mz l _ hr
   . simp only[hk,if_false,pure_bind]
     exact mz l _ hr
theorem qB {sc:Scope}{env:Env}(h:∀ y∈sc.names,y.2=.free->∃ c,env.cells.lookup y.1=some c):closureFor sc env=pure (gH sc env):=by
 unfold closureFor gH
 have:=mz (env:=env) sc.names [] h
 simp only[bind_pure]
 refine Eq.trans ?_ this
 congr 1
theorem jm {cells:List (Str×Addr)}{y:Str}{c:Addr}:∀ (l:List (Str×NameKind)) (cs:List (Str×Addr)),(my cells l cs).lookup y=some c->((y,NameKind.free)∈l/\(cells.lookup y).getD 0=c)\/cs.lookup y=some c
 | [],cs,h=>.inr h
 | (n,k)::l,cs,h=>by
   rw[my] at h
   by_cases hk:(k == NameKind.free)=true
   . rw[if_pos hk] at h
     have Jr:k=.free:=by simpa using hk
     subst Jr
     rcases jm l _ h with⟨h1,h2⟩ | h1
     . exact .inl ⟨KY _ h1,h2⟩
     . rw[L9] at h1
       cases q:(y == n) with
       | true=>
         rw[q] at h1
         have e:y=n:=by simpa using q
         subst e
         exact .inl ⟨Lu,Option.some.inj h1⟩
       | false=>rw[q] at h1;exact .inr h1
   . rw[if_neg hk] at h
     rcases jm l _ h with⟨h1,h2⟩ | h1
     . exact .inl ⟨KY _ h1,h2⟩
     . exact .inr h1
theorem dD {cells:List (Str×Addr)}{y:Str}:∀ (l:List (Str×NameKind)) (cs:List (Str×Addr)),((y,NameKind.free)∈l\/∃ c,cs.lookup y=some c)->∃ c,(my cells l cs).lookup y=some c
 | [],cs,h=>by
   rcases h with h | h
   . cases h
   . exact h
 | (n,k)::l,cs,h=>by
   rw[my]
   by_cases hk:(k == NameKind.free)=true
   . rw[if_pos hk]
     refine dD l _ ?_
     rcases h with h | ⟨c,h⟩
     . rcases K4.mp h with h | h
       . cases h;exact .inr ⟨_,by rw[L9,show(y == y)=true by simp]⟩
       . exact .inl h
     . refine .inr ?_
       rw[L9]
       cases q:(y == n) with
       | true=>exact⟨_,rfl⟩
       | false=>exact⟨c,h⟩
   . rw[if_neg hk]
     refine dD l _ ?_
     rcases h with h | h
     . rcases K4.mp h with h | h
       . cases h;exact absurd rfl hk
       . exact .inl h
     . exact .inr h
theorem cA {env:Env}{y:Str}{k:NameKind}:∀ {names:List (Str×NameKind)},(names.map fun(n,k)=>if (k == NameKind.free && env.scope.kind == .function && env.kindOf n == some .cell) then (n,NameKind.cell) else (n,k)).lookup y=some k->∃ k',(y,k')∈names/\(k=k'\/k'=.free)
 | [],h=>by simp at h
 | (n,kk)::r,h=>by
   rw[Lv,L9] at h
   by_cases hc:(kk == NameKind.free && env.scope.kind == .function && env.kindOf n == some .cell)=true
   . simp only[hc,if_true] at h
     cases q:(y == n) with
     | true=>
       have e:y=n:=by simpa using q
       subst e
       have:kk=.free:=by
         have:=hc;simp at this;exact this.1.1
       exact⟨kk,Lu,.inr this⟩
     | false=>
       rw[q] at h
       obtain⟨k',h1,h2⟩:=cA h
       exact⟨k',KY _ h1,h2⟩
   . simp only[hc,Ml,if_false] at h
     cases q:(y == n) with
     | true=>
       have e:y=n:=by simpa using q
       subst e
       rw[q] at h
       exact⟨kk,Lu,.inl (Option.some.inj h).symm⟩
     | false=>
       rw[q] at h
       obtain⟨k',h1,h2⟩:=cA h
       exact⟨k',KY _ h1,h2⟩
theorem f7 {env:Env}{y:Str}:∀ {names:List (Str×NameKind)},names.lookup y=some .free->(names.map fun(n,k)=>if (k == NameKind.free && env.scope.kind == .function && env.kindOf n == some .cell) then (n,NameKind.cell) else (n,k)).lookup y=some .cell \/
   (names.map fun(n,k)=>if (k == NameKind.free && env.scope.kind == .function && env.kindOf n == some .cell) then (n,NameKind.cell) else (n,k)).lookup y=some .free
 | [],h=>by simp at h
 | (n,kk)::r,h=>by
   rw[Lv,L9]
   rw[L9] at h
   cases q:(y == n) with
   | true=>
     rw[q] at h
     have:kk=.free:=Option.some.inj h
     subst this
     by_cases hc:(NameKind.free == NameKind.free && env.scope.kind == .function && env.kindOf n == some .cell)=true
     . left;simp only[hc,if_true];simp[q]
     . right;simp only[hc,Ml,if_false];simp[q]
   | false=>
     rw[q] at h
     have ih:=f7 (env:=env) h
     by_cases hc:(kk == NameKind.free && env.scope.kind == .function && env.kindOf n == some .cell)=true
     . simp only[hc,if_true,q];exact ih
     . simp only[hc,Ml,if_false,q];exact ih
structure cI (X:Cx)(N:List Str)(ix:List Nat)(x:Str)(sc:Scope):Prop where
 nd:N.Nodup
 nm:N=x::ix.map (fun j=>X.N.getD j "")
 kind:sc.kind=.function
 j3:∀ y∈sc.names,y.2≠.cell
 names:∀ y∈sc.names,y.2=.local->sc.names.lookup y.1=some .local
 hx:sc.names.lookup x=some .local
 fr:∀ y∈sc.names,y.2=.free->X.env.kindOf y.1=some .cell\/X.env.kindOf y.1=some .free
 E6:∀ j∈ix,∃ y,X.N[j]?=some y/\sc.names.lookup y=some .free
noncomputable def aK (X:Cx)(N:List Str)(sc:Scope)(C:Addr)(fp:List Addr)(s:Shared)(H:Hp):Cx:=
 { X with N:=N,s₀:=s,H₀:=H,env:=compEnvC sc (gH sc X.env) C X.env,outer:=X.stack,stack:=X.stack,ex:=fp,fn:=fun _=>false,pn:=[],xe:=mx}
noncomputable def frees (ix:List Nat)(st:L2.St):L2.St:=ix.map fun j=>(st[j]?).join
section
variable {X:Cx}{N:List Str}{ix:List Nat}{x:Str}{sc:Scope}{pins:List (Addr×Obj)}{st:L2.St}{H H':Hp}{s s':Shared}{C D:Addr}{fp:List Addr}{h1:Heap}
theorem Bp (B:cI X N ix x sc)(ok:X.Ok):closureFor sc X.env=pure (gH sc X.env):=qB fun y hy hk=>ok.has y.1 (B.fr y hy hk)
theorem j4 (B:cI X N ix x sc)(ok:X.Ok){y:Str}{c:Addr}(h:(gH sc X.env).lookup y=some c):X.env.cells.lookup y=some c/\(y,NameKind.free)∈sc.names:=by
 rcases jm _ _ h with⟨h1,h2⟩ | h1
 . obtain⟨c',h3⟩:=ok.has y (B.fr _ h1 rfl)
   rw[h3] at h2
   cases h2
   exact⟨h3,h1⟩
 . cases h1
theorem mB (B:cI X N ix x sc)(I:L2.Inv X pins st H s)(hC:s.heap.objs.size<=C)(hf:∀ b∈fp,eK X pins H b)(bM:∀ b∈fp,b < s.heap.objs.size):(aK X N sc C fp s H).Ok where
 mod:=I.ok.mod
 kind:=B.kind
 glob:=I.ok.glob
 blt:=I.ok.blt
 above:=hC
 inj:=fun y z c h1 h2=>I.ok.inj y z c (j4 B I.ok h1).1 (j4 B I.ok h2).1
 has:=fun y hy=>by
   have hy:(relabel sc X.env).names.lookup y=some .cell\/(relabel sc X.env).names.lookup y=some .free:=hy
   have:(y,NameKind.free)∈sc.names:=by
     rcases hy with hy | hy
     . obtain⟨k',h1,h2⟩:=cA hy
       rcases h2 with h2 | h2
       . subst h2;exact absurd rfl (B.j3 _ h1)
       . subst h2;exact h1
     . obtain⟨k',h1,h2⟩:=cA hy
       rcases h2 with h2 | h2 <;> subst h2 <;> exact h1
   exact dD _ _ (.inl this)
 CP:=fun y c h=>by cases h
 hd:=I.ok.hd
 frames:=I.ok.frames
 EI:=.inl rfl
 CC:=fun b hb=>⟨Lq (K2 (bM b hb) hC),fun y c h=>(hf b hb).2.2.2.2.1 y c (j4 B I.ok h).1⟩
 bs:=I.bs
 tS:=LA I.ok.tS I.sz
 rH:=fun b o e hb=>by
   rcases (hf b hb).2.2.2.1 with z | z
   . exact I.ok.rH b o e z
   . exact absurd (K2 (KJ e) (LA I.ok.tS z)) (Mc _)
 rJ:=fun b hb z=>by
   rcases K4.mp (I.lV b z) with z | z
   . exact(hf b hb).2.1 z
   . exact(hf b hb).2.2.1 z
 iU:=I.stack
 Aq:=I.lW
theorem si (B:cI X N ix x sc)(I:L2.Inv X pins st H s)(hf:∀ b∈fp,eK X pins H b)(bM:∀ b∈fp,b < s.heap.objs.size)(hC:C=s.heap.objs.size+1)(k:∀ b o,s.heap.get? b=some o->h1.get? b=some o)(hn:h1.Ns C fun _=>none)(hD:h1.get? s.heap.objs.size=some { cls:=.type "list",data:=.seq ([]:List Value).toArray 0}){t':Nat}:L2.Inv (aK X N sc C fp s H) [] (none::frees ix st) (upd H s.heap.objs.size (.lst [])) { s with heap:=h1,toks:=t'}:=by
 have DH:s.heap.objs.size<=C:=by rw[hC];exact Mp _
 have fr:∀ a,s.heap.objs.size<=a->H a=none:=fun a ha=>I.aO.fresh ha
 have ok:=mB B I DH hf bM
 have rK:∀ y c,(gH sc X.env).lookup y=some c->H c=none/\c < s.heap.objs.size/\∃ v,s.heap.IsCell c v:=fun y c h=>by
   have h:=(j4 B I.ok h).1
   obtain⟨v,q⟩:=I.cell y c h
   exact⟨I.gm y c h,q.lt,v,q⟩
 refine⟨ok,rfl,I.bare,Un.laid k (G1 _) (fr _ (G1 _)),⟨_,hn,fun i y v e1 e2 e3=>?_⟩,fun y c h=>?_,?_,fun y c h=>?_,fun p hp=>absurd (show p∈([]:List (Addr×Obj)) from hp) (by simp),?_,?_⟩
 . have e1:N[i]?=some y:=e1
   cases i with
   | zero=>cases e2
   | succ i=>
     rw[B.nm,LY,J7] at e1
     rw[LY] at e2
     unfold frees at e2
     rw[J7] at e2
     cases q:ix[i]? with
     | none=>rw[q] at e1;cases e1
     | some j=>
       rw[q] at e1 e2
       obtain⟨y',DI,DJ⟩:=B.E6 j (MH q)
       have DK:=PySem.mem_of_lookup DJ
       have ey:y=y':=by
         have e1:X.N.getD j ""=y:=Option.some.inj e1
         rw[E2,DI] at e1
         exact e1.symm
       subst ey
       have e2:(st[j]?).join=some v:=Option.some.inj e2
       have Gx:st[j]?=some (some v):=by
         cases q2:st[j]? with
         | none=>rw[q2] at e2;cases e2
         | some z=>rw[q2] at e2;rw[show z=some v from e2]
       have kd:=B.fr _ DK rfl
       have Gy:nu X.env.scope y:=by
         rcases kd with z | z
         . exact .inr (.inl z)
         . exact .inr (.inr z)
       obtain⟨m,_,hl⟩:=I.loc
       obtain⟨u,r,l⟩:=hl j y v DI Gx Gy
       refine⟨u,r,.inr ?_⟩
       rcases l with⟨z,_⟩ | ⟨_,c,hc,ic⟩
       . rcases kd with z' | z' <;> rw[z] at z' <;> cases z'
       . obtain⟨c',oU⟩:=dD (cells:=X.env.cells) sc.names [] (.inl DK)
         have:=(j4 B I.ok oU).1
         rw[hc] at this;cases this
         obtain⟨oc,xC,hd⟩:=ic
         refine⟨?_,c,oU,oc,k _ _ xC,hd⟩
         rcases e3 with e3 | e3 | e3
         . have e3:(relabel sc X.env).names.lookup y=some .local:=e3
           rcases f7 (env:=X.env) DJ with z | z
           . exact absurd (e3.symm.trans z) (by decide)
           . exact absurd (e3.symm.trans z) (by decide)
         . exact .inl e3
         . exact .inr e3
 . obtain⟨_,_,v,oc,xC,hd⟩:=rK y c h
   exact⟨v,oc,k _ _ xC,hd⟩
 . show upd H s.heap.objs.size (.lst []) C=none
   rw[aj (by rw[hC];exact MD _)]
   exact fr _ DH
 . show upd H s.heap.objs.size (.lst []) c=none
   obtain⟨q1,q2,_⟩:=rK y c h
   rw[aj (Lq q2)]
   exact q1
 . exact I.aO.laid k (G1 _) ⟨LD _,[],0,.nil,hD⟩
 . show(none::frees ix st).length=N.length
   rw[B.nm]
   unfold frees
   simp
def Bq (te:TE)(fs:L2.St)(J:It)(D:Addr)(Q:List V->Hp->Prop)(H:Hp):Prop:=
 ∃ W:Nat->Nat->List V->Hp->Prop,(∃ m,W 0 m [] (upd H D (.lst [])))/\∀ i m ys H1,W i m ys H1 ->
   (J.stop i H1/\Q ys H1)\/(J.go i H1/\ys.length < sizeLine/\∀ v H2,J.t6 i H1 v H2->te (some v::fs) H2 fun y H3=>H3 D=some (.lst ys)/\∃ m',m' < m/\W (i+1) m' (ys ++ [y]) (upd H3 D (.lst (ys ++ [y]))))
theorem yk {elt iter:Expr}{px pos:Pos}{te:TE}{J:It}{it:Addr}{tn:Nat->Heap->Prop}{Q:Addr->List V->Hp->Prop}{RR:Value->Addr->Result->Shared->Prop}{E:Value->Shared->Prop}(hc:X.calm=true)(B:cI X N ix x sc)(f9:∀ C fp s H,PE (aK X N sc C fp s H) elt te)(I:L2.Inv X pins st H s)(T:Turn X.prog X.w X.K (.Name x px) J fp it tn)(h0:tn 0 s.heap)(hf:∀ b∈fp,eK X pins H b)(hq:∀ D,H D=none->Bq te (frees ix st) J D (Q D) H)(Gz:∀ D C ys H' s',L2.Inv X pins st H' s'->(∃ m,s'.heap.Ns C m)->eK X pins H' C->Q D ys H'->RR (.ref D) C (.ok .next) s'):wpAny (model X.prog X.w) X.A (newList []) (fun acc s3=>wpAny (model X.prog X.w) X.A (newFunctionEnv sc X.env.globals (gH sc X.env) [] X.env.qual none .none (some X.env)) (fun u0 s4=>codeAny (model X.prog X.w) X.A (.compStart (.ListComp elt [⟨.Name x px,iter,[],0⟩] sc pos) 0 (.ref it) acc { u0 with scope:=relabel sc X.env}) (RR acc u0.locals) s4) E s3) E s:=by
 have bM:∀ b∈fp,b < s.heap.objs.size:=fun b hb=>by
   obtain⟨o,e,_⟩:=T.obj _ _ h0 b hb
   exact KJ e
 refine wpAny_newObj_type (wpAny_newFunctionEnv B.j3 (fun y hy=>absurd hy (by simp)) (fun h1 xE u5=>?_) B.kind)
 dsimp only at xE u5 ⊢
 generalize hG:s.heap.push { cls:=.type "list",dict:=none,data:=.seq ([]:List Value).toArray}=g at xE u5 ⊢
 have hC:g.objs.size=s.heap.objs.size+1:=by rw[<- hG,LZ]
 have GA:s.heap.objs.size≠g.objs.size:=by rw[hC];exact Lq (Mj _)
 have old:∀ b o,s.heap.get? b=some o->h1.get? b=some o:=fun b o e=>
   u5.extBut b o (by rw[hC];exact Lq (Nat.lt_succ_of_lt (KJ e))) (k0 _ (hG ▸ k0 _ e))
 have Br:h1.get? s.heap.objs.size=some { cls:=.type "list",data:=.seq ([]:List Value).toArray 0}:=u5.extBut _ _ GA (k0 _ (hG ▸ K3 _ rfl))
 have hD:H s.heap.objs.size=none:=I.aO.fresh (G1 _)
 obtain⟨W,⟨m0,w0⟩,turn⟩:=hq _ hD
 have I0:=si (t':=s.toks+([]:List (Str×Value)).length) B I hf bM hC old (by simpa using xE) Br
 have DL:tn 0 h1:=T.keep _ _ _ h0 fun b _ o e=>old b o e
 have mC:s.heap.objs.size<=g.objs.size:=by rw[hC];exact Mp _
 have jJ:∀ {H':Hp},(∀ b∈fp,H' b=none)->∀ b∈fp,eK (aK X N sc g.objs.size fp s H) [] H' b:=fun {H'} hn b hb=>
   ⟨hn b hb,((mB B I mC hf bM).CC b hb).1,(mB B I mC hf bM).rJ b hb,.inl hb,((mB B I mC hf bM).CC b hb).2,fun p hp=>absurd (show p∈([]:List (Addr×Obj)) from hp) (by simp)⟩
 have hN:(aK X N sc g.objs.size fp s H).N[0]?=some x:=by
   show N[0]?=some x
   rw[B.nm];rfl
 have DM:(aK X N sc g.objs.size fp s H).env.scope.names.lookup x=some .local:=lookup_relabel_local B.hx
 have loop:∀ s3:Shared,s3={ s with heap:=h1,toks:=s.toks+([]:List (Str×Value)).length} ->
     codeAny (model X.prog X.w) X.A (.compLoop (.ListComp elt [⟨.Name x px,iter,[],0⟩] sc pos) 0 (.ref it) (.ref s.heap.objs.size) (compEnvC sc (gH sc X.env) g.objs.size X.env)) (RR (.ref s.heap.objs.size) g.objs.size) s3:=by
   rintro s3 rfl
   refine yj (fun n s'=>∃ i ys σ H',L2.Inv (aK X N sc g.objs.size fp s H) [] (σ::frees ix st) H' s'/\tn i s'.heap/\(∀ b∈fp,H' b=none)/\W i n ys H') ?_ m0
     ⟨0,[],none,_,I0,DL,fun b hb=>?_,w0⟩
   . rintro n s5 ⟨i,ys,σ,H5,I5,xO,AF,w5⟩
     rcases turn i n ys H5 w5 with⟨stop,qn⟩ | ⟨go,hz,step⟩
     . refine aT (T.done (aK X N sc g.objs.size fp s H) rfl rfl rfl hc i [] s5 _ H5 mx I5 (jJ AF) xO stop) fun r s6 ⟨hr,I6⟩=>?_
       subst hr
       refine Gz _ _ ys H5 s6 ?_ ?_ (I.lZ mC I6.free) qn
       . exact I.zH I6.os I6.base I6.aO I6.bare fun b hb=>⟨(hf b hb).2.2.2.1,(hf b hb).2.1,(hf b hb).2.2.2.2.1,(hf b hb).2.2.2.2.2⟩
       . obtain⟨m,hm,_⟩:=I6.loc
         exact⟨m,hm⟩
     . refine aT (T.item (aK X N sc g.objs.size fp s H) rfl rfl rfl hc i [] s5 _ H5 mx I5 (jJ AF) xO go) fun r s6 ⟨u,hr,h6⟩=>?_
       subst hr
       refine aT h6 fun _ s7 ⟨v,H7,I7,r7,y7,Bs,GB⟩=>?_
       have GC:=I7.pinned (jJ GB) (T.obj _ _ Bs)
       refine aT (aU (X:=aK X N sc g.objs.size fp s H) (pos:=px) B.nd hN (.inl DM) (.inr DM) _ s7 _ H7 v u (fun σ' H'=>σ'=some v::frees ix st/\H'=H7) GC r7 ⟨rfl,rfl⟩) fun _ s8 h8=>?_
       obtain⟨σ8,H8,I8,rfl,rfl⟩:=h8
       refine aT (f9 g.objs.size fp s H _ s8 _ H8 _ I8 (step v H8 y7)) fun z s9 ⟨y,H9,I9,r9,GD,m',hm,w9⟩=>?_
       refine aT (hZ _ s9 _ H9 (.ref s.heap.objs.size) [y] (.ref s.heap.objs.size) [z] (fun _ H'=>H'=upd H9 s.heap.objs.size (.lst (ys ++ [y]))) I9 rfl (.cons r9 .nil) ⟨_,ys,y,rfl,rfl,GD,hz,rfl⟩) fun _ Js GG=>?_
       obtain⟨_,Jt,Bt,_,rfl⟩:=GG
       refine⟨m',hm,i+1,ys ++ [y],some v,_,Bt.dy (pins:=[]),T.keep _ _ _ Bs fun b hb o e=>(Bt.pin (b,o) (Lw _ (Lw _ (cz hb e)))).1,fun b hb=>?_,w9⟩
       obtain⟨o,e,d⟩:=T.obj _ _ Bs b hb
       exact(Bt.pin (b,o) (Lw _ (Lw _ (cz hb e)))).2.1
   . rw[aj (Lq (bM b hb))]
     exact(hf b hb).1
 exact codeAny_compStart_list (loop _ rfl) (T.self _ 0 _ _ _ DL (loop _ rfl))
end
def GH (K:PySem.W.Frag)(G:Gr)(dl:List Slot)(o:Own):TE:=fun st H Q=>∃ Hf,bW K G st Hf H dl/\∀ p ar H',aL Hf H ar H'->H p=none->ar p=none->cb K ar H' p o->Q (.ref p) H'
abbrev EO (X:Cx)(G:Gr)(dl:List Slot)(e:Expr)(o:Own):Prop:=PE X e (GH X.K G dl o)
noncomputable def z6:Own->Dt
 | .lst ds=>.lst ds
 | .bK k=>.bK k
 | .obj C fs=>.obj C fs
 | .qr _ C fs=>.obj C fs
 | .mh C fs gs nm n=>.nP C fs gs nm n
 | .nQ _ C fs gs nm n=>.nP C fs gs nm n
 | .bE k=>.bE k
section
variable {K:W.Frag}{G:Gr}{st:L2.St}{Hf H ar H':Hp}{dl:List Slot}{p:Addr}{w:Own}{u:HO}
theorem u6 (g:aL Hf H ar H')(n:H p=none)(n':ar p=none)(e:H' p=some u):aL Hf H (upd ar p u) H':=
 ⟨g.big,g.a7.trans (aQ n'),fun b o h=>by
   by_cases hb:b=p
   . subst hb;rw[ak] at h;cases h;exact e
   . rw[aj hb] at h;exact g.sub _ _ h,fun a o h=>by
   by_cases hb:a=p
   . subst hb;exact .inr (.inl n)
   . rw[aj hb] at h;exact g.new a o h⟩
theorem mD (r:cb K Hf H p w)(n:Hf p=none):∃ u,H p=some u/\Rep K (upd Hf p u) (.ref p) (z6 w):=by
 cases w with
 | lst ds=>obtain⟨vs,h,r⟩:=r;exact⟨_,h,.lst ak (r.mono (aQ n))⟩
 | bK ds=>obtain⟨vs,h,r⟩:=r;exact⟨_,h,.bK ak (r.mono (aQ n))⟩
 | obj C ds=>obtain⟨dx,fs,h,r⟩:=r;exact⟨_,h,.obj (.of ak) (r.mono (aQ n))⟩
 | qr x C ds=>obtain⟨_,dx,fs,h,r⟩:=r;exact⟨_,h,.obj (.of ak) (r.mono (aQ n))⟩
 | mh C ds gs nm k=>obtain⟨dx,fs,b,ls,q,h,r⟩:=r;exact⟨_,h,.nP q (.of ak) (r.mono (aQ n))⟩
 | nQ x C ds gs nm k=>obtain⟨_,dx,fs,b,ls,q,h,r⟩:=r;exact⟨_,h,.nP q (.of ak) (r.mono (aQ n))⟩
 | bE ks=>exact⟨_,r,.bE ak⟩
theorem bW.DN (S:bW K G st Hf H dl)(g:aL Hf H ar H'){i:Nat}(n:H p=none)(n':ar p=none)(r:cb K ar H' p w):bW K G (st.set i (some (.ref p))) ar H' (dl.set i (.own w)):=by
 have ln:=S.len
 have S':=S.grow g
 have pn:∀ (j:Nat) (o':Own) (a:Addr),dl[j]?=some (Slot.own o')->st[j]?=some (some (V.ref a))->a≠p:=fun j o' a h1 h2=>by
   obtain⟨b,q1,_,_,q4⟩:=S.own j o' h1
   rw[h2] at q1;cases q1
   obtain⟨u,hu⟩:=q4.some
   exact ao hu n
 refine⟨S'.gr,by simp[S.len],fun j x h=>?_,fun j o' h=>?_,fun j k o1 o2 a h1 h2 h3 h4=>?_⟩
 . by_cases e:i=j
   . subst e
     by_cases hl:i < dl.length
     . rw[Ja hl] at h;cases h
     . rw[LL (by simp;omega)] at h;cases h
   . rw[J4 e] at h ⊢;exact S'.val j x h
 . by_cases e:i=j
   . subst e
     by_cases hl:i < dl.length
     . rw[Ja hl] at h;cases h
       exact⟨p,Ja (by omega),n',S.gr.big.free n,r⟩
     . rw[LL (by simp;omega)] at h;cases h
   . rw[J4 e] at h ⊢
     exact S'.own j o' h
 . by_cases ej:i=j
   . by_cases ek:i=k
     . omega
     . subst ej
       rw[J4 ek] at h2 h4
       by_cases hl:i < st.length
       . rw[Ja hl] at h3;cases h3
         exact absurd rfl (pn k o2 _ h2 h4)
       . rw[LL (by simp;omega)] at h3;cases h3
   . rw[J4 ej] at h1 h3
     by_cases ek:i=k
     . subst ek
       by_cases hl:i < st.length
       . rw[Ja hl] at h4;cases h4
         exact absurd rfl (pn j o1 _ h1 h3)
       . rw[LL (by simp;omega)] at h4;cases h4
     . rw[J4 ek] at h2 h4
       exact S.tK j k o1 o2 a h1 h2 h3 h4
theorem bW.a7 (S:bW K G st Hf H dl){i:Nat}(hd:dl[i]?=some (.own w)):∃ ar,aw Hf ar/\bW K G st ar H (dl.set i (.val (z6 w))):=by
 have ln:=S.len
 obtain⟨p,h1,h2,h3,h4⟩:=S.own i w hd
 obtain⟨u,hu,rp⟩:=mD h4 h2
 have hl:i < dl.length:=(KP.mp hd).1
 have sm:aw Hf (upd Hf p u):=aQ h2
 refine⟨upd Hf p u,sm,⟨S.gr.big,S.gr.a7.trans sm,fun b o h=>?_,fun a o h=>?_⟩,by simp[S.len],fun j x h=>?_,fun j o' h=>?_,fun j k o1 o2 a q1 q2 q3 q4=>?_⟩
 . by_cases hb:b=p
   . subst hb;rw[ak] at h;cases h;exact hu
   . rw[aj hb] at h;exact S.gr.sub _ _ h
 . by_cases hb:a=p
   . subst hb;exact .inr (.inl h3)
   . rw[aj hb] at h;exact S.gr.new a o h
 . by_cases e:i=j
   . subst e
     rw[Ja hl] at h;cases h
     exact⟨_,h1,rp⟩
   . rw[J4 e] at h
     obtain⟨v,z1,z2⟩:=S.val j x h
     exact⟨v,z1,z2.mono sm⟩
 . by_cases e:i=j
   . subst e;rw[Ja hl] at h;cases h
   . rw[J4 e] at h
     obtain⟨a,z1,z2,z3,z4⟩:=S.own j o' h
     have ne:a≠p:=fun q=>by subst q;exact e (S.tK i j _ _ _ hd h h1 z1)
     exact⟨a,z1,by rw[aj ne];exact z2,z3,z4.grow rfl sm⟩
 . have tr:∀ (j:Nat) o',(dl.set i (.val (z6 w)))[j]?=some (.own o')->dl[j]?=some (.own o'):=fun j o' h=>by
     by_cases e:i=j
     . subst e;rw[Ja hl] at h;cases h
     . rw[J4 e] at h;exact h
   exact S.tK j k _ _ a (tr _ _ q1) (tr _ _ q2) q3 q4
end
section
variable {X:Cx}{G:Gr}{E:XK}{dl:List Slot}{a e:Expr}{i:Int}{ds:List Dt}{pos p:Pos}{o:Out}{x:Str}{u:Bool}{sts:List Stmt}{C:Addr}{w:Own}{fs:List (Str×Dt)}
theorem DO (h:EO X G dl e w):EE X G dl e (z6 w):=cy h fun st H Q zq=>k3 zq fun Hf zq=>have S:=zq.1;have k:=zq.2;⟨Hf,S,fun p ar H' g n n' r=>by
 obtain⟨u,hu,rp⟩:=mD r n'
 exact k _ _ H' (u6 g n n' hu) rp⟩
theorem nT (h:EO X G dl e (.lst ds)):EE X G dl e (.lst ds):=DO h
theorem DP (h:EO X G dl e (.obj C fs)):EE X G dl e (.obj C fs):=DO h
theorem fj (n:Nat){x:Str}{pos':Pos}(hN:X.N.Nodup)(he:EO X G dl e w)(hi:X.N[n]?=some x:=by rfl)(hx:Loc X.env.scope x:=by first | exact LV rfl | exact LJ rfl)(hs:swapsWith e (some (.Name x pos')) pos.line X.env=pure false:=by rfl)(hf:X.fn x=true\/X.env.scope.names.lookup x=some .local:=by first | exact .inl rfl | exact .inr rfl | assumption):ES X G E dl (.Assign [.Name x pos'] e pos) (.nx (dl.set n (.own w))):=
 nS (tZ hN hi hx he hs hf) fun D st H zq=>k3 zq fun Hf zq=>have S:=zq.1;have k:=zq.2;⟨Hf,S,fun p Hf1 H1 g1 n1 n2 r1=>k _ Hf1 H1 g1.a7 (S.DN g1 n1 n2 r1)⟩
theorem yl (h:EO X G dl e w):ES X G E dl (.Return (some e) pos) (.ro w):=nS (oV h) fun D st H zq=>k3 zq fun Hf zq=>have S:=zq.1;have k:=zq.2;⟨Hf,S,fun p Hf1 H1 g1 n1 n2 r1=>k p Hf1 H1 (S.gr.trans g1) (S.gr.big.free n1) n2 r1⟩
theorem mE (n:Nat)(hd:dl[n]?=some (.own w):=by rfl)(hN:X.N[n]?=some x:=by rfl)(hv:nu X.env.scope x:=by first | exact LV rfl | exact LJ (LV rfl) | exact LJ (LJ rfl))(hb:(x == ("__debug__":Str))=false:=by decide)(eE:(x == ("__classdict__":Str))=false:=by decide):ES X G E dl (.Return (some (.Name x p)) pos) (.ro w):=
 nS (oV (jE hN hv hb eE)) fun D st H zq=>k3 zq fun Hf zq=>have S:=zq.1;have k:=zq.2;by
   obtain⟨q,h1,h2,h3,h4⟩:=S.own n w hd
   exact⟨_,h1,k q Hf H S.gr h3 h2 h4⟩
theorem pv (i:Nat)(h:ji X G E (dl.set i (.val (z6 w))) sts o)(hd:dl[i]?=some (.own w):=by rfl):ji X G E dl sts o:=uJ h fun D st H zq=>k3 zq fun Hf zq=>have S:=zq.1;have k:=zq.2;by
 obtain⟨ar,sm,S'⟩:=S.a7 hd
 exact⟨ar,S',k.mono sm⟩
def GI (K:W.Frag)(G:Gr)(dl:List Slot)(n:Nat)(w:Own):TE:=fun st H Q=>∃ Hf a,bW K G st Hf H dl/\st[n]?=some (some (.ref a))/\Hf a=none/\cb K Hf H a w/\Q (.ref a) H
theorem iQ (n:Nat)(hd:dl[n]?=some (.own w))(hN:X.N[n]?=some x)(hv:nu X.env.scope x)(hb:(x == ("__debug__":Str))=false)(eE:(x == ("__classdict__":Str))=false):PE X (.Name x p) (GI X.K G dl n w):=
 cy (jE hN hv hb eE) fun st H Q ⟨Hf,a,S,h1,_,_,q⟩=>⟨_,h1,q⟩
end
section
variable {X:Cx}{G:Gr}{E:XK}{dl:List Slot}{a b e:Expr}{es:List Expr}{i j:Int}{d:Dt}{ds:List Dt}{pos p apos bo:Pos}{x:Str}
theorem pz (h:EA X G dl es ds)(hl:ds.length<=sizeLine:=by decide):EO X G dl (.List es pos) (.lst ds):=
 cy (um h) fun st H Q zq=>k3 zq fun Hf zq=>have S:=zq.1;have k:=zq.2;⟨Hf,S,fun vs Hf1 H1 g1 r1=>⟨by rw[r1.length];exact hl,fun p hp=>k p Hf1 _ (g1.trans (.cN g1.sub hp)) (g1.big.free hp) (g1.sub.free hp) ⟨vs,ak,r1⟩⟩⟩
theorem sj:bootBuiltins "min"=some (.builtin "min"):=by decide +kernel
theorem Bu (hm:X.mg "min"=none)(hc:X.calm=true)(ha:EA X G dl [a,b] [.int i,.int j])(hg:Gl X "min":=by rfl)(he:starEach [a,b] X.env=(false,eval a X.env)::starEach [b] X.env:=by rfl)(fP:(backTo pos (starEach [b] X.env)).any (·.1)=false:=by rfl) :
   EE X G dl (.Call (.Name "min" p) [a,b] [] pos) (.int (if j < i then j else i)):=
 cy (cf (rR hc) hg hm sj ha (by decide) (by decide) he fP) fun st H Q zq=>k3 zq fun Hf zq=>have S:=zq.1;have k:=zq.2;⟨Hf,S,fun vs Hf1 H1 g1 r1=>by
   cases r1 with
   | cons r1 t1=>cases t1 with
     | cons r2 t2=>cases t2;cases r1;cases r2;exact⟨i,j,rfl,k _ Hf1 H1 g1 (.int _)⟩⟩
theorem lp (n:Nat){pn:Pos}(he:EE X G dl e d)(hl:ds.length < sizeLine)(hd:dl[n]?=some (.own (.lst ds)):=by rfl)(hN:X.N[n]?=some x:=by rfl)(hv:nu X.env.scope x:=by first | exact LV rfl | exact LJ (LV rfl) | exact LJ (LJ rfl))
   (eP:(x == ("__debug__":Str))=false:=by decide) (eE:(x == ("__classdict__":Str))=false:=by decide)
   (jN:attributeBase (.Name x pn) "append" X.env (eval (.Name x pn) X.env)=eval (.Name x pn) X.env:=by rfl)
   (o9:((backTo bo (starEach [e] X.env)).all (fun x=>!x.1) && (backToKw bo (keywordEach [] X.env)).all (fun x=>x.1.isSome) && decide ([e].length+([]:List Keyword).length+(if ([]:List Keyword).isEmpty then 0 else 1) < 30))=true:=by rfl)
   (jO:(apos.endLine == bo.line)=true:=by rfl) (nB:starEach [e] X.env=(false,eval e X.env)::starEach [] X.env:=by rfl) (hs:swapsWith (.Call (.Attribute (.Name x pn) "append" apos) [e] [] bo) none pos.line X.env=pure false:=by rfl) :
   ES X G E dl (.Expr (.Call (.Attribute (.Name x pn) "append" apos) [e] [] bo) pos) (.nx (dl.set n (.own (.lst (ds ++ [d]))))):=
 nS (qf (zV PySem.F.plainAttrs_list PySem.F.slot_list_append PySem.F.type_list_append hZ (iQ (p:=pn) n hd hN hv eP eE) (ae he ai nB) jN o9 jO nB rfl) hs) fun D st H zq=>k3 zq fun Hf zq=>have S:=zq.1;have k:=zq.2;by
   obtain⟨q,z1,z2,z3,vs,hq,rp⟩:=S.own n _ hd
   refine⟨Hf,q,S,z1,z2,⟨vs,hq,rp⟩,.inl ⟨rfl,vs,.of hq⟩,Hf,S,fun us Hf1 H1 g1 r1=>?_⟩
   cases r1 with
   | cons r1 t1=>
     cases t1
     refine⟨q,vs,_,rfl,rfl,g1.big _ _ hq,by rw[rp.length];exact hl,?_⟩
     exact k st Hf1 _ g1.a7 ((S.grow g1).uI hd z1 ⟨_,ak,(rp.mono g1.a7).append (.cons r1 .nil)⟩)
theorem fk {K:W.Frag}{H:Hp}:∀ {vs:List V} {xs:List Str},aS K H vs (xs.map Dt.str)->vs=xs.map V.str
 | _,[],.nil=>rfl
 | _,x::xs,.cons r t=>by cases r;rw[fk t];rfl
end
noncomputable def nU:Option Slot->Slot
 | some (.val d)=>.val d
 | _=>.bb
theorem lq {o:Option Slot}{w:Own}(h:nU o=.own w):False:=by
 unfold nU at h
 split at h <;> cases h
theorem lr {o:Option Slot}{d:Dt}(h:nU o=.val d):o=some (.val d):=by
 unfold nU at h
 split at h
 . cases h;rfl
 . cases h
noncomputable def cJ (dl:List Slot)(ix:List Nat):List Slot:=ix.map fun j=>nU dl[j]?
section
variable {K:W.Frag}{G:Gr}{st:L2.St}{Hf H Hf1 H1:Hp}{dl:List Slot}{ix:List Nat}
theorem ym (S:bW K G st Hf H dl)(s1:aw Hf Hf1)(sb:aw Hf1 H1){v:V}{d:Dt}(r:Rep K Hf1 v d):bW K ⟨Hf1,H1⟩ (some v::frees ix st) Hf1 H1 (.val d::cJ dl ix):=by
 have no:∀ (i:Nat) o,(Slot.val d::cJ dl ix)[i]?≠some (.own o):=fun i o h=>by
   cases i with
   | zero=>cases h
   | succ i=>
     rw[LY] at h
     unfold cJ at h
     rw[J7] at h
     cases q:ix[i]? with
     | none=>rw[q] at h;cases h
     | some j=>
       rw[q] at h
       exact lq (Option.some.inj h)
 refine⟨.refl sb,by simp[frees,cJ],fun i x h=>?_,fun i o h=>absurd h (no i o),fun i j o o' a h=>absurd h (no i o)⟩
 cases i with
 | zero=>cases h;exact⟨v,rfl,r⟩
 | succ i=>
   rw[LY] at h ⊢
   unfold cJ at h
   unfold frees
   rw[J7] at h ⊢
   cases q:ix[i]? with
   | none=>rw[q] at h;cases h
   | some j=>
     rw[q] at h
     have hd:=lr (Option.some.inj h)
     obtain⟨v',z1,z2⟩:=S.val j x hd
     exact⟨v',by rw[Option.map_some,z1];rfl,z2.mono s1⟩
end
section
variable {X:Cx}{G:Gr}{dl:List Slot}{a b elt iter:Expr}{i j:Int}{ys:List Dt}{zs:Nat->Dt}{pos p px:Pos}{o:Out}{x y:Str}{N:List Str}{ix:List Nat}{sc:Scope}{n:Nat}
def z7 (X:Cx)(N:List Str)(sc:Scope)(dl:List Slot)(ix:List Nat)(elt:Expr)(n:Nat)(zs:Nat->Dt)(ys:List Dt):Prop:=
 ∀ k,k < n->∀ C fp s H G',EE (aK X N sc C fp s H) G' (.val (zs k)::cJ dl ix) elt (ys.getD k .aW)
def Bv (K:W.Frag)(dl:List Slot)(ix:List Nat)(n:Nat)(zs:Nat->Dt)(ys:List Dt):TE:=fun st H Q=>∃ k G',k < n/\tD K G' (.val (zs k)::cJ dl ix) (ys.getD k .aW) st H Q
theorem Bw (h:z7 X N sc dl ix elt n zs ys):∀ C fp s H,PE (aK X N sc C fp s H) elt (Bv X.K dl ix n zs ys):=fun C fp s H pins s' st H' Q I ⟨k,G',hk,q⟩=>h k hk C fp s H G' pins s' st H' Q I q
theorem u7 {st:L2.St}{Hf H:Hp}{J:It}{Q:VK}(S:bW X.K G st Hf H dl)(E7:ys.length=n)(hn:n<=sizeLine)(go:∀ Hf1 H1,aL Hf H Hf1 H1->∀ i,(i < n->J.go i H1/\∀ v H2,J.t6 i H1 v H2->H2=H1/\Rep X.K Hf1 v (zs i))/\(i=n->J.stop i H1))(k:∀ p ar H',aL Hf H ar H'->H p=none->ar p=none->cb X.K ar H' p (.lst ys)->Q (.ref p) H'):∀ D,H D=none->Bq (Bv X.K dl ix n zs ys) (frees ix st) J D (fun _ H'=>Q (.ref D) H') H:=by
 intro D hD
 refine⟨fun i m vs H1=>m=n - i/\i<=n/\∃ Hf1,aL Hf H Hf1 H1/\Hf1 D=none/\H1 D=some (.lst vs)/\aS X.K Hf1 vs (ys.take i),⟨n,rfl,LD _,Hf,.cN S.sub hD,S.sub.free hD,ak,.nil⟩,?_⟩
 rintro i m vs H1 ⟨rfl,hi,Hf1,g1,DQ,CI,rp⟩
 have hlen:=rp.length
 rw[LC] at hlen
 by_cases bM:i < n
 . obtain⟨DR,hy⟩:=(go Hf1 H1 g1 i).1 bM
   refine .inr ⟨DR,by omega,fun v H2 y=>?_⟩
   obtain⟨e,rv⟩:=hy v H2 y
   subst e
   refine⟨i,⟨Hf1,H2⟩,bM,Hf1,ym S g1.a7 g1.sub rv,fun z aR H3 g2 r2=>?_⟩
   have Ju:H3 D=some (.lst vs):=g2.big _ _ CI
   have HU:aR D=none:=by
     cases q:aR D with
     | none=>rfl
     | some u=>
       obtain⟨o,z⟩:=g2.mf CI (fun z=>z) q
       rw[DQ] at z;cases z
   have g:=g1.trans g2
   refine⟨Ju,n - (i+1),by omega,rfl,bM,aR,⟨fun a o h=>?_,g.a7,fun a o h=>?_,g.new⟩,HU,ak,?_⟩
   . rw[aj (ao h hD)];exact g.big _ _ h
   . rw[aj (ao h HU)];exact g2.sub _ _ h
   . have:ys.take (i+1)=ys.take i ++ [ys.getD i .aW]:=by
       rw[L3,E2,fe (by omega)];rfl
     rw[this]
     exact(rp.mono g2.a7).append (.cons r2 .nil)
 . have e:i=n:=by omega
   subst e
   refine .inl ⟨(go Hf1 H1 g1 i).2 rfl,k D Hf1 H1 g1 hD DQ ⟨vs,CI,?_⟩⟩
   rw[L5 (by omega)] at rp
   exact rp
def HV (wi:TI)(ix:List Nat)(te:TE):TE:=fun st H Q=>wi st H fun J H1=>∀ D,H1 D=none->Bq te (frees ix st) J D (fun _ H'=>Q (.ref D) H') H1
theorem DS {wi:TI}{te:TE}(hc:X.calm=true)(B:cI X N ix x sc)(hi:PI X (.Name x px) iter wi)(f9:∀ C fp s H,PE (aK X N sc C fp s H) elt te)(hs:∀ z,foldedSetIterable iter X.env z=pure z):PE X (.ListComp elt [⟨.Name x px,iter,[],0⟩] sc pos) (HV wi ix te):=by
 intro pins s st H Q I h
 rw[eval_ListComp]
 refine wpAny_comprehension_free (use:=none) rfl hs (Bp B I.ok) B.kind B.names (aT (hi pins s st H _ I h) fun v s1 h1=>aT h1 fun CZ s2 h2=>?_)
 obtain⟨it,fp,tn,J,H2,e,I2,T,zO,f2,hq⟩:=h2
 subst e
 refine yk (RR:=fun acc C=>compPost (model X.prog X.w) X.A X.xe none (EP X pins st Q) acc C) hc B f9 I2 T zO f2 hq ?_
 intro D C ws H' s' I' ⟨m,hn⟩ mF q
 exact⟨m,hn,fun h' DT=>⟨.ref D,H',I'.turned (t':=s'.toks) (it:=C) (fun b o hb e=>(DT.2 b hb).trans e) mF.1 mF.2.1 mF.2.2.2.1 mF.2.2.2.2.1 mF.2.2.2.2.2,rfl,q⟩⟩
def Bx (X:Cx)(G:Gr)(dl:List Slot)(n:Nat)(zs:Nat->Dt)(wi:TI):Prop:=∀ st H (R:It->Hp->Prop),(∃ Hf,bW X.K G st Hf H dl/\∀ J u9 H0,aL Hf H u9 H0 ->
 (∀ Hf1 H1,aL u9 H0 Hf1 H1->∀ i,(i < n->J.go i H1/\∀ v H2,J.t6 i H1 v H2->H2=H1/\Rep X.K Hf1 v (zs i))/\(i=n->J.stop i H1))->R J H0)->wi st H R
theorem pA (hn:-(2 ^ 62)<=i/\i < 2 ^ 62/\-(2 ^ 62)<=j/\j < 2 ^ 62):Bx X G dl (j - i).toNat (fun k=>.int (i+k)) (zN (CH X.K G dl [.int i,.int j])):=fun st H R zq=>k3 zq fun Hf zq=>have S:=zq.1;have k:=zq.2;⟨Hf,S,fun vs Hf1 H1 g1 r1=>by
 cases r1 with
 | cons r t=>
   cases r
   cases t with
   | cons r t=>
     cases t;cases r
     refine⟨i,j,rfl,hn,k _ Hf1 H1 g1 fun aR H2 g2 m=>⟨fun hi=>⟨hi,fun v H3 hy=>?_⟩,fun hi=>by rw[hi];exact G1 _⟩⟩
     obtain⟨e1,e2⟩:=hy
     subst e2
     exact⟨e1,.int _⟩⟩
theorem va {wi:TI}(hs:Bx X G dl n zs wi)(E7:ys.length=n)(hn:n<=sizeLine):∀ st H Q,GH X.K G dl (.lst ys) st H Q->HV wi ix (Bv X.K dl ix n zs ys) st H Q:=fun st H Q zq=>k3 zq fun Hf zq=>have S:=zq.1;have k:=zq.2;
 hs st H _ ⟨Hf,S,fun J u9 H0 g0 src=>u7 (S.grow g0) E7 hn src fun p ar H' g n1 n2 r=>k p ar H' (g0.trans g) (g0.big.free n1) n2 r⟩
theorem DU {wi:TI}(hc:X.calm=true)(B:cI X N ix x sc)(hi:PI X (.Name x px) iter wi)(pB:Bx X G dl n zs wi)(f9:z7 X N sc dl ix elt n zs ys)(E7:ys.length=n)(hn:n<=sizeLine)(hs:∀ z,foldedSetIterable iter X.env z=pure z:=by intro _;rfl):EO X G dl (.ListComp elt [⟨.Name x px,iter,[],0⟩] sc pos) (.lst ys):=cy (DS hc B hi (Bw f9) hs) (va pB E7 hn)
end
structure vb (K:W.Frag)(x qual:Str)(st:Stmt)(f:Addr)(fd:FuncData):Prop where
 ex:∃ (oc:Value) (od:Option Addr) (dV kV doc pm:Value) (an:Option Addr) (bj ct:Value) (k7:Array (Option Value)),
   fd=W.fnOf x qual (bp st) (aD st) (ag st) dV kV doc pm an bj ct/\K.lookup f=some ⟨oc,od,.func fd,k7⟩/\W.codeIn K bj qual=true
theorem qC {K:W.Frag}{x qual:Str}{st:Stmt}{f:Addr}{oc:Value}{od an:Option Addr}{k7:Array (Option Value)}{dV kV doc pm bj ct:Value}(l:K.lookup f=some ⟨oc,od,.func (W.fnOf x qual (bp st) (aD st) (ag st) dV kV doc pm an bj ct),k7⟩)(c:W.codeIn K bj qual=true):vb K x qual st f (W.fnOf x qual (bp st) (aD st) (ag st) dV kV doc pm an bj ct):=⟨⟨oc,od,dV,kV,doc,pm,an,bj,ct,k7,rfl,l,c⟩⟩
section
variable {P:Program}{w:World}{K:W.Frag}{mg:Str->Option Value}{base:Heap}{CX:hX}{x qual:Str}{st:Stmt}{f:Addr}{fd:FuncData}{N ps:List Str}{k n:Nat}
theorem Jv {R:List Dt->Res->Prop}(F:vb K x qual st f fd)(S:av N ps (ag st))(hn:ps.length=n)(gz:∀ (bj:Value) (A:Around) (outer:List Env) (s:Shared) (H:Hp) (E:XK) (G:Gr) (ds:List Dt) (r:Res),bI k (A.deeper (envOfC qual (ag st) s.heap.objs.size f bj))->ds.length=n->R ds r->∃ o,Comes o r/\ji (l4 CX P w K mg base N qual (ag st) f bj A outer s H E) G E (slots N ds) (aD st) o):df P w K mg base CX (k+1) f fd ps (uR K n R):=by
 obtain⟨oc,od,dV,kV,doc,pm,an,bj,ct,k7,rfl,lk,eE⟩:=F.ex
 refine ur lk eE S (fun vs H Q E ⟨Hf,ds,r,s,rp,hl,_⟩=>by rw[rp.length,hl,hn]) fun A outer s H vs Q E hr ⟨Hf,ds,r,sm,rp,hl,hR,hk⟩=>?_
 obtain⟨o,hc,hb⟩:=gz bj A outer s H E ⟨Hf,H⟩ ds r hr hl hR
 exact⟨_,hb,Hf,lj sm rp,hc.ends hk⟩
def GJ (K:W.Frag)(C:Addr)(Hf H:Hp)(x:Addr)(Q:VK)(E:XK):Res->Prop
 | .own w=>((∃ fs,w=.obj C fs)\/∃ fs gs nm n,w=.mh C fs gs nm n)/\∀ ar H',aL Hf H ar H'->ar x=none->cb K ar H' x w->Q .aW H'
 | .exc c fs=>∀ od ar H',aL Hf H ar H'->ExcAt K ar od fs->E c od H'
 | .ret _=>False
def HW (K:W.Frag)(C:Addr)(n:Nat)(R:List Dt->Res->Prop):Sp:=fun vs H Q E=>∃ Hf H1 x dx args ds r,vs=.ref x::args/\H=upd H1 x (.ins C dx [])/\H1 x=none/\aw Hf H1/\aS K Hf args ds/\ds.length+1=n/\R ds r/\GJ K C Hf H1 x Q E r
inductive mG (C x:Addr):Out->Res->Prop
 | nx {dl:List Slot} {fs:List (Str×Dt)} (h:dl[0]?=some (.own (.qr x C fs))):mG C x (.nx dl) (.own (.obj C fs))
 | ex (c:Value) (fs:List (Str×Dt)):mG C x (.ex c fs) (.exc c fs)
 | Jw {dl:List Slot} {fs:List (Str×Dt)} {gs:List (Nat->List (Key×FD))} {nm:List Str} {n:Nat} (h:dl[0]?=some (.own (.nQ x C fs gs nm n))):mG C x (.nx dl) (.own (.mh C fs gs nm n))
noncomputable def ir (N:List Str)(x C:Addr)(ds:List Dt):List Slot:=.own (.qr x C [])::(ds.map Slot.val ++ LR (N.length - (ds.length+1)) .bb)
theorem pC {Hf H:Hp}{vs:List V}{ds:List Dt}{x dx C:Addr}(s:aw Hf H)(n:H x=none)(r:aS K Hf vs ds):bW K ⟨Hf,H⟩ (start N (.ref x::vs)) Hf (upd H x (.ins C dx [])) (ir N x C ds):=by
 have hl:=r.length
 have es:start N (V.ref x::vs)=some (.ref x)::(vs.map some ++ LR (N.length - (vs.length+1)) none):=by
   unfold L2.start
   simp
 have lS:∀ (i:Nat) o,(ir N x C ds)[i+1]?≠some (.own o):=fun i o h=>by
   unfold ir at h
   rw[LY] at h
   by_cases hi:i < ds.length
   . rw[Lx (by simpa using hi),J7] at h
     cases e:ds[i]? with
     | none=>rw[e] at h;cases h
     | some a=>rw[e] at h;cases h
   . rw[Ly (by simpa using hi),LW] at h
     split at h <;> cases h
 rw[es]
 refine⟨.cN s n,?_,fun i d h=>?_,fun i o h=>?_,fun i j o o' a h h' _ _=>?_⟩
 . unfold ir
   simp[hl]
 . cases i with
   | zero=>cases h
   | succ i=>
     unfold ir at h
     rw[LY] at h ⊢
     by_cases hi:i < ds.length
     . rw[Lx (by simpa using hi),J7] at h
       cases e:ds[i]? with
       | none=>rw[e] at h;cases h
       | some a=>
         rw[e] at h;cases h
         obtain⟨v,h1,h2⟩:=r.get e
         refine⟨v,?_,h2⟩
         rw[Lx (by simp;omega),J7,h1];rfl
     . rw[Ly (by simpa using hi),LW] at h
       split at h <;> cases h
 . cases i with
   | zero=>
     cases h
     exact⟨x,rfl,s.free n,n,rfl,dx,[],ak,.nil⟩
   | succ i=>exact absurd h (lS i o)
 . cases i with
   | zero=>cases j with
     | zero=>rfl
     | succ j=>exact absurd h' (lS j _)
   | succ i=>exact absurd h (lS i _)
theorem Jx {C:Addr}{R:List Dt->Res->Prop}(F:vb K x qual st f fd)(S:av N ps (ag st))(hn:ps.length=n)(gz:∀ (bj:Value) (A:Around) (outer:List Env) (s:Shared) (H:Hp) (E:XK) (G:Gr) (z:Addr) (ds:List Dt) (r:Res),bI k (A.deeper (envOfC qual (ag st) s.heap.objs.size f bj))->ds.length+1=n->R ds r->∃ o,mG C z o r/\ji (l4 CX P w K mg base N qual (ag st) f bj A outer s H E) G E (ir N z C ds) (aD st) o):df P w K mg base CX (k+1) f fd ps (HW K C n R):=by
 obtain⟨oc,od,dV,kV,doc,pm,an,bj,ct,k7,rfl,lk,eE⟩:=F.ex
 refine ur lk eE S (fun vs H Q E ⟨Hf,H1,z,dx,args,ds,r,e,_,_,_,rp,hl,_⟩=>by rw[e,Lr,rp.length,hl,hn]) fun A outer s H vs Q E hr ⟨Hf,H1,z,dx,args,ds,r,e1,e2,hz,sm,rp,hl,hR,hk⟩=>?_
 subst e1 e2
 obtain⟨o,hc,hb⟩:=gz bj A outer s _ E ⟨Hf,H1⟩ z ds r hr hl hR
 refine⟨_,hb,Hf,pC sm hz rp,?_⟩
 cases hc with
 | nx h=>
   obtain⟨_,kk⟩:=hk
   intro eM ar H' s' S'
   obtain⟨a,_,q2,_,q4⟩:=S'.own 0 _ h
   obtain⟨rfl,Jy,FG,q5,q6⟩:=q4
   exact kk ar H' S'.gr q2 ⟨Jy,FG,q5,q6⟩
 | Jw h=>
   obtain⟨_,kk⟩:=hk
   intro eM ar H' s' S'
   obtain⟨a,_,q2,_,q4⟩:=S'.own 0 _ h
   obtain⟨rfl,q5⟩:=q4
   exact kk ar H' S'.gr q2 q5
 | ex c fs=>exact hk
end
noncomputable def putD (f:Str)(v:Dt):List (Str×Dt)->List (Str×Dt)
 | []=>[(f,v)]
 | (g,x)::r=>if g=f then (g,v)::r else (g,x)::putD f v r
theorem bX.put {K:W.Frag}{H:Hp}{f:Str}{v:V}{d:Dt}(q:Rep K H v d):∀ {vs:List (Str×V)} {ds:List (Str×Dt)},bX K H vs ds->bX K H (dq f v vs) (putD f d ds)
 | _,_,.nil=>.cons q .nil
 | (k,x)::vs,(_,y)::ds,.cons h r=>by
   unfold dq putD
   by_cases e:k=f
   . rw[if_pos e,if_pos e];exact .cons q r
   . rw[if_neg e,if_neg e];exact .cons h (bX.put q r)
section
variable {X:Cx}{G:Gr}{E:XK}{dl:List Slot}{e c:Expr}{es:List Expr}{d:Dt}{ds:List Dt}{pos p apos:Pos}{x m:Str}{C z:Addr}{fs:List (Str×Dt)}{CX:hX}{k k' n:Nat}{R:List Dt->Res->Prop}{ob:Expr}{wo:Own}{dvs:List Dt}{body:List Stmt}
theorem By {fn:Str}{pn:Pos}(he:EE X G dl e d)(cl:l3 X.K C)(na:de X.K C fn)(hd:dl[0]?=some (.own (.qr z C fs)):=by rfl)(hl:Nat.ble fs.length 999=true:=by rfl)(hN:X.N[0]?=some x:=by rfl)(hv:nu X.env.scope x:=by first | exact LV rfl | exact LJ (LV rfl) | exact LJ (LJ rfl))(eP:(x == ("__debug__":Str))=false:=by decide)(eE:(x == ("__classdict__":Str))=false:=by decide)(hs:swapsWith e (some (.Attribute (.Name x pn) fn apos)) pos.line X.env=pure false:=by rfl):ES X G E dl (.Assign [.Attribute (.Name x pn) fn apos] e pos) (.nx (dl.set 0 (.own (.qr z C (putD fn d fs))))):=
 nS (ug (iQ (p:=pn) 0 hd hN hv eP eE) he hs) fun D st H zq=>k3 zq fun Hf zq=>have S:=zq.1;have k:=zq.2;⟨Hf,S,fun v Hf1 H1 g1 r1=>by
   have S1:=S.grow g1
   obtain⟨a,q1,q2,q3,q4⟩:=S1.own 0 _ hd
   obtain⟨e1,dx,fv,q5,q6⟩:=id q4
   refine⟨Hf1,a,S1,q1,q2,q4,a,C,dx,fv,rfl,q5,cl,na,by rw[q6.length];exact Nat.lt_succ_of_le (L8 hl),?_⟩
   exact k st Hf1 _ g1.a7 (S1.uI hd q1 ⟨e1,dx,_,ak,q6.put r1⟩)⟩
structure HX (P:Program)(w:World)(K:W.Frag)(mg:Str->Option Value)(base:Heap)(CX:hX)(k:Nat)(x:Str)(C:Addr)(n:Nat)(R:List Dt->Res->Prop):Prop where
 ex:∃ f fd ps,df P w K mg base CX k f fd ps (HW K C n R)/\L2.Mk K C f/\mg x=some (.ref C)/\Binds K fd ps []
theorem yn (F:HX X.prog X.w X.K X.mg X.base CX k x C n R)(nx:tL CX)(hr:bI k' X.A)(ha:EA X G dl (e::es) ds)(h:R ds (.own (.obj C fs)))(uY:k+1<=k':=by decide)(hl:ds.length+1=n:=by rfl)(hg:Gl X x:=by rfl)(eP:(x == ("__debug__":Str))=false:=by decide)(he:starEach (e::es) X.env=(false,eval e X.env)::starEach es X.env:=by rfl)(fP:(backTo pos (starEach es X.env)).any (·.1)=false:=by rfl):EO X G dl (.Call (.Name x p) (e::es) [] pos) (.obj C fs):=by
 obtain⟨f,fd,ps,Fo,M,hm,hb⟩:=F.ex
 refine cy (xZ (E:=E0) M Fo (hr.mono uY) hg hm hb .nil nx.passes ha eP he fP) fun st H Q zq=>k3 zq fun Hf zq=>have S:=zq.1;have kk:=zq.2;⟨Hf,S,fun vs Hf1 H1 g1 r1 y dx hy GK ne=>?_⟩
 have Jz:(upd H1 dx (.own y)) y=none:=by rw[aj (Ne.symm ne)];exact hy
 have g2:aL Hf1 H1 Hf1 (upd H1 dx (.own y)):=.cN g1.sub GK
 refine⟨Hf1,upd H1 dx (.own y),y,dx,vs ++ [],ds,.own (.obj C fs),rfl,rfl,Jz,g2.sub,by rw[L6];exact r1,hl,h,.inl ⟨fs,rfl⟩,fun ar H' g n1 r=>⟨rfl,?_⟩⟩
 exact kk y ar H' ((g1.trans g2).trans g) (g1.big.free hy) n1 r
theorem qD (F:GF X.prog X.w X.K X.mg X.base CX k x n R)(nx:tL CX)(hr:bI k' X.A)(ha:EA X G dl (e::es) ds)(h:R ds (.own wo))(uY:k<=k':=by decide)(hl:ds.length=n:=by rfl)(hg:Gl X x:=by rfl)(eP:(x == ("__debug__":Str))=false:=by decide)(he:starEach (e::es) X.env=(false,eval e X.env)::starEach es X.env:=by rfl)(fP:(backTo pos (starEach es X.env)).any (·.1)=false:=by rfl):EO X G dl (.Call (.Name x p) (e::es) [] pos) wo:=by
 obtain⟨f,fd,ps,F,hm,hk,hb⟩:=F.ex
 exact cy (qj (E:=E0) F (hr.mono uY) hg hm hk hb .nil nx.passes ha eP he fP) fun st H Q zq=>k3 zq fun Hf zq=>have S:=zq.1;have k:=zq.2;⟨Hf,S,fun vs Hf1 H1 g1 r1=>⟨Hf1,ds,.own wo,g1.sub,by rw[L6];exact r1,hl,h,fun p aR H2 g2 n1 n2 r2=>k p aR H2 (g1.trans g2) (g1.big.free n1) n2 r2⟩⟩
structure HY (P:Program)(w:World)(K:W.Frag)(mg:Str->Option Value)(base:Heap)(CX:hX)(k:Nat)(C:Addr)(m:Str)(n:Nat)(dvs:List Dt)(R:List Dt->Res->Prop):Prop where
 cl:l3 K C
 ex:∃ f fd ps xF vds,df P w K mg base CX k f fd ps (uR K n R)/\Meth K C m f/\Binds K fd ps xF/\Vals vds xF/\∀ H,aS K H vds dvs
theorem Bz {pl:Sem Bool}(he:EE X G dl ob (.obj C fs))(F:HY X.prog X.w X.K X.mg X.base CX k C m n dvs R)(nx:tL CX)(hr:bI k' X.A)(ha:EA X G dl (e::es) ds)(h:R (.obj C fs::(ds ++ dvs)) (.ret d))(uY:k<=k':=by decide)(hl:(Dt.obj C fs::(ds ++ dvs)).length=n:=by rfl)(ll:fs.lookup m=none:=by rfl)
   (nB:starEach (e::es) X.env=(false,eval e X.env)::starEach es X.env:=by rfl) (fP:(backTo pos (starEach es X.env)).any (·.1)=false:=by rfl)
   (ht:eval (.Call (.Attribute ob m apos) (e::es) [] pos) X.env=(do
     let ov <- eval ob X.env
     standAt apos.atName
     let (f,first) <- holding [ov] (getMethod ov m pl)
     callWith pos f first (backTo pos (starEach (e::es) X.env)) (backToKw pos (keywordEach [] X.env))):=by rfl):EE X G dl (.Call (.Attribute ob m apos) (e::es) [] pos) d:=by
 obtain⟨f,fd,ps,xF,vds,Fo,hm,hb,hd,Bi⟩:=F.ex
 exact qv (pl:=pl) he F.cl hm Fo nx (hr.mono uY) hb hd Bi ha hl h ll nB fP ht
def DV (X:Cx)(G:Gr)(c:Expr):TT:=fun st H Q=>∃ dl b,EB X G dl c b/\E1 X.K G dl b st H Q
theorem yo:PT X c (DV X G c):=fun pins s st H Q I ⟨dl,b,h,q⟩=>h pins s st H Q I q
theorem vc (S:Nat->List Slot)(n:Nat)(hp:PassesOwn (model X.prog X.w) X.A X.env X.xe)(h0:Le (S 0) dl)(hc:∀ k,k < n->EB X G (S k) c true)(hn:EB X G (S n) c false)(hb:∀ k,k < n->Goes X G E body (S k) (S (k+1))):ES X G E dl (.While c body [] pos) (.nx (S n)):=by
 refine nS (t5 hp (yo (G:=G)) (jW (G:=G) (E:=E))) fun D st H ⟨Hf,S0,k⟩=>?_
 refine⟨fun m st H=>∃ i,m=n - i/\i<=n/\∃ Hf1,aw Hf Hf1/\bW X.K G st Hf1 H (S i),⟨n,0,rfl,LD _,Hf,aw.refl _,S0.weak h0⟩,?_⟩
 rintro m GL H1 ⟨i,rfl,hi,Hf1,s1,S1⟩
 by_cases bM:i < n
 . refine⟨S i,true,hc i bM,Hf1,S1,fun aR H2 g2=>pf ⟨fun eM H'=>∃ fR,aw Hf fR/\bW X.K G eM fR H' (S (i+1)),fun eM H' h'=>⟨n - (i+1),by omega,i+1,rfl,bM,h'⟩,?_⟩⟩
   exact ik (hb i bM) (S1.grow g2) (fun EM fR H3 s3 S3=>⟨fR,(s1.trans g2.a7).trans s3,S3⟩) (fun EM fR H3 s3 S3=>⟨fR,(s1.trans g2.a7).trans s3,S3⟩)
 . have e:i=n:=by omega
   subst e
   exact⟨S i,false,hn,Hf1,S1,fun aR H2 g2=>pe (k _ aR H2 (s1.trans g2.a7) (S1.grow g2))⟩
end
noncomputable def pD (sc vd:Scope)(XN N:List Str)(ix:List Nat)(x:Str):Bool:=
 decide N.Nodup && (decide (N=x::ix.map (fun j=>XN.getD j "")) && (decide (sc.kind=.function) && (sc.names.all (fun y=>decide (y.2≠.cell)) && (sc.names.all (fun y=>decide (y.2=.local->sc.names.lookup y.1=some .local)) && (decide (sc.names.lookup x=some .local) &&
   (sc.names.all (fun y=>decide (y.2=.free->vd.names.lookup y.1=some .cell\/vd.names.lookup y.1=some .free)) && ix.all (fun j=>decide (sc.names.lookup (XN.getD j "")=some .free) && decide (j < XN.length))))))))
theorem BA {X:Cx}{sc vd:Scope}{XN N:List Str}{ix:List Nat}{x:Str}(h:pD sc vd XN N ix x=true)(e1:X.env.scope=vd:=by rfl)(e2:X.N=XN:=by rfl):cI X N ix x sc:=by
 subst e1 e2
 unfold pD at h
 simp only[LX,ME,decide_eq_true_eq] at h
 obtain⟨h1,h2,h3,h4,h5,h6,h7,h8⟩:=h
 refine⟨h1,h2,h3,h4,h5,h6,h7,fun j hj=>?_⟩
 obtain⟨q1,q2⟩:=h8 j hj
 refine⟨X.N.getD j "",?_,q1⟩
 rw[E2,fe q2];rfl
noncomputable def HZ:Expr->Scope
 | .ListComp _ _ sc _=>sc
 | .Call _ (.ListComp _ _ sc _::_) _ _=>sc
 | _=>{ kind:=.function,names:=[],isGenerator:=false,isCoroutine:=false}
noncomputable def Ia:Stmt->Scope
 | .Assign _ e _=>HZ e
 | .Return (some e) _=>HZ e
 | _=>{ kind:=.function,names:=[],isGenerator:=false,isCoroutine:=false}
theorem j5 (k:Str):∀ xs:List Str,Dn (.str k) (xs.map V.str)=decide (k∈xs)
 | []=>by simp[Dn]
 | x::xs=>by
   have ih:=j5 k xs
   unfold Dn at ih ⊢
   rw[Lv,Mv,ih]
   by_cases e:x=k
   . subst e;simp[xD]
   . have:¬ (k=x):=fun z=>e z.symm
     simp[xD,e,this]
theorem lu (xs:List Str):(xs.map V.str).all gA=true:=by
 induction xs with
 | nil=>rfl
 | cons x xs ih=>rw[Lv,Mu,ih];rfl
section
variable {X:Cx}{G:Gr}{dl:List Slot}{a b:Expr}{pos:Pos}{k:Str}{xs:List Str}
theorem DW {neg:Bool}:qt X.K (EV X.K neg) (.str k) (.tup (xs.map .str)) (.bl (if neg then !decide (k∈xs) else decide (k∈xs))):=fun v w Hf H Q s r1 r2 kk=>by
 cases r1
 cases r2 with
 | @tup q vs _ hq rp=>
   have ev:=fk rp
   subst ev
   refine⟨q,_,rfl,.inr (cg s hq),rfl,lu xs,?_⟩
   rw[j5]
   exact kk _ Hf H (.refl s) (.bl _)
theorem BB (ha:EE X G dl a (.str k))(hb:EE X G dl b (.tup (xs.map .str)))(hm:behindInMarks .In b=false:=by rfl):EB X G dl (.Compare a [.In] [b] pos) (decide (k∈xs)):=d0 k9 (DW (neg:=false)) hm ha hb
end
theorem vf {P:Program}{w:World}{A:Around}{R:Result->Shared->Prop}{s:Shared}{elt tg iter:Expr}{ifs:List Expr}{sc:Scope}{pos:Pos}{it acc:Value}{env:Env}(J:Nat->Shared->Prop)
   (turn:∀ n s,J n s->wpAny (model P w) A (pyNext it) (fun r s1=>match r with
     | none=>R (.ok .next) s1
     | some v=>wpAny (model P w) A (letOwnedTupleGo tg it v) (fun _ s2=>wpAny (model P w) A (assign tg env v) (fun _ s3=>
         wpAny (model P w) A (forIn ifs true fun c r=>if r=true then do let ok <- isTrue c env (eval c env);pure (ForInStep.yield ok) else pure (ForInStep.yield r)) (fun ok GN=>
         if ok=true then wpAny (model P w) A (eval elt env) (fun x s4=>wpAny (model P w) A (call (.builtin "list.append") [acc,x]) (fun _ s5=>∃ m,m < n/\J m s5) mx s4) mx GN
         else ∃ m,m < n/\J m GN) mx s3) mx s2) mx s1) mx s)
   (n:Nat) (h:J n s):codeAny (model P w) A (.compLoop (.ListComp elt [⟨tg,iter,ifs,0⟩] sc pos) 0 it acc env) R s:=by
 have off:∀ {B:Value->Shared->Prop} (x:Value) (s':Shared),mx x s'->B x s':=fun _ _ z=>z.elim
 refine codeAny_loop rfl J (fun n s hJ=>?_) n h
 show wpAny _ A ((compTurn (.ListComp elt [⟨tg,iter,ifs,0⟩] sc pos) 0 it acc env).onRaise (fun x=>(do noteFrame x env;theTreesLotGoes x))) _ _ s
 refine wpAny_noted ?_
 rw[compTurn_list]
 refine wpAny_bind (wpAny_standAt (wpAny_bind (wpAny_mono (turn n s hJ) (fun r s1 h1=>?_) off)))
 cases r with
 | none=>exact wpAny_pure h1
 | some v=>
   refine wpAny_bind (wpAny_mono h1 (fun _ s2 h2=>wpAny_bind (wpAny_mono h2 (fun _ s3 h3=>wpAny_bind (wpAny_mono h3 (fun ok GN Ib=>?_) off)) off)) off)
   cases ok with
   | false=>exact wpAny_pure ⟨rfl,Ib⟩
   | true=>exact wpAny_bind (wpAny_bind (wpAny_mono Ib (fun x s4 h4=>wpAny_bind (wpAny_mono h4 (fun _ s5 h5=>wpAny_pure (wpAny_pure ⟨rfl,h5⟩)) off)) off))
structure j6 (X:Cx)(N tn:List Str)(ix:List Nat)(sc:Scope):Prop where
 nd:N.Nodup
 nm:N=tn ++ ix.map (fun j=>X.N.getD j "")
 kind:sc.kind=.function
 j3:∀ y∈sc.names,y.2≠.cell
 names:∀ y∈sc.names,y.2=.local->sc.names.lookup y.1=some .local
 hx:∀ x∈tn,sc.names.lookup x=some .local
 fr:∀ y∈sc.names,y.2=.free->X.env.kindOf y.1=some .cell\/X.env.kindOf y.1=some .free
 E6:∀ j∈ix,∃ y,X.N[j]?=some y/\sc.names.lookup y=some .free
section
variable {X:Cx}{N tn:List Str}{ix:List Nat}{sc:Scope}{pins:List (Addr×Obj)}{st:L2.St}{H H':Hp}{s s':Shared}{C D:Addr}{fp:List Addr}{h1:Heap}
theorem qE (B:j6 X N tn ix sc)(ok:X.Ok):closureFor sc X.env=pure (gH sc X.env):=qB fun y hy hk=>ok.has y.1 (B.fr y hy hk)
theorem gI (B:j6 X N tn ix sc)(ok:X.Ok){y:Str}{c:Addr}(h:(gH sc X.env).lookup y=some c):X.env.cells.lookup y=some c/\(y,NameKind.free)∈sc.names:=by
 rcases jm _ _ h with⟨h1,h2⟩ | h1
 . obtain⟨c',h3⟩:=ok.has y (B.fr _ h1 rfl)
   rw[h3] at h2
   cases h2
   exact⟨h3,h1⟩
 . cases h1
theorem jn (B:j6 X N tn ix sc)(I:L2.Inv X pins st H s)(hC:s.heap.objs.size<=C)(hf:∀ b∈fp,eK X pins H b)(bM:∀ b∈fp,b < s.heap.objs.size):(aK X N sc C fp s H).Ok where
 mod:=I.ok.mod
 kind:=B.kind
 glob:=I.ok.glob
 blt:=I.ok.blt
 above:=hC
 inj:=fun y z c h1 h2=>I.ok.inj y z c (gI B I.ok h1).1 (gI B I.ok h2).1
 has:=fun y hy=>by
   have hy:(relabel sc X.env).names.lookup y=some .cell\/(relabel sc X.env).names.lookup y=some .free:=hy
   have:(y,NameKind.free)∈sc.names:=by
     rcases hy with hy | hy
     . obtain⟨k',h1,h2⟩:=cA hy
       rcases h2 with h2 | h2
       . subst h2;exact absurd rfl (B.j3 _ h1)
       . subst h2;exact h1
     . obtain⟨k',h1,h2⟩:=cA hy
       rcases h2 with h2 | h2 <;> subst h2 <;> exact h1
   exact dD _ _ (.inl this)
 CP:=fun y c h=>by cases h
 hd:=I.ok.hd
 frames:=I.ok.frames
 EI:=.inl rfl
 CC:=fun b hb=>⟨Lq (K2 (bM b hb) hC),fun y c h=>(hf b hb).2.2.2.2.1 y c (gI B I.ok h).1⟩
 bs:=I.bs
 tS:=LA I.ok.tS I.sz
 rH:=fun b o e hb=>by
   rcases (hf b hb).2.2.2.1 with z | z
   . exact I.ok.rH b o e z
   . exact absurd (K2 (KJ e) (LA I.ok.tS z)) (Mc _)
 rJ:=fun b hb z=>by
   rcases K4.mp (I.lV b z) with z | z
   . exact(hf b hb).2.1 z
   . exact(hf b hb).2.2.1 z
 iU:=I.stack
 Aq:=I.lW
theorem pE (B:j6 X N tn ix sc)(I:L2.Inv X pins st H s)(hf:∀ b∈fp,eK X pins H b)(bM:∀ b∈fp,b < s.heap.objs.size)(hC:C=s.heap.objs.size+1)(k:∀ b o,s.heap.get? b=some o->h1.get? b=some o)(hn:h1.Ns C fun _=>none)(hD:h1.get? s.heap.objs.size=some { cls:=.type "list",data:=.seq ([]:List Value).toArray 0}){t':Nat}:L2.Inv (aK X N sc C fp s H) [] (LR tn.length none ++ frees ix st) (upd H s.heap.objs.size (.lst [])) { s with heap:=h1,toks:=t'}:=by
 have DH:s.heap.objs.size<=C:=by rw[hC];exact Mp _
 have fr:∀ a,s.heap.objs.size<=a->H a=none:=fun a ha=>I.aO.fresh ha
 have ok:=jn B I DH hf bM
 have rK:∀ y c,(gH sc X.env).lookup y=some c->H c=none/\c < s.heap.objs.size/\∃ v,s.heap.IsCell c v:=fun y c h=>by
   have h:=(gI B I.ok h).1
   obtain⟨v,q⟩:=I.cell y c h
   exact⟨I.gm y c h,q.lt,v,q⟩
 refine⟨ok,rfl,I.bare,Un.laid k (G1 _) (fr _ (G1 _)),⟨_,hn,fun i y v e1 e2 e3=>?_⟩,fun y c h=>?_,?_,fun y c h=>?_,fun p hp=>absurd (show p∈([]:List (Addr×Obj)) from hp) (by simp),?_,?_⟩
 . have e1:N[i]?=some y:=e1
   by_cases hi:i < tn.length
   . rw[Lx (by simpa using hi),LW,if_pos hi] at e2
     cases e2
   . have hi:tn.length<=i:=MC hi
     rw[B.nm,Ly hi,J7] at e1
     rw[Ly (by simpa using hi),List.length_replicate] at e2
     unfold frees at e2
     rw[J7] at e2
     cases q:ix[i - tn.length]? with
     | none=>rw[q] at e1;cases e1
     | some j=>
       rw[q] at e1 e2
       obtain⟨y',DI,DJ⟩:=B.E6 j (MH q)
       have DK:=PySem.mem_of_lookup DJ
       have ey:y=y':=by
         have e1:X.N.getD j ""=y:=Option.some.inj e1
         rw[E2,DI] at e1
         exact e1.symm
       subst ey
       have e2:(st[j]?).join=some v:=Option.some.inj e2
       have Gx:st[j]?=some (some v):=by
         cases q2:st[j]? with
         | none=>rw[q2] at e2;cases e2
         | some z=>rw[q2] at e2;rw[show z=some v from e2]
       have kd:=B.fr _ DK rfl
       have Gy:nu X.env.scope y:=by
         rcases kd with z | z
         . exact .inr (.inl z)
         . exact .inr (.inr z)
       obtain⟨m,_,hl⟩:=I.loc
       obtain⟨u,r,l⟩:=hl j y v DI Gx Gy
       refine⟨u,r,.inr ?_⟩
       rcases l with⟨z,_⟩ | ⟨_,c,hc,ic⟩
       . rcases kd with z' | z' <;> rw[z] at z' <;> cases z'
       . obtain⟨c',oU⟩:=dD (cells:=X.env.cells) sc.names [] (.inl DK)
         have:=(gI B I.ok oU).1
         rw[hc] at this;cases this
         obtain⟨oc,xC,hd⟩:=ic
         refine⟨?_,c,oU,oc,k _ _ xC,hd⟩
         rcases e3 with e3 | e3 | e3
         . have e3:(relabel sc X.env).names.lookup y=some .local:=e3
           rcases f7 (env:=X.env) DJ with z | z
           . exact absurd (e3.symm.trans z) (by decide)
           . exact absurd (e3.symm.trans z) (by decide)
         . exact .inl e3
         . exact .inr e3
 . obtain⟨_,_,v,oc,xC,hd⟩:=rK y c h
   exact⟨v,oc,k _ _ xC,hd⟩
 . show upd H s.heap.objs.size (.lst []) C=none
   rw[aj (by rw[hC];exact MD _)]
   exact fr _ DH
 . show upd H s.heap.objs.size (.lst []) c=none
   obtain⟨q1,q2,_⟩:=rK y c h
   rw[aj (Lq q2)]
   exact q1
 . exact I.aO.laid k (G1 _) ⟨LD _,[],0,.nil,hD⟩
 . show(LR tn.length none ++ frees ix st).length=N.length
   rw[B.nm]
   unfold frees
   simp
def DX (X:Cx)(ifs:List Expr)(tt:TT):Prop:=∀ (pins:List (Addr×Obj)) (s:Shared) (st:L2.St) (H:Hp) (Q:Bool->Hp->Prop),L2.Inv X pins st H s->tt st H Q ->
 wpAny (model X.prog X.w) X.A (forIn ifs true fun c r=>if r=true then do let ok <- isTrue c X.env (eval c X.env);pure (ForInStep.yield ok) else pure (ForInStep.yield r)) (fun b s'=>∃ H',L2.Inv X pins st H' s'/\Q b H') X.xe s
theorem yp {c:Expr}{tt:TT}(h:PT X c tt):DX X [c] tt:=fun pins s st H Q I q=>wpAny_tests_one (aT (h pins s st H _ I q) fun b s' z=>z)
def vg (nt:Nat)(g:TG)(tt:TT)(te:TE)(fs:L2.St)(J:It)(D:Addr)(Q:List V->Hp->Prop)(H:Hp):Prop:=
 ∃ W:Nat->Nat->List V->Hp->Prop,(∃ m,W 0 m [] (upd H D (.lst [])))/\∀ i m ys H1,W i m ys H1 ->
   (J.stop i H1/\Q ys H1)\/(J.go i H1/\ys.length < sizeLine/\∀ σ:L2.St,σ.length=nt->∀ v H2,J.t6 i H1 v H2->g v (σ ++ fs) H2 fun σ2 H3=>∃ σ':L2.St,σ2=σ' ++ fs/\σ'.length=nt /\
     tt σ2 H3 fun b H4=>if b=true then te σ2 H4 fun y H5=>H5 D=some (.lst ys)/\∃ m',m' < m/\W (i+1) m' (ys ++ [y]) (upd H5 D (.lst (ys ++ [y]))) else ∃ m',m' < m/\W (i+1) m' ys H4)
theorem nV {elt iter tg:Expr}{ifs:List Expr}{pos:Pos}{g:TG}{tt:TT}{te:TE}{J:It}{it:Addr}{tj:Nat->Heap->Prop}{Q:Addr->List V->Hp->Prop}{RR:Value->Addr->Result->Shared->Prop}{E:Value->Shared->Prop}(hc:X.calm=true)(B:j6 X N tn ix sc)(hg:∀ C fp s H,PG (aK X N sc C fp s H) tg g)(ht:∀ C fp s H,DX (aK X N sc C fp s H) ifs tt)(f9:∀ C fp s H,PE (aK X N sc C fp s H) elt te)(I:L2.Inv X pins st H s)(T:Turn X.prog X.w X.K tg J fp it tj)(h0:tj 0 s.heap)(hf:∀ b∈fp,eK X pins H b)(hq:∀ D,H D=none->vg tn.length g tt te (frees ix st) J D (Q D) H)(Gz:∀ D C ys H' s',L2.Inv X pins st H' s'->(∃ m,s'.heap.Ns C m)->eK X pins H' C->Q D ys H'->RR (.ref D) C (.ok .next) s'):wpAny (model X.prog X.w) X.A (newList []) (fun acc s3=>wpAny (model X.prog X.w) X.A (newFunctionEnv sc X.env.globals (gH sc X.env) [] X.env.qual none .none (some X.env)) (fun u0 s4=>codeAny (model X.prog X.w) X.A (.compStart (.ListComp elt [⟨tg,iter,ifs,0⟩] sc pos) 0 (.ref it) acc { u0 with scope:=relabel sc X.env}) (RR acc u0.locals) s4) E s3) E s:=by
 have bM:∀ b∈fp,b < s.heap.objs.size:=fun b hb=>by
   obtain⟨o,e,_⟩:=T.obj _ _ h0 b hb
   exact KJ e
 refine wpAny_newObj_type (wpAny_newFunctionEnv B.j3 (fun y hy=>absurd hy (by simp)) (fun h1 xE u5=>?_) B.kind)
 dsimp only at xE u5 ⊢
 generalize hG:s.heap.push { cls:=.type "list",dict:=none,data:=.seq ([]:List Value).toArray}=g' at xE u5 ⊢
 have hC:g'.objs.size=s.heap.objs.size+1:=by rw[<- hG,LZ]
 have GA:s.heap.objs.size≠g'.objs.size:=by rw[hC];exact Lq (Mj _)
 have old:∀ b o,s.heap.get? b=some o->h1.get? b=some o:=fun b o e=>
   u5.extBut b o (by rw[hC];exact Lq (Nat.lt_succ_of_lt (KJ e))) (k0 _ (hG ▸ k0 _ e))
 have Br:h1.get? s.heap.objs.size=some { cls:=.type "list",data:=.seq ([]:List Value).toArray 0}:=u5.extBut _ _ GA (k0 _ (hG ▸ K3 _ rfl))
 have hD:H s.heap.objs.size=none:=I.aO.fresh (G1 _)
 obtain⟨W,⟨m0,w0⟩,turn⟩:=hq _ hD
 have I0:=pE (t':=s.toks+([]:List (Str×Value)).length) B I hf bM hC old (by simpa using xE) Br
 have DL:tj 0 h1:=T.keep _ _ _ h0 fun b _ o e=>old b o e
 have mC:s.heap.objs.size<=g'.objs.size:=by rw[hC];exact Mp _
 have jJ:∀ {H':Hp},(∀ b∈fp,H' b=none)->∀ b∈fp,eK (aK X N sc g'.objs.size fp s H) [] H' b:=fun {H'} hn b hb=>
   ⟨hn b hb,((jn B I mC hf bM).CC b hb).1,(jn B I mC hf bM).rJ b hb,.inl hb,((jn B I mC hf bM).CC b hb).2,fun p hp=>absurd (show p∈([]:List (Addr×Obj)) from hp) (by simp)⟩
 have loop:∀ s3:Shared,s3={ s with heap:=h1,toks:=s.toks+([]:List (Str×Value)).length} ->
     codeAny (model X.prog X.w) X.A (.compLoop (.ListComp elt [⟨tg,iter,ifs,0⟩] sc pos) 0 (.ref it) (.ref s.heap.objs.size) (compEnvC sc (gH sc X.env) g'.objs.size X.env)) (RR (.ref s.heap.objs.size) g'.objs.size) s3:=by
   rintro s3 rfl
   refine vf (fun n s'=>∃ i ys σ H',σ.length=tn.length/\L2.Inv (aK X N sc g'.objs.size fp s H) [] (σ ++ frees ix st) H' s'/\tj i s'.heap/\(∀ b∈fp,H' b=none)/\W i n ys H') ?_ m0
     ⟨0,[],LR tn.length none,_,by simp,I0,DL,fun b hb=>?_,w0⟩
   . rintro n s5 ⟨i,ys,σ,H5,hσ,I5,xO,AF,w5⟩
     rcases turn i n ys H5 w5 with⟨stop,qn⟩ | ⟨go,hz,step⟩
     . refine aT (T.done (aK X N sc g'.objs.size fp s H) rfl rfl rfl hc i [] s5 _ H5 mx I5 (jJ AF) xO stop) fun r s6 ⟨hr,I6⟩=>?_
       subst hr
       refine Gz _ _ ys H5 s6 ?_ ?_ (I.lZ mC I6.free) qn
       . exact I.zH I6.os I6.base I6.aO I6.bare fun b hb=>⟨(hf b hb).2.2.2.1,(hf b hb).2.1,(hf b hb).2.2.2.2.1,(hf b hb).2.2.2.2.2⟩
       . obtain⟨m,hm,_⟩:=I6.loc
         exact⟨m,hm⟩
     . refine aT (T.item (aK X N sc g'.objs.size fp s H) rfl rfl rfl hc i [] s5 _ H5 mx I5 (jJ AF) xO go) fun r s6 ⟨u,hr,h6⟩=>?_
       subst hr
       refine aT h6 fun _ s7 ⟨v,H7,I7,r7,y7,Bs,GB⟩=>?_
       have GC:=I7.pinned (jJ GB) (T.obj _ _ Bs)
       refine aT (hg g'.objs.size fp s H _ s7 _ H7 v u _ GC r7 (step σ hσ v H7 y7)) fun _ s8 h8=>?_
       obtain⟨σ8,H8,I8,σ',e8,Ic,h8⟩:=h8
       subst e8
       have pinned:∀ {σ9:L2.St} {H9:Hp} {s9:Shared},L2.Inv (aK X N sc g'.objs.size fp s H) ([] ++ jI fp s7.heap) σ9 H9 s9->tj (i+1) s9.heap/\∀ b∈fp,H9 b=none:=fun {σ9 H9 s9} I9=>by
         refine⟨T.keep _ _ _ Bs fun b hb o e=>(I9.pin (b,o) (Lw _ (Lw _ (cz hb e)))).1,fun b hb=>?_⟩
         obtain⟨o,e,d⟩:=T.obj _ _ Bs b hb
         exact(I9.pin (b,o) (Lw _ (Lw _ (cz hb e)))).2.1
       refine aT (ht g'.objs.size fp s H _ s8 _ H8 _ I8 h8) fun ok JA E8=>?_
       obtain⟨JB,E9,E8⟩:=E8
       cases ok with
       | false=>
         obtain⟨m',hm,w8⟩:=E8
         exact⟨m',hm,i+1,ys,σ',_,Ic,E9.dy (pins:=[]),(pinned E9).1,(pinned E9).2,w8⟩
       | true=>
         refine aT (f9 g'.objs.size fp s H _ JA _ JB _ E9 E8) fun z s9 ⟨y,H9,I9,r9,GD,m',hm,w9⟩=>?_
         refine aT (hZ _ s9 _ H9 (.ref s.heap.objs.size) [y] (.ref s.heap.objs.size) [z] (fun _ H'=>H'=upd H9 s.heap.objs.size (.lst (ys ++ [y]))) I9 rfl (.cons r9 .nil) ⟨_,ys,y,rfl,rfl,GD,hz,rfl⟩) fun _ Js GG=>?_
         obtain⟨_,Jt,Bt,_,rfl⟩:=GG
         exact⟨m',hm,i+1,ys ++ [y],σ',_,Ic,Bt.dy (pins:=[]),(pinned Bt).1,(pinned Bt).2,w9⟩
   . rw[aj (Lq (bM b hb))]
     exact(hf b hb).1
 exact codeAny_compStart_list (loop _ rfl) (T.self _ 0 _ _ _ DL (loop _ rfl))
end
section
variable {K:W.Frag}{G:Gr}{st:L2.St}{Hf H Hf1 H1:Hp}{dl:List Slot}{ix:List Nat}
structure DY (K:W.Frag)(Hf:Hp)(σ:L2.St)(sl:List Slot):Prop where
 len:σ.length=sl.length
 val:∀ (i:Nat) d,sl[i]?=some (.val d)->∃ v,σ[i]?=some (some v)/\Rep K Hf v d
 no:∀ (i:Nat) o,sl[i]?≠some (.own o)
theorem DY.mono {σ:L2.St}{sl:List Slot}(h:DY K Hf σ sl)(s:aw Hf Hf1):DY K Hf1 σ sl:=⟨h.len,fun i d e=>let ⟨v,h1,h2⟩:=h.val i d e;⟨v,h1,h2.mono s⟩,h.no⟩
theorem nW {σ:L2.St}{sl:List Slot}(S:bW K G st Hf H dl)(s1:aw Hf Hf1)(sb:aw Hf1 H1)(r:DY K Hf1 σ sl):bW K ⟨Hf1,H1⟩ (σ ++ frees ix st) Hf1 H1 (sl ++ cJ dl ix):=by
 have no:∀ (i:Nat) o,(sl ++ cJ dl ix)[i]?≠some (.own o):=fun i o h=>by
   by_cases hi:i < sl.length
   . rw[Lx hi] at h
     exact r.no i o h
   . rw[Ly (MC hi)] at h
     unfold cJ at h
     rw[J7] at h
     cases q:ix[i - sl.length]? with
     | none=>rw[q] at h;cases h
     | some j=>
       rw[q] at h
       exact lq (Option.some.inj h)
 refine⟨.refl sb,by simp[frees,cJ,r.len],fun i x h=>?_,fun i o h=>absurd h (no i o),fun i j o o' a h=>absurd h (no i o)⟩
 by_cases hi:i < sl.length
 . rw[Lx hi] at h
   rw[Lx (by rw[r.len];exact hi)]
   exact r.val i x h
 . have hi:=MC hi
   rw[Ly hi] at h
   rw[Ly (by rw[r.len];exact hi),r.len]
   unfold cJ at h
   unfold frees
   rw[J7] at h ⊢
   cases q:ix[i - sl.length]? with
   | none=>rw[q] at h;cases h
   | some j=>
     rw[q] at h
     have hd:=lr (Option.some.inj h)
     obtain⟨v',z1,z2⟩:=S.val j x hd
     exact⟨v',by rw[Option.map_some,z1];rfl,z2.mono s1⟩
def DZ (K:W.Frag)(nt:Nat)(g:TG)(z:Dt)(sl:List Slot):Prop:=∀ (σ fs:L2.St) (Hf H:Hp) (v:V) (Q:L2.St->Hp->Prop),σ.length=nt->aw Hf H->Rep K Hf v z ->
 (∀ σ':L2.St,σ'.length=nt->DY K Hf σ' sl->Q (σ' ++ fs) H)->g v (σ ++ fs) H Q
theorem fm {z:Dt}:DZ K 1 (fS 0) z [.val z]:=fun σ fs Hf H v Q hl s r k=>by
 cases σ with
 | nil=>cases hl
 | cons a σ=>
   have:σ=[]:=List.eq_nil_of_length_eq_zero (by simpa using hl)
   subst this
   refine k [some v] rfl ⟨rfl,fun i d h=>?_,fun i o h=>?_⟩
   . cases i with
     | zero=>cases h;exact⟨v,rfl,r⟩
     | succ i=>cases h
   . cases i with
     | zero=>cases h
     | succ i=>cases h
end
section
variable {X:Cx}{G:Gr}{E:XK}{dl:List Slot}{a b c elt iter tg:Expr}{ifs:List Expr}{i:Int}{pos p px py sk:Pos}{o:Out}{x y:Str}{N tn:List Str}{ix:List Nat}{sc:Scope}{n:Nat}
def iY (X:Cx)(G:Gr)(dl:List Slot)(zs:List Dt)(wi:TI):Prop:=∀ st H (R:It->Hp->Prop),(∃ Hf,bW X.K G st Hf H dl/\∀ J u9 H0,aL Hf H u9 H0 ->
 (∀ Hf1 H1,aw u9 Hf1->aw Hf1 H1->∀ i,(∀ z,zs[i]?=some z->J.go i H1/\∀ v H2,J.t6 i H1 v H2->∃ aR,aL Hf1 H1 aR H2/\Rep X.K aR v z)/\(i=zs.length->J.stop i H1))->R J H0)->wi st H R
theorem dE {xs:List Dt}:iY X G dl xs (zM X.K (tD X.K G dl (.lst xs))):=fun st H R zq=>k3 zq fun Hf zq=>have S:=zq.1;have k:=zq.2;⟨Hf,S,fun v Hf1 H1 g1 r1=>by
 cases r1 with
 | @lst q vs _ hq rp=>
   have hl:=rp.length
   refine⟨q,rfl,⟨vs,.of (g1.sub _ _ hq)⟩,k _ Hf1 H1 g1 fun aR H2 s1 s2 i=>⟨fun z hz=>?_,fun hi=>⟨vs,.of (s2 _ _ (s1 _ _ hq)),by omega⟩⟩⟩
   obtain⟨u,z1,z2⟩:=rp.get hz
   have hs:eF X.K H2 q vs:=.of (s2 _ _ (s1 _ _ hq))
   refine⟨⟨vs,u,hs,z1⟩,fun v H3 hy=>?_⟩
   obtain⟨e1,e2⟩:=hy
   have e2:=e2 vs hs
   rw[z1] at e2;cases e2
   subst e1
   exact⟨aR,.refl s2,z2.mono s1⟩⟩
variable {α:Type}{as:List α}{z f:α->Dt}{sl:α->List Slot}{keep:α->Bool}{g:TG}{wi:TI}
def BC (K:W.Frag)(dl:List Slot)(ix:List Nat)(as:List α)(sl:α->List Slot)(keep:α->Bool):TT:=fun st H Q=>∃ a G',a∈as/\E1 K G' (sl a ++ cJ dl ix) (keep a) st H Q
def BD (K:W.Frag)(dl:List Slot)(ix:List Nat)(as:List α)(sl:α->List Slot)(keep:α->Bool)(f:α->Dt):TE:=fun st H Q=>∃ a G',a∈as/\keep a=true/\tD K G' (sl a ++ cJ dl ix) (f a) st H Q
inductive nX (X:Cx)(N:List Str)(sc:Scope)(dl:List Slot)(ix:List Nat)(as:List α)(sl:α->List Slot)(keep:α->Bool):List Expr->Prop
 | nil:(∀ a∈as,keep a=true)->nX X N sc dl ix as sl keep []
 | one {c:Expr}:(∀ a∈as,∀ C fp s H G',EB (aK X N sc C fp s H) G' (sl a ++ cJ dl ix) c (keep a))->nX X N sc dl ix as sl keep [c]
theorem vh (h:nX X N sc dl ix as sl keep ifs):∀ C fp s H,DX (aK X N sc C fp s H) ifs (BC X.K dl ix as sl keep):=fun C fp s H=>by
 cases h with
 | nil h=>exact fun pins s' st H' Q I ⟨a,G',ha,Hf,S,k⟩=>wpAny_tests_nil ⟨H',I,by have:=k Hf H' (.refl S.sub);rw[h a ha] at this;exact this⟩
 | one h=>exact yp fun pins s' st H' Q I ⟨a,G',ha,q⟩=>h a ha C fp s H G' pins s' st H' Q I q
def BE (X:Cx)(N:List Str)(sc:Scope)(dl:List Slot)(ix:List Nat)(as:List α)(sl:α->List Slot)(keep:α->Bool)(f:α->Dt)(elt:Expr):Prop:=∀ a∈as,keep a=true->∀ C fp s H G',EE (aK X N sc C fp s H) G' (sl a ++ cJ dl ix) elt (f a)
theorem vi (h:BE X N sc dl ix as sl keep f elt):∀ C fp s H,PE (aK X N sc C fp s H) elt (BD X.K dl ix as sl keep f):=fun C fp s H pins s' st H' Q I ⟨a,G',ha,hk,q⟩=>h a ha hk C fp s H G' pins s' st H' Q I q
theorem sq {nt:Nat}{st:L2.St}{Hf H:Hp}{J:It}{Q:VK}(S:bW X.K G st Hf H dl)(hn:as.length<=sizeLine)(yq:∀ a∈as,DZ X.K nt g (z a) (sl a))(go:∀ Hf1 H1,aL Hf H Hf1 H1->∀ i,(∀ y,(as.map z)[i]?=some y->J.go i H1/\∀ v H2,J.t6 i H1 v H2->∃ aR,aL Hf1 H1 aR H2/\Rep X.K aR v y)/\(i=(as.map z).length->J.stop i H1))(k:∀ p ar H',aL Hf H ar H'->H p=none->ar p=none->cb X.K ar H' p (.lst ((as.filter keep).map f))->Q (.ref p) H'):∀ D,H D=none->vg nt g (BC X.K dl ix as sl keep) (BD X.K dl ix as sl keep f) (frees ix st) J D (fun _ H'=>Q (.ref D) H') H:=by
 intro D hD
 refine⟨fun i m vs H1=>m=as.length - i/\i<=as.length/\∃ Hf1,aL Hf H Hf1 H1/\Hf1 D=none/\H1 D=some (.lst vs)/\aS X.K Hf1 vs (((as.take i).filter keep).map f),⟨as.length,rfl,LD _,Hf,.cN S.sub hD,S.sub.free hD,ak,.nil⟩,?_⟩
 rintro i m vs H1 ⟨rfl,hi,Hf1,g1,DQ,CI,rp⟩
 have hlen:=rp.length
 rw[Bn] at hlen
 have KZ:((as.take i).filter keep).length<=i:=LA (List.length_filter_le _ _) (by rw[LC];omega)
 have pF:∀ {GO Ha Fb Hb:Hp},aL GO Ha Fb Hb->GO D=none->Ha D=some (.lst vs)->Fb D=none/\Hb D=some (.lst vs):=fun {GO Ha Fb Hb} gg e1 e2=>by
   refine⟨?_,gg.big _ _ e2⟩
   cases q:Fb D with
   | none=>rfl
   | some u=>
     obtain⟨o,z⟩:=gg.mf e2 (fun z=>z) q
     rw[e1] at z;cases z
 by_cases bM:i < as.length
 . have BF:as[i]∈as:=LI bM
   have et:as.take (i+1)=as.take i ++ [as[i]]:=by rw[L3,fe bM];rfl
   obtain⟨DR,hy⟩:=(go Hf1 H1 g1 i).1 (z as[i]) (by rw[J7,fe bM];rfl)
   refine .inr ⟨DR,by omega,fun σ hσ v H2 y=>?_⟩
   obtain⟨aR,g2,rv⟩:=hy v H2 y
   obtain⟨d2,JC⟩:=pF g2 DQ CI
   refine yq as[i] BF σ _ aR H2 v _ hσ g2.sub rv fun σ' JD tv=>⟨σ',rfl,JD,as[i],⟨aR,H2⟩,BF,aR,nW S (g1.a7.trans g2.a7) g2.sub tv,fun fR H3 g3=>?_⟩
   obtain⟨d3,Ie⟩:=pF g3 d2 JC
   cases hk:keep as[i] with
   | false=>
     refine⟨as.length - (i+1),by omega,rfl,bM,fR,(g1.trans g2).trans g3,d3,Ie,?_⟩
     rw[et,List.filter_append,List.filter_cons_of_neg (by simp[hk]),List.filter_nil,L6]
     exact rp.mono (g2.a7.trans g3.a7)
   | true=>
     refine⟨as[i],⟨fR,H3⟩,BF,hk,fR,nW S ((g1.a7.trans g2.a7).trans g3.a7) g3.sub (tv.mono g3.a7),fun y GP H4 g4 r4=>?_⟩
     obtain⟨d4,JE⟩:=pF g4 d3 Ie
     have gg:=((g1.trans g2).trans g3).trans g4
     refine⟨JE,as.length - (i+1),by omega,rfl,bM,GP,⟨fun a o h=>?_,gg.a7,fun a o h=>?_,gg.new⟩,d4,ak,?_⟩
     . rw[aj (ao h hD)];exact gg.big _ _ h
     . rw[aj (ao h d4)];exact g4.sub _ _ h
     . rw[et,List.filter_append,List.filter_cons_of_pos (by simpa using hk),List.filter_nil,LQ]
       exact(rp.mono ((g2.a7.trans g3.a7).trans g4.a7)).append (.cons r4 .nil)
 . have e:i=as.length:=by omega
   subst e
   refine .inl ⟨(go Hf1 H1 g1 _).2 (by simp),k D Hf1 H1 g1 hD DQ ⟨vs,CI,?_⟩⟩
   rw[LP] at rp
   exact rp
def BG (wi:TI)(nt:Nat)(ix:List Nat)(g:TG)(tt:TT)(te:TE):TE:=fun st H Q=>wi st H fun J H1=>∀ D,H1 D=none->vg nt g tt te (frees ix st) J D (fun _ H'=>Q (.ref D) H') H1
theorem BH {tt:TT}{te:TE}(hc:X.calm=true)(B:j6 X N tn ix sc)(hi:PI X tg iter wi)(hg:∀ C fp s H,PG (aK X N sc C fp s H) tg g)(ht:∀ C fp s H,DX (aK X N sc C fp s H) ifs tt)(f9:∀ C fp s H,PE (aK X N sc C fp s H) elt te)(hs:∀ z,foldedSetIterable iter X.env z=pure z):PE X (.ListComp elt [⟨tg,iter,ifs,0⟩] sc pos) (BG wi tn.length ix g tt te):=by
 intro pins s st H Q I h
 rw[eval_ListComp]
 refine wpAny_comprehension_free (use:=none) rfl hs (qE B I.ok) B.kind B.names (aT (hi pins s st H _ I h) fun v s1 h1=>aT h1 fun CZ s2 h2=>?_)
 obtain⟨it,fp,tj,J,H2,e,I2,T,zO,f2,hq⟩:=h2
 subst e
 refine nV (RR:=fun acc C=>compPost (model X.prog X.w) X.A X.xe none (EP X pins st Q) acc C) hc B hg ht f9 I2 T zO f2 hq ?_
 intro D C ws H' s' I' ⟨m,hn⟩ mF q
 exact⟨m,hn,fun h' DT=>⟨.ref D,H',I'.turned (t':=s'.toks) (it:=C) (fun b o hb e=>(DT.2 b hb).trans e) mF.1 mF.2.1 mF.2.2.2.1 mF.2.2.2.2.1 mF.2.2.2.2.2,rfl,q⟩⟩
theorem BI {tt:TT}{te:TE}{nN:Nat}(hc:X.calm=true)(B:j6 X N tn ix sc)(hi:PI X tg iter wi)(hg:∀ C fp s H,PG (aK X N sc C fp s H) tg g)(ht:∀ C fp s H,DX (aK X N sc C fp s H) ifs tt)(f9:∀ C fp s H,PE (aK X N sc C fp s H) elt te)(hs:∀ z,foldedSetIterable iter X.env z=pure z)(GQ:swapsWith (.ListComp elt [⟨tg,iter,ifs,0⟩] sc pos) (some (.Name y py)) sk.line X.env=pure true)(hN:X.N.Nodup)(hy:X.N[nN]?=some y)(hl:Loc X.env.scope y)(hf:X.fn y=true\/X.env.scope.names.lookup y=some .local):PS X (.Assign [.Name y py] (.ListComp elt [⟨tg,iter,ifs,0⟩] sc pos) sk) (fun D st H=>BG wi tn.length ix g tt te st H fun v H'=>D.nx (st.set nN (some v)) H'):=by
 intro pins s st H D0 I h
 rw[exec_Assign_Name_used _ _ _ _ GQ]
 refine wpAny_bind (wpAny_standAt (wpAny_bind ?_))
 show wpAny _ X.A (do let _ <- comprehension (.ListComp elt [⟨tg,iter,ifs,0⟩] sc pos) sc X.env _ (newList []) false (eval iter X.env) (some (assign (.Name y py) X.env))) _ _ s
 refine wpAny_bind (wpAny_mono (wpAny_comprehension_free (use:=some (assign (.Name y py) X.env)) (Q:=fun _ s'=>SP X pins D0 .next s') rfl hs (qE B I.ok) B.kind B.names (aT (hi pins s st H _ I h) fun v s1 h1=>aT h1 fun CZ s2 h2=>?_)) (fun _ s' hq=>wpAny_pure (wpAny_pure hq)) fun _ _ z=>z)
 obtain⟨it,fp,tj,J,H2,e,I2,T,zO,f2,hq⟩:=h2
 subst e
 refine nV (RR:=fun acc C=>compPost (model X.prog X.w) X.A X.xe (some (assign (.Name y py) X.env)) (fun _ s'=>SP X pins D0 .next s') acc C) hc B hg ht f9 I2 T zO f2 hq ?_
 intro D C ws H' s' I' ⟨m,hn⟩ mF q
 refine wpAny_assign_Name (kW I' hN hy hl (v:=.ref D) rfl (fun Dj JF ⟨ad,u5,ha⟩=>?_) hf)
 have ne:C≠ad:=by
   rcases ha with z | z
   . rw[z];exact mF.2.1
   . exact Ne.symm (mF.2.2.2.2.1 _ _ z)
 exact⟨m,hn.sameBut u5 ne,fun h' DT=>⟨_,H',JF.turned (t':=Dj.toks) (it:=C) (fun b o hb e=>(DT.2 b hb).trans e) mF.1 mF.2.1 mF.2.2.2.1 mF.2.2.2.2.1 mF.2.2.2.2.2,q⟩⟩
theorem lx (hs:iY X G dl (as.map z) wi)(yq:∀ a∈as,DZ X.K n g (z a) (sl a))(hn:as.length<=sizeLine):∀ st H Q,GH X.K G dl (.lst ((as.filter keep).map f)) st H Q->BG wi n ix g (BC X.K dl ix as sl keep) (BD X.K dl ix as sl keep f) st H Q:=fun st H Q zq=>k3 zq fun Hf zq=>have S:=zq.1;have k:=zq.2;
 hs st H _ ⟨Hf,S,fun J u9 H0 g0 src=>sq (S.grow g0) hn yq (fun Hf1 H1 g1 i=>src Hf1 H1 g1.a7 g1.sub i) fun p ar H' g n1 n2 r=>k p ar H' (g0.trans g) (g0.big.free n1) n2 r⟩
theorem mH (as:List α)(z f:α->Dt)(sl:α->List Slot)(keep:α->Bool)(hc:X.calm=true)(B:j6 X N tn ix sc)(hi:PI X tg iter wi)(hg:∀ C fp s H,PG (aK X N sc C fp s H) tg g)(pB:iY X G dl (as.map z) wi)(yq:∀ a∈as,DZ X.K tn.length g (z a) (sl a))(BJ:nX X N sc dl ix as sl keep ifs)(f9:BE X N sc dl ix as sl keep f elt)(hn:as.length<=sizeLine)(hs:∀ z,foldedSetIterable iter X.env z=pure z:=by intro _;rfl):EO X G dl (.ListComp elt [⟨tg,iter,ifs,0⟩] sc pos) (.lst ((as.filter keep).map f)):=cy (BH hc B hi hg (vh BJ) (vi f9) hs) (lx pB yq hn)
theorem vj (nN:Nat)(as:List α)(z f:α->Dt)(sl:α->List Slot)(keep:α->Bool)(hc:X.calm=true)(hN:X.N.Nodup)(B:j6 X N tn ix sc)(hi:PI X tg iter wi)(hg:∀ C fp s H,PG (aK X N sc C fp s H) tg g)(pB:iY X G dl (as.map z) wi)(yq:∀ a∈as,DZ X.K tn.length g (z a) (sl a))(BJ:nX X N sc dl ix as sl keep ifs)(f9:BE X N sc dl ix as sl keep f elt)(hn:as.length<=sizeLine)(hs:∀ z,foldedSetIterable iter X.env z=pure z:=by intro _;rfl)(GQ:swapsWith (.ListComp elt [⟨tg,iter,ifs,0⟩] sc pos) (some (.Name y py)) sk.line X.env=pure true:=by rfl)(hy:X.N[nN]?=some y:=by rfl)(hl:Loc X.env.scope y:=by first | exact LV rfl | exact LJ rfl)(hf:X.fn y=true\/X.env.scope.names.lookup y=some .local:=by first | exact .inl rfl | exact .inr rfl | assumption):ES X G E dl (.Assign [.Name y py] (.ListComp elt [⟨tg,iter,ifs,0⟩] sc pos) sk) (.nx (dl.set nN (.own (.lst ((as.filter keep).map f))))):=
 nS (BI hc B hi hg (vh BJ) (vi f9) hs GQ hN hy hl hf) fun D st H zq=>k3 zq fun Hf zq=>have S:=zq.1;have k:=zq.2;lx pB yq hn st H _ ⟨Hf,S,fun p ar H' g n1 n2 r=>k _ ar H' g.a7 (S.DN g n1 n2 r)⟩
def Fc (K:W.Frag)(g:TG)(z:Dt)(up:List Slot->List Slot):Prop:=∀ (G:Gr) (st:L2.St) (Hf H:Hp) (v:V) (dl:List Slot) (Q:L2.St->Hp->Prop),bW K G st Hf H dl->Rep K Hf v z->(∀ eM,bW K G eM Hf H (up dl)->Q eM H)->g v st H Q
theorem gJ {K:W.Frag}{n:Nat}{z:Dt}:Fc K (fS n) z (fun dl=>dl.set n (.val z)):=fun G st Hf H v dl Q S r k=>k _ (S.set r)
theorem jo {K:W.Frag}{n m:Nat}{z1 z2:Dt}:Fc K (AD K 2 (kX (fS n) (kX (fS m) AB))) (.tup [z1,z2]) (fun dl=>(dl.set n (.val z1)).set m (.val z2)):=fun G st Hf H v dl Q S r k=>by
 cases r with
 | @tup q vs _ hq rp=>
   cases rp with
   | cons r1 t1=>cases t1 with
     | cons r2 t2=>
       cases t2
       exact⟨q,_,rfl,cg S.sub hq,rfl,_,_,rfl,_,_,rfl,rfl,k _ ((S.set r1).set r2)⟩
theorem cF {body:List Stmt}{m:Nat}(as:List α)(z:α->Dt)(up:α->List Slot->List Slot)(S:Nat->List Slot)(jX:X.calm=true)(hp:PassesOwn (model X.prog X.w) X.A X.env X.xe)(hI:PI X tg iter wi)(pB:iY X G dl (as.map z) wi)(hg:PG X tg g)(yq:∀ a∈as,Fc X.K g (z a) (up a))(h0:Le (S 0) dl)(Gs:m<=as.length)(hb:∀ (k:Nat) (a:α),k < m->as[k]?=some a->Goes X G E body (up a (S k)) (S (k+1)))(he:gG X G E body S (fun k=>(as[k]?).elim (S k) fun a=>up a (S k)) as.length m o)(hs:∀ z,foldedSetIterable iter X.env z=pure z:=by intro _;rfl):ES X G E dl (.For tg iter body [] pos) o:=by
 refine nS (oX hp jX hI hg (jW (G:=G) (E:=E)) hs) fun D st H ⟨Hf,S0,k⟩=>pB st H _ ⟨Hf,S0,fun J u9 H0 g0 src=>?_⟩
 refine⟨fun i q st H=>q=as.length - i/\i<=m/\∃ Hf1,aw u9 Hf1/\bW X.K G st Hf1 H (S i),⟨as.length,rfl,LD _,u9,aw.refl _,(S0.grow g0).weak h0⟩,?_⟩
 rintro i q GL H1 ⟨rfl,K0,Hf1,s1,S1⟩
 have sr:=src Hf1 H1 s1 S1.sub i
 by_cases bM:i < as.length
 . have hz:as[i]?=some as[i]:=fe bM
   obtain⟨DR,hy⟩:=sr.1 (z as[i]) (by rw[J7,hz];rfl)
   refine .inr ⟨DR,fun eM H'=>i < m/\∃ aR,aw u9 aR/\bW X.K G eM aR H' (S (i+1)),fun eM H' ⟨h1,h2⟩=>⟨as.length - (i+1),by omega,rfl,by omega,h2⟩,fun x H' y=>?_⟩
   obtain⟨aR,g2,rv⟩:=hy x H' y
   refine yq as[i] (LI bM) G GL aR H' x (S i) _ (S1.grow g2) rv fun zO S2=>?_
   by_cases BK:i < m
   . exact ik (hb i as[i] BK hz) S2 (fun st fR H s3 S'=>⟨BK,fR,(s1.trans g2.a7).trans s3,S'⟩) (fun st fR H s3 S'=>⟨BK,fR,(s1.trans g2.a7).trans s3,S'⟩)
   . have e:i=m:=by omega
     subst e
     refine lh he bM ?_ (k.mono ((g0.a7.trans s1).trans g2.a7)) rfl rfl
     show bW _ _ _ _ _ ((as[i]?).elim (S i) fun a=>up a (S i))
     rw[hz];exact S2
 . have e:i=as.length:=by omega
   subst e
   have e2:m=as.length:=by omega
   subst e2
   refine .inl ⟨sr.2 (by simp),?_⟩
   cases he with
   | all _=>exact k GL Hf1 H1 (g0.a7.trans s1) S1
   | rt h _=>omega
   | ro h _=>omega
   | bk h _=>omega
   | ex h _=>omega
theorem dF (B:j6 X N tn ix sc)(h:tn=[x]):∀ C fp s H,PG (aK X N sc C fp s H) (.Name x px) (fS 0):=fun C fp s H=>by
 have hN:(aK X N sc C fp s H).N[0]?=some x:=by
   show N[0]?=some x
   rw[B.nm,h];rfl
 have DM:(aK X N sc C fp s H).env.scope.names.lookup x=some .local:=lookup_relabel_local (B.hx x (by rw[h];simp))
 exact aU (X:=aK X N sc C fp s H) B.nd hN (.inl DM) (.inr DM)
end
noncomputable def iR (sc vd:Scope)(XN N tn:List Str)(ix:List Nat):Bool:=
 decide N.Nodup && (decide (N=tn ++ ix.map (fun j=>XN.getD j "")) && (decide (sc.kind=.function) && (sc.names.all (fun y=>decide (y.2≠.cell)) && (sc.names.all (fun y=>decide (y.2=.local->sc.names.lookup y.1=some .local)) && (tn.all (fun x=>decide (sc.names.lookup x=some .local)) &&
   (sc.names.all (fun y=>decide (y.2=.free->vd.names.lookup y.1=some .cell\/vd.names.lookup y.1=some .free)) && ix.all (fun j=>decide (sc.names.lookup (XN.getD j "")=some .free) && decide (j < XN.length))))))))
theorem eI {X:Cx}{sc vd:Scope}{XN N tn:List Str}{ix:List Nat}(h:iR sc vd XN N tn ix=true)(e1:X.env.scope=vd:=by rfl)(e2:X.N=XN:=by rfl):j6 X N tn ix sc:=by
 subst e1 e2
 unfold iR at h
 simp only[LX,ME,decide_eq_true_eq] at h
 obtain⟨h1,h2,h3,h4,h5,h6,h7,h8⟩:=h
 refine⟨h1,h2,h3,h4,h5,h6,h7,fun j hj=>?_⟩
 obtain⟨q1,q2⟩:=h8 j hj
 refine⟨X.N.getD j "",?_,q1⟩
 rw[E2,fe q2];rfl
section
variable {d:Dt}
noncomputable def nY:Dt->Bool
 | .aW | .bl _ | .int _ | .str _ | .ty _ | .cls _=>true
 | _=>false
theorem vk {K:W.Frag}{Hf ar:Hp}{v:V}{d:Dt}(h:nY d=true)(r:Rep K Hf v d):Rep K ar v d:=by
 cases r <;> first | (cases h;done) | constructor
end
section
variable {X:Cx}{pins:List (Addr×Obj)}{σ:List (Option V)}{H:Hp}{s:Shared}{h':Heap}
theorem j7 {ch:List Addr}{a:Addr}{o:HO}{t':Nat}(I:L2.Inv X pins σ H s)(iM:∀ b∈ch,eK X pins H b)(k:∀ b u,b ∉ ch->s.heap.get? b=some u->h'.get? b=some u)(hp:s.heap.objs.size<=a)(new:aM X.prog X.w (upd H a o) h' a o):L2.Inv X pins σ (upd H a o) { s with heap:=h',toks:=t'}:=by
 have hn:=I.aO.fresh hp
 have zG:∀ b u,H b=some u->b ∉ ch:=fun b u e z=>by rw[(iM b z).1] at e;cases e
 have JG:∀ b o,s.heap.get? b=some o->b≠a:=fun b o e=>Lq (K2 (KJ e) hp)
 refine I.step (g':=s.gens) (d':=s.drawn) (ch:=ch) (fun b hb=>⟨(iM b hb).2.2.2.1,(iM b hb).2.1,(iM b hb).2.2.2.2.1,(iM b hb).2.2.2.2.2⟩) (fun b o _ _ hc e _=>k b o hc e) (fun b o _ _ hc e _=>⟨o.slots,k b o hc e⟩) (fun b o _ e n=>by rw[aj (JG b o e)];exact n)
   (fun b o hc e=>⟨o,k b o hc e⟩) (fun b xs e=>by rw[aj (ao e hn)];exact e) (fun b o u e=>by rw[aj (ao e hn)];exact e) (fun b ps e=>⟨#[],by rw[aj (ao e hn),e];simp⟩) (fun m hm=>?_) (fun b u e=>?_) I.bare
 . obtain⟨o,es,ep,ho,r⟩:=hm
   exact⟨o,es,ep,k _ o (fun z=>(iM _ z).2.1 rfl) ho,r⟩
 . by_cases hb:b=a
   . subst hb;rw[ak] at e;cases e;exact new
   . rw[aj hb] at e
     refine(I.aO b u e).oT (fun c v hc q=>k c v ?_ q) (fun c q=>by rw[aj (ao q hn)];exact q) (fun c xs q=>by rw[aj (ao q hn)];exact q) (.of fun c u q=>by rw[aj (ao q hn)];exact q)
     rcases hc with z | z | z
     . rw[z];exact zG b u e
     . exact zG c _ z
     . exact fun z'=>by rw[(iM c z').1] at z;exact z
end
noncomputable def Ig (K:PySem.W.Frag)(a:Addr):It:=
 ⟨fun i H=>∃ xs x,eF K H a xs/\xs[i]?=some x,fun i H v H'=>∃ p x,v=.ref p/\H p=none/\H'=upd H p (.tup [.int i,x])/\∀ xs,eF K H a xs->xs[i]?=some x,fun i H=>∃ xs,eF K H a xs/\xs.length<=i⟩
theorem su {P:Program}{w:World}{K:W.Frag}{elts:List Expr}{kt:Nat}{hU:Pos}(a e it:Addr)(CJ:e≠it):Turn P w K (.Tuple elts kt hU) (Ig K a) [e,it] e (fun i h=>(∃ old,IsEnum h e it i old)/\h.IsListIter it a i) where
 mem:=by simp
 obj:=fun i h st b hb=>by
   obtain⟨⟨old,he⟩,o,e2,c,d⟩:=st
   rcases K4.mp hb with rfl | hb
   . exact⟨_,he,fun v z=>by cases z⟩
   . have:b=it:=by simpa using hb
     subst this
     exact⟨o,e2,fun v z=>by rw[d] at z;cases z⟩
 keep:=fun i h h' st k=>by
   obtain⟨⟨old,he⟩,hit⟩:=st
   exact⟨⟨old,k e (by simp) _ he⟩,hit.at fun o x=>k it (by simp) o x⟩
 item:=by
   intro X hP hw hK hc i pins s σ H E I hf st hg
   subst hP hw hK
   obtain⟨xs,x,hq,hx⟩:=hg
   obtain⟨aF,rv,p,hz⟩:=I.list hq
   obtain⟨u,hu,ru⟩:=rv.get hx
   obtain⟨⟨old,he⟩,hit⟩:=st
   have z8:e < s.heap.objs.size:=KJ he
   have GR:it < s.heap.objs.size:=by obtain⟨_,z,_⟩:=hit;exact KJ z
   refine wpAny_pyNext_enum_item he hit p.isList (x:=u) (by simpa using hu) CJ fun h1 ho BL hT hsz hk=>?_
   refine⟨_,rfl,wpAny_letOwnedTupleGo_enum ho fun h2 DE kK=>?_⟩
   have D3:h2.get? s.heap.objs.size=some { cls:=.type "tuple",data:=.seq #[.int i s.toks,u]}:=(kK.2 _ (Mz z8)).trans hT
   have k2:∀ b o,b ∉ [e,it]->s.heap.get? b=some o->h2.get? b=some o:=fun b o hb q=>(kK.2 b fun z=>hb (by simp[z])).trans (hk b o (fun z=>hb (by simp[z])) (fun z=>hb (by simp[z])) q)
   have hp:H s.heap.objs.size=none:=I.aO.fresh (G1 _)
   have I2:L2.Inv X pins σ (upd H s.heap.objs.size (.tup [.int i,x])) { s with heap:=h2,toks:=s.toks+1}:=j7 I hf k2 (G1 _) ⟨L8 rfl,[.int i s.toks,u],.cons ⟨_,rfl⟩ (.cons ru .nil),_,D3,rfl,_,rfl⟩
   refine⟨.ref s.heap.objs.size,_,I2,rfl,⟨_,x,rfl,hp,rfl,fun ys hy=>by rw[I.jF hy hq];exact hx⟩,⟨⟨u,by simpa using DE⟩,BL.at fun o z=>(kK.2 it (Ne.symm CJ)).trans z⟩,fun b hb=>?_⟩
   have:b≠s.heap.objs.size:=by
     rcases K4.mp hb with rfl | hb
     . exact Lq z8
     . have:b=it:=by simpa using hb
       subst this
       exact Lq GR
   rw[aj this]
   exact(hf b hb).1
 done:=by
   intro X hP hw hK hc i pins s σ H E I hf st hg
   subst hP hw hK
   obtain⟨xs,hq,hx⟩:=hg
   obtain⟨aF,rv,p,hz⟩:=I.list hq
   obtain⟨⟨old,he⟩,hit⟩:=st
   obtain⟨f0,f1,f2,f3,f4,f5⟩:=hf it (by simp)
   have hl:=rv.length
   exact wpAny_pyNext_enum_end (I.ok.hd hc) he hit p.isList (by simp;omega) fun h' eb=>⟨rfl,I.turned (t':=s.toks) (fun b o hb q=>eb b o hb q) f0 f1 f3 f4 f5⟩
 self:=fun _ i s Q E st h=>by
   obtain⟨⟨old,he⟩,_⟩:=st
   exact wpAny_pyIter_enum he h
theorem boot_enumerate:bootBuiltins "enumerate"=some (.type "enumerate"):=by decide +kernel
section
variable {X:Cx}{G:Gr}{dl:List Slot}{a:Expr}{xs:List Dt}{p pos:Pos}
def z9 (K:W.Frag)(ta:TA):TI:=fun σ H R=>ta σ H fun vs H1=>∃ a,vs=[.ref a]/\(∃ xs,eF K H1 a xs)/\R (Ig K a) H1
theorem yr {elts:List Expr}{kt:Nat}{hU:Pos}{ta:TA}(hg:Gl X "enumerate")(hm:X.mg "enumerate"=none)(ha:PA X [a] ta)(hs:starEach [a] X.env=[(false,eval a X.env)]:=by rfl):PI X (.Tuple elts kt hU) (.Call (.Name "enumerate" p) [a] [] pos) (z9 X.K ta):=by
 intro pins s σ H R I h
 refine Call_ (dX I hg hm boot_enumerate (PyProof.Rows.callWith_type1 (aT (ha pos pins s σ H _ I h) fun us s1 ⟨vs,H1,I1,r1,q1⟩=>?_) hs rfl))
 obtain⟨l,e,⟨xs,hq⟩,q⟩:=q1
 subst e
 cases r1 with
 | cons r rr=>
   cases rr
   cases r
   obtain⟨aF,rv,pl,hz⟩:=I1.list hq
   refine call_enumerate_list pl.isList fun h' he hit hsz k=>wpAny_pyIter_enum he ?_
   have I2:L2.Inv X pins σ H1 { s1 with heap:=h'}:=I1.kept (t':=s1.toks) k
   refine⟨s1.heap.objs.size+1,[s1.heap.objs.size+1,s1.heap.objs.size],_,_,H1,rfl,I2,su l _ s1.heap.objs.size (MD _),⟨⟨_,he⟩,hit⟩,fun b hb=>?_,q⟩
   have uP:s1.heap.objs.size<=b:=by
     rcases K4.mp hb with rfl | hb
     . exact Mp _
     . have:b=s1.heap.objs.size:=by simpa using hb
       rw[this];exact G1 _
   exact I1.lZ uP (I1.aO.fresh uP)
noncomputable def iS (xs:List Dt):List Dt:=(Lp xs.length).map fun(k:Nat)=>.tup [.int k,xs.getD k .aW]
theorem sv:iY X G dl (iS xs) (z9 X.K (CH X.K G dl [.lst xs])):=fun st H R zq=>k3 zq fun Hf zq=>have S:=zq.1;have k:=zq.2;⟨Hf,S,fun vs Hf1 H1 g1 r1=>by
 cases r1 with
 | cons r t=>
   cases t
   cases r with
   | @lst q vs _ hq rp=>
     have hl:=rp.length
     refine⟨q,rfl,⟨vs,.of (g1.sub _ _ hq)⟩,k _ Hf1 H1 g1 fun aR H2 s1 s2 i=>⟨fun z hz=>?_,fun hi=>⟨vs,.of (s2 _ _ (s1 _ _ hq)),by unfold iS at hi;rw[Bn,Lo] at hi;omega⟩⟩⟩
     have hi:i < xs.length:=by
       have:=(KP.mp hz).1
       unfold iS at this
       simpa using this
     unfold iS at hz
     rw[J7,LH hi] at hz
     cases hz
     have hx:xs[i]?=some (xs.getD i .aW):=by rw[E2,fe hi];rfl
     obtain⟨u,z1,z2⟩:=rp.get hx
     have hs:eF X.K H2 q vs:=.of (s2 _ _ (s1 _ _ hq))
     refine⟨⟨vs,u,hs,z1⟩,fun v H3 hy=>?_⟩
     obtain⟨pt,x,rfl,hn,rfl,e2⟩:=hy
     have e2:=e2 vs hs
     rw[z1] at e2;cases e2
     have g3:aL aR H2 (upd aR pt (.tup [.int i,u])) (upd H2 pt (.tup [.int i,u])):=.alloc s2 hn
     exact⟨_,g3,.tup (.inl ak) (.cons (.int _) (.cons ((z2.mono s1).mono g3.a7) .nil))⟩⟩
end
section
noncomputable def noOwn:List Slot->Bool
 | []=>true
 | .own _::_=>false
 | _::r=>noOwn r
theorem cK:∀ {dl:List Slot},noOwn dl=true->∀ (j:Nat) o,dl[j]?≠some (.own o)
 | [],_,j,o,h=>by simp at h
 | .val d::r,q,0,o,h=>by simp at h
 | .bb::r,q,0,o,h=>by simp at h
 | .val d::r,q,j+1,o,h=>cK (dl:=r) q j o (by simpa using h)
 | .bb::r,q,j+1,o,h=>cK (dl:=r) q j o (by simpa using h)
end
section
variable {X:Cx}{G:Gr}{dl:List Slot}{e:Expr}{x:Str}{i j:Int}{pos p2:Pos}{lo hi:Option Expr}{l u:Option Int}
theorem BM:Ga X (fun x lo hi H Q=>∃ z:Str,x=.str z/\z.length<=sizeLine/\Q (.str (Txt.slice z lo hi)) H):=by
 intro pins s σ H x v vl vu lo hi sl Q I rx hs pl pu h
 obtain⟨z,rfl,hz,q⟩:=h
 obtain⟨t,rfl⟩:=(show ∃ t,v=Value.str z t from rx)
 obtain⟨o,h1,h2,h3⟩:=hs
 refine⟨"str",_,F.slot_str_getitem.lookup,typeIs_str _ _ _,?_⟩
 cases pl with
 | none=>
   cases pu with
   | none=>exact wpAny_getItem_str_slice (l:=none) (u:=none) (st:=none) ⟨o,h1,h2,h3⟩ rfl (post_val_or_str ⟨LA (Txt.slice_le z _ _) hz,fun t' k=>⟨.str (Txt.slice z _ _),H,I.tok _,⟨t',rfl⟩,q⟩⟩)
   | int j uj=>exact wpAny_getItem_str_slice (l:=none) (u:=some (j,uj)) (st:=none) ⟨o,h1,h2,h3⟩ rfl (post_val_or_str ⟨LA (Txt.slice_le z _ _) hz,fun t' k=>⟨.str (Txt.slice z _ _),H,I.tok _,⟨t',rfl⟩,q⟩⟩)
 | int i ui=>
   cases pu with
   | none=>exact wpAny_getItem_str_slice (l:=some (i,ui)) (u:=none) (st:=none) ⟨o,h1,h2,h3⟩ rfl (post_val_or_str ⟨LA (Txt.slice_le z _ _) hz,fun t' k=>⟨.str (Txt.slice z _ _),H,I.tok _,⟨t',rfl⟩,q⟩⟩)
   | int j uj=>exact wpAny_getItem_str_slice (l:=some (i,ui)) (u:=some (j,uj)) (st:=none) ⟨o,h1,h2,h3⟩ rfl (post_val_or_str ⟨LA (Txt.slice_le z _ _) hz,fun t' k=>⟨.str (Txt.slice z _ _),H,I.tok _,⟨t',rfl⟩,q⟩⟩)
def GS (K:W.Frag)(G:Gr)(dl:List Slot)(o:Option Int):TO:=fun st H Q=>∃ Hf,bW K G st Hf H dl/\∀ ar H',aL Hf H ar H'->Q o H'
abbrev Fd (X:Cx)(G:Gr)(dl:List Slot)(e:Option Expr)(o:Option Int):Prop:=PO X e (GS X.K G dl o)
theorem Ih {e:Option Expr}{t t':TO}(h:PO X e t)(i:∀ st H Q,t' st H Q->t st H Q):PO X e t':=fun pins s st H Q I q=>h pins s st H Q I (i st H Q q)
theorem pG:Fd X G dl none none:=Ih qk fun st H Q zq=>k3 zq fun Hf zq=>have S:=zq.1;have k:=zq.2;k Hf H (.refl S.sub)
theorem gK (h:EE X G dl e (.int i)):Fd X G dl (some e) (some i):=Ih (je h) fun st H Q zq=>k3 zq fun Hf zq=>have S:=zq.1;have k:=zq.2;⟨Hf,S,fun v Hf1 H1 g1 r1=>by cases r1;exact⟨i,rfl,k Hf1 H1 g1⟩⟩
theorem mI (he:EE X G dl e (.str x))(hl:Fd X G dl lo l)(hu:Fd X G dl hi u)(hx:x.length<=sizeLine):EE X G dl (.Subscript e (.Slice lo hi none p2) pos) (.str (Txt.slice x l u)):=
 cy (jM BM he hl hu) fun st H Q zq=>k3 zq fun Hf zq=>have S:=zq.1;have k:=zq.2;⟨Hf,S,fun v Hf1 H1 g1 r1=>⟨Hf1,S.grow g1,fun aR H2 g2=>⟨aR,(S.grow g1).grow g2,fun fR H3 g3=>by
   cases r1
   exact⟨x,rfl,hx,k _ fR H3 ((g1.trans g2).trans g3) (.str _)⟩⟩⟩⟩
end
noncomputable def Ii (x:Str):It:=⟨fun i H=>∃ c,x.cps[i]?=some c,fun i H v H'=>H'=H/\∃ c,x.cps[i]?=some c/\v=.str ⟨#[c]⟩,fun i H=>x.cps[i]?=none⟩
theorem vm {P:Program}{w:World}{K:W.Frag}{tg:Expr}(x:Str)(t:Tok)(it:Addr):Turn P w K tg (Ii x) [it] it (fun i h=>h.IsStrIter it "str_ascii_iterator" x t i) where
 mem:=by simp
 obj:=fun i h st b hb=>by
   have e:b=it:=by simpa using hb
   subst e
   obtain⟨o,e,c,d⟩:=st
   exact⟨o,e,fun v z=>by rw[d] at z;cases z⟩
 keep:=fun i h h' st k=>let ⟨o,e,c,d⟩:=st;⟨o,k it (by simp) o e,c,d⟩
 item:=by
   intro X hP hw hK hc i pins s σ H E I hf st hg
   subst hP hw hK
   obtain⟨c,hx⟩:=hg
   obtain⟨f0,f1,f2,f3,f4,f5⟩:=hf it (by simp)
   refine wpAny_pyNext_ascii_item st hx fun h' eM sb=>?_
   have I1:L2.Inv X pins σ H { s with heap:=h',toks:=s.toks+1}:=I.turned (t':=s.toks+1) (fun b o hb e=>(sb.2 b hb).trans e) f0 f1 f3 f4 f5
   obtain⟨o,e,cc,d⟩:=id eM
   exact⟨_,rfl,qg (s:={ s with heap:=h',toks:=s.toks+1}) e cc d (by decide) ⟨.str ⟨#[c]⟩,H,I1,⟨_,rfl⟩,⟨rfl,c,hx,rfl⟩,eM,fun b hb=>(hf b hb).1⟩⟩
 done:=by
   intro X hP hw hK hc i pins s σ H E I hf st hg
   subst hP hw hK
   obtain⟨f0,f1,f2,f3,f4,f5⟩:=hf it (by simp)
   exact wpAny_pyNext_ascii_end (I.ok.hd hc) st hg fun h' eb=>⟨rfl,I.turned (t':=s.toks) (fun b o hb e=>eb b o hb e) f0 f1 f3 f4 f5⟩
 self:=fun _ _ _ _ _ st h=>wpAny_pyIter_striter_ascii st h
noncomputable def cB (x:Str):Bool:=x.cps.all (· < 128)
noncomputable def signs (x:Str):List Dt:=x.cps.toList.map fun c=>.str ⟨#[c]⟩
section
variable {X:Cx}{G:Gr}{dl:List Slot}{a b c e:Expr}{x y z:Str}{pos:Pos}{i j k:Int}{u v:Bool}
def D4 (ta:TE):TI:=fun σ H R=>ta σ H fun v H1=>∃ x,v=.str x/\cB x=true/\R (Ii x) H1
theorem iu {tg:Expr}{ta:TE}(ha:PE X a ta):PI X tg a (D4 ta):=by
 intro pins s σ H R I h
 refine aT (ha pins s σ H _ I h) fun v s1 ⟨w,H1,I1,r1,q1⟩=>?_
 obtain⟨x,e,hx,q⟩:=q1
 subst e
 obtain⟨t,rfl⟩:=(show ∃ t,v=Value.str x t from r1)
 refine wpAny_pyIter_ascii hx ?_
 refine⟨s1.heap.objs.size,[s1.heap.objs.size],_,_,H1,rfl,I1.kept (t':=s1.toks) fun b o e=>k0 _ e,vm x t _,⟨_,K3 _ rfl,rfl,rfl⟩,fun b hb=>?_,q⟩
 have e:b=s1.heap.objs.size:=by simpa using hb
 subst e
 exact I1.lZ (G1 _) (I1.aO.fresh (G1 _))
theorem signs_get (x:Str)(i:Nat):(signs x)[i]?=(x.cps[i]?).map fun c=>.str ⟨#[c]⟩:=by
 unfold signs
 rw[J7,Array.getElem?_toList]
theorem c7 (x:Str):(signs x).length=x.length:=by
 unfold signs
 rw[Bn,Mh];rfl
theorem dG (hx:cB x=true):iY X G dl (signs x) (D4 (tD X.K G dl (.str x))):=fun st H R zq=>k3 zq fun Hf zq=>have S:=zq.1;have k:=zq.2;⟨Hf,S,fun v Hf1 H1 g1 r1=>by
 cases r1
 refine⟨x,rfl,hx,k _ Hf1 H1 g1 fun aR H2 s1 s2 i=>⟨fun z hz=>?_,fun hi=>?_⟩⟩
 . rw[signs_get] at hz
   cases q:x.cps[i]? with
   | none=>rw[q] at hz;cases hz
   | some c=>
     rw[q] at hz
     cases hz
     refine⟨⟨c,q⟩,fun v H3 ⟨e1,c',e2,e3⟩=>?_⟩
     rw[q] at e2;cases e2
     subst e1 e3
     exact⟨aR,.refl s2,.str _⟩
 . show x.cps[i]?=none
   rw[hi,c7]
   exact Array.getElem?_size_le (G1 _)⟩
theorem ly:gk X (compareOp .LtE) (fun x y H Q=>∃ i j,x=.str i/\y=.str j/\Q (.bl (!decide (j.cps.toList < i.cps.toList))) H):=by
 intro pins s σ H x y v u Q I rx ry h
 obtain⟨i,j,rfl,rfl,q⟩:=h
 obtain⟨t,rfl⟩:=rx
 obtain⟨t',rfl⟩:=ry
 exact P.le_str (aG I q rfl)
noncomputable def BN (x y:Str):Bool:=!decide (y.cps.toList < x.cps.toList)
theorem vn {K:W.Frag}:qt K (fun x y H Q=>∃ i j,x=.str i/\y=.str j/\Q (.bl (!decide (j.cps.toList < i.cps.toList))) H) (.str x) (.str y) (.bl (BN x y)):=fun v w Hf H Q s r1 r2 k=>by
 cases r1;cases r2;exact⟨x,y,rfl,rfl,k _ Hf H (.refl s) (.bl _)⟩
variable {d1 d2 d3:Dt}
theorem nZ {op AN:CmpOp}{r r':R2}(ho:gk X (compareOp op) r)(tT:gk X (compareOp AN) r')(h1:qt X.K r d1 d2 (.bl u))(h2:qt X.K r' d2 d3 (.bl v))(ha:EE X G dl a d1)(hb:EE X G dl b d2)(hc:EE X G dl c d3)(hm:lastMarks [op,AN] [b,c]=false:=by with_unfolding_all rfl):EE X G dl (.Compare a [op,AN] [b,c] pos) (.bl (u && v)):=
 cy (ua ho tT ha hb hc hm) fun st H Q zq=>k3 zq fun Hf zq=>have S:=zq.1;have k:=zq.2;⟨Hf,S,fun x Hf1 H1 g1 r1=>⟨Hf1,S.grow g1,fun y aR H2 g2 r2=>h1 x y aR H2 _ g2.sub (r1.mono g2.a7) r2 fun z fR H3 g3 r3=>by
   cases r3
   refine⟨u,rfl,?_⟩
   cases u with
   | false=>exact pe (k _ fR H3 ((g1.trans g2).trans g3) (.bl _))
   | true=>exact pf ⟨fR,((S.grow g1).grow g2).grow g3,fun w GP H4 g4 r4=>h2 y w GP H4 Q g4.sub (r2.mono (g3.a7.trans g4.a7)) r4 fun q JH H5 g5 r5=>k q JH H5 ((((g1.trans g2).trans g3).trans g4).trans g5) r5⟩⟩⟩
theorem vo (ha:EE X G dl a (.str x))(hb:EE X G dl b (.str y))(hc:EE X G dl c (.str z))(hm:lastMarks [.LtE,.LtE] [b,c]=false:=by with_unfolding_all rfl):EE X G dl (.Compare a [.LtE,.LtE] [b,c] pos) (.bl (BN x y && BN y z)):=nZ ly ly vn vn ha hb hc hm
theorem vp (ha:EE X G dl a (.int i))(hb:EE X G dl b (.int j))(hc:EE X G dl c (.int k))(hm:lastMarks [.LtE,.LtE] [b,c]=false:=by with_unfolding_all rfl):EE X G dl (.Compare a [.LtE,.LtE] [b,c] pos) (.bl (decide (i<=j) && decide (j<=k))):=
 nZ zR zR (iO (g':=fun i j=>.bl (decide (i<=j))) fun _ _ _ _=>.bl _) (iO (g':=fun i j=>.bl (decide (i<=j))) fun _ _ _ _=>.bl _) ha hb hc hm
end
section
variable {X:Cx}{G:Gr}{dl:List Slot}{a b e:Expr}{pos p apos bo:Pos}{k x:Str}{xs:List Str}{bs:List Bool}{ns:List Int}{hi:Option Expr}{l u:Option Int}
theorem vq {neg:Bool}:qt X.K (EV X.K neg) (.str k) (.lst (xs.map .str)) (.bl (if neg then !decide (k∈xs) else decide (k∈xs))):=fun v w Hf H Q s r1 r2 kk=>by
 cases r1
 cases r2 with
 | @lst q vs _ hq rp=>
   have ev:=fk rp
   subst ev
   refine⟨q,_,rfl,.inl (.of (s _ _ hq)),rfl,lu xs,?_⟩
   rw[j5]
   exact kk _ Hf H (.refl s) (.bl _)
theorem BO (ha:EE X G dl a (.str k))(hb:EE X G dl b (.lst (xs.map .str)))(hm:behindInMarks .In b=false:=by rfl):EE X G dl (.Compare a [.In] [b] pos) (.bl (decide (k∈xs))):=mi k9 (vq (neg:=false)) hm ha hb
theorem yt (ha:EE X G dl a (.str k))(hb:EE X G dl b (.lst (xs.map .str)))(hm:behindInMarks .NotIn b=false:=by rfl):EE X G dl (.Compare a [.NotIn] [b] pos) (.bl (!decide (k∈xs))):=mi l8 (vq (neg:=true)) hm ha hb
theorem range_all (bs:List Bool):(Lp bs.length).all (fun i=>bs.getD i true)=bs.all id:=by
 induction bs with
 | nil=>rfl
 | cons b r ih=>
   rw[Lr,List.range_succ_eq_map,Mu,List.all_map,Mu]
   show(b && (Lp r.length).all (fun i=>r.getD i true))=(b && r.all id)
   rw[ih]
theorem sx (hc:X.calm=true):eN X (.builtin "all") (fun xs H Q=>∃ (p:Addr) (bs:List Bool),xs=[.ref p]/\eF X.K H p (bs.map V.bl)/\Q (.bl (bs.all id)) H):=by
 intro pins s σ H xs us Q I r h
 obtain⟨p,bs,rfl,hq,q⟩:=h
 obtain⟨u,rfl,rx⟩:=vals1 r
 cases rx
 obtain⟨aF,rv,pl,hz⟩:=I.list hq
 have hlen:=rv.length
 rw[Bn] at hlen
 obtain⟨o,n,ho,_⟩:=id pl
 have hp:p < s.heap.objs.size:=KJ ho
 refine call_all_walk (wpAny_pyIter_list pl.isList ?_)
 refine⟨s.heap.objs.size,_,_,_,_,_,fun i=>bs.getD i true,rfl,Walks.list (A:=X.A.in1) (I.ok.hd hc) s.heap.objs.size p (Lq hp) aF.toArray,⟨⟨_,K3 _ rfl,rfl,rfl⟩,?_⟩,fun i v s' Q' E' hv hQ=>?_,fun h' tk hk=>?_⟩
 . exact pl.isList.at fun o e=>k0 _ e
 . have hv:aF[i]?=some v:=by simpa using hv
   have hi:i < aF.length:=(KP.mp hv).1
   have D5:i < bs.length:=by omega
   obtain⟨u',h1,h2⟩:=rv.get (i:=i) (x:=V.bl bs[i]) (by rw[J7,fe D5];rfl)
   rw[hv] at h1;cases h1
   cases h2
   have e:bs.getD i true=bs[i]:=by rw[E2,fe D5];rfl
   have hQ:Q' (bs.getD i true) s':=hQ
   rw[e] at hQ
   exact wpAny_truthy_bool hQ
 . have ea:(Lp aF.toArray.size).all (fun i=>bs.getD i true)=bs.all id:=by rw[LF,<- hlen];exact range_all bs
   rw[ea]
   refine⟨.bl _,H,I.kept (t':=tk) fun b o e=>hk b o (fun hm=>?_) (k0 _ e),rfl,q⟩
   have:b=s.heap.objs.size:=by simpa using hm
   subst this
   exact Mc _ (KJ e)
theorem boot_all:bootBuiltins "all"=some (.builtin "all"):=by decide +kernel
theorem n0 {K:W.Frag}{H:Hp}:∀ {bs:List Bool} {vs:List V},aS K H vs (bs.map Dt.bl)->vs=bs.map V.bl
 | [],_,.nil=>rfl
 | b::r,_,.cons h t=>by cases h;rw[n0 t];rfl
theorem vt (hm:X.mg "all"=none)(hc:X.calm=true)(ha:EE X G dl a (.lst (bs.map .bl)))(hg:Gl X "all":=by rfl)(he:starEach [a] X.env=[(false,eval a X.env)]:=by rfl):EE X G dl (.Call (.Name "all" p) [a] [] pos) (.bl (bs.all id)):=
 cy (cf (sx hc) hg hm boot_all (ae ha ai he) (by decide) (by decide) he rfl) fun st H Q zq=>k3 zq fun Hf zq=>have S:=zq.1;have k:=zq.2;⟨Hf,S,fun vs Hf1 H1 g1 r1=>by
   cases r1 with
   | cons r t=>cases t;cases r with
     | @lst q vs _ z r=>
       have ev:=n0 r
       subst ev
       exact⟨q,bs,rfl,.of (g1.sub _ _ z),k _ Hf1 H1 g1 (.bl _)⟩⟩
theorem lA (ns:List Int):∀ k,k<=ns.length->preSum (fun i=>ns.getD i 0) k=(ns.take k).sum
 | 0,_=>by simp[preSum]
 | k+1,h=>by
   have hk:k < ns.length:=h
   rw[preSum,lA ns k (My hk),L3,fe hk,List.sum_append,E2,fe hk]
   simp
theorem sy (hc:X.calm=true):eN X (.builtin "sum") (fun xs H Q=>∃ (p:Addr) (ns:List Int),xs=[.ref p]/\eF X.K H p (ns.map V.int)/\Q (.int ns.sum) H):=by
 intro pins s σ H xs us Q I r h
 obtain⟨p,ns,rfl,hq,q⟩:=h
 obtain⟨u,rfl,rx⟩:=vals1 r
 cases rx
 obtain⟨aF,rv,pl,hz⟩:=I.list hq
 have hlen:=rv.length
 rw[Bn] at hlen
 obtain⟨o,n,ho,_⟩:=id pl
 have hp:p < s.heap.objs.size:=KJ ho
 refine call_sum_walkAnyS (wpAny_pyIter_list pl.isList ?_)
 refine⟨s.heap.objs.size,_,_,_,_,_,_,fun i=>ns.getD i 0,rfl,(Walks.list (A:=X.A.in1) (I.ok.hd hc) s.heap.objs.size p (Lq hp) aF.toArray).toS,⟨⟨_,K3 _ rfl,rfl,rfl⟩,?_⟩,fun b hb=>?_,fun i v hv=>?_,fun s' t' hm=>?_⟩
 . exact pl.isList.at fun o e=>k0 _ e
 . have hsz:(s.heap.push { cls:=.type "list_iterator",data:=.fields #[.ref p,.int 0 0]}).objs.size=s.heap.objs.size+1:=LZ ..
   show b < (s.heap.push { cls:=.type "list_iterator",data:=.fields #[.ref p,.int 0 0]}).objs.size
   rw[hsz]
   rcases K4.mp hb with e | hb
   . rw[e];exact Mj _
   . have:b=p:=by simpa using hb
     rw[this];exact Nat.lt_succ_of_lt hp
 . have hv:aF[i]?=some v:=by simpa using hv
   have hi:i < aF.length:=(KP.mp hv).1
   have D5:i < ns.length:=by omega
   obtain⟨u',h1,h2⟩:=rv.get (i:=i) (x:=V.int ns[i]) (by rw[J7,fe D5];rfl)
   rw[hv] at h1;cases h1
   obtain⟨t,rfl⟩:=h2
   refine⟨t,?_⟩
   show _=Value.int (ns.getD i 0) t
   rw[E2,fe D5];rfl
 . have ea:preSum (fun i=>ns.getD i 0) aF.toArray.size=ns.sum:=by
     rw[LF,<- hlen,lA ns _ (G1 _),LP]
   rw[ea]
   refine⟨.int _,H,?_,⟨t',rfl⟩,q⟩
   obtain⟨h',g',d',tk,F8⟩:=s'
   have e1:g'=s.gens:=hm.gens
   have e2:d'=s.drawn:=hm.drawn
   have e3:F8=s.os:=hm.os
   subst e1 e2 e3
   refine I.kept (t':=tk) fun b o e=>hm.heap b o (fun z=>?_) (k0 _ e)
   have:b=s.heap.objs.size:=by simpa using z
   subst this
   exact Mc _ (KJ e)
theorem boot_sum:bootBuiltins "sum"=some (.builtin "sum"):=by decide +kernel
theorem j8 {K:W.Frag}{H:Hp}:∀ {ns:List Int} {vs:List V},aS K H vs (ns.map Dt.int)->vs=ns.map V.int
 | [],_,.nil=>rfl
 | b::r,_,.cons h t=>by cases h;rw[j8 t];rfl
theorem BP (hm:X.mg "sum"=none)(hc:X.calm=true)(ha:EE X G dl a (.lst (ns.map .int)))(hg:Gl X "sum":=by rfl)(he:starEach [a] X.env=[(false,eval a X.env)]:=by rfl):EE X G dl (.Call (.Name "sum" p) [a] [] pos) (.int ns.sum):=
 cy (cf (sy hc) hg hm boot_sum (ae ha ai he) (by decide) (by decide) he rfl) fun st H Q zq=>k3 zq fun Hf zq=>have S:=zq.1;have k:=zq.2;⟨Hf,S,fun vs Hf1 H1 g1 r1=>by
   cases r1 with
   | cons r t=>cases t;cases r with
     | @lst q vs _ z r=>
       have ev:=j8 r
       subst ev
       exact⟨q,ns,rfl,.of (g1.sub _ _ z),k _ Hf1 H1 g1 (.int _)⟩⟩
theorem lB:∀ {xs:List Str} {us:List Value},Vals (xs.map V.str) us->∃ l:List (Str×Tok),us=strValues l/\l.map (·.1)=xs
 | [],_,.nil=>⟨[],rfl,rfl⟩
 | x::r,_,.cons h t=>by
   obtain⟨tk,rfl⟩:=h
   obtain⟨l,rfl,e⟩:=lB t
   exact⟨(x,tk)::l,rfl,by rw[Lv,e]⟩
theorem yu:HJ X "str.join" (fun x xs H Q=>∃ (z:Str) (p:Addr) (ys:List Str),x=.str z/\xs=[.ref p]/\eF X.K H p (ys.map V.str)/\JoinOk z ys=true/\Q (.str (Txt.join z ys)) H):=by
 intro pins s σ H x xs v us Q I rx rv ⟨z,p,ys,e1,e2,hq,aO,q⟩
 subst e1 e2
 obtain⟨t,rfl⟩:=(show ∃ t,v=Value.str z t from rx)
 obtain⟨u,rfl,ru⟩:=vals1 rv
 cases ru
 obtain⟨aF,r,pl,hz⟩:=I.list hq
 obtain⟨l,rfl,el⟩:=lB r
 exact SC.join pl.isList el aO fun t' k=>⟨.str (Txt.join z ys),H,I.tok _,⟨t',rfl⟩,q⟩
theorem yv (ha:EE X G dl a (.str x))(he:EE X G dl e (.lst (xs.map .str)))(aO:JoinOk x xs=true)(jN:attributeBase a "join" X.env (eval a X.env)=eval a X.env:=by rfl)
   (o9:((backTo bo (starEach [e] X.env)).all (fun x=>!x.1) && (backToKw bo (keywordEach [] X.env)).all (fun x=>x.1.isSome) && decide ([e].length+([]:List Keyword).length+(if ([]:List Keyword).isEmpty then 0 else 1) < 30))=true:=by rfl)
   (jO:(apos.endLine == bo.line)=true:=by rfl) (nB:starEach [e] X.env=(false,eval e X.env)::starEach [] X.env:=by rfl):EE X G dl (.Call (.Attribute a "join" apos) [e] [] bo) (.str (Txt.join x xs)):=
 cy (zV PySem.F.plainAttrs_str PySem.F.slot_str_join PySem.F.type_str_join yu ha (ae he ai nB) jN o9 jO nB rfl) fun st H Q zq=>k3 zq fun Hf zq=>have S:=zq.1;have k:=zq.2;⟨Hf,S,fun v Hf1 H1 g1 r1=>by
   cases r1
   refine⟨rfl,Hf1,S.grow g1,fun us aR H2 g2 r2=>?_⟩
   cases r2 with
   | cons r2 t2=>cases t2;cases r2 with
     | @lst q vs _ hq rp=>
       have ev:=fk rp
       subst ev
       exact⟨x,q,xs,rfl,rfl,.of (g2.sub _ _ hq),aO,k _ aR H2 (g1.trans g2) (.str _)⟩⟩
end
noncomputable def bO (kds:List (Key×Dt))(k:Key):Option Dt:=(kds.find? fun kv=>decide (kv.1=k)).map (·.2)
theorem eV {p:Key×Dt}{r:List (Key×Dt)}{k:Key}(e:p.1=k):bO (p::r) k=some p.2:=by simp[bO,LO,e]
theorem dH {p:Key×Dt}{r:List (Key×Dt)}{k:Key}(e:¬ p.1=k):bO (p::r) k=bO r k:=by simp[bO,LO,e]
theorem bu.val {K:W.Frag}{H:Hp}{k:Key}:∀ {kvs:List (Key×V)} {kds:List (Key×Dt)} {d:Dt},bu K H kvs kds->bO kds k=some d->∃ v,dZ kvs k=some v/\Rep K H v d
 | _,_,_,.nil,e=>by cases e
 | (k1,v1)::r,(_,d1)::s,d,.cons h t,e=>by
   by_cases q:k1=k
   . rw[eV (p:=(k1,d1)) q] at e;cases e
     exact⟨v1,dA (p:=(k1,v1)) q,h⟩
   . rw[dH (p:=(k1,d1)) q] at e
     obtain⟨v,z1,z2⟩:=bu.val t e
     exact⟨v,by rw[dB (p:=(k1,v1)) q];exact z1,z2⟩
theorem bu.lC {K:W.Frag}{H:Hp}{k:Key}:∀ {kvs:List (Key×V)} {kds:List (Key×Dt)},bu K H kvs kds->(dZ kvs k).isSome=(bO kds k).isSome
 | _,_,.nil=>rfl
 | (k1,v1)::r,(_,d1)::s,.cons h t=>by
   by_cases q:k1=k
   . rw[dA (p:=(k1,v1)) q,eV (p:=(k1,d1)) q];rfl
   . rw[dB (p:=(k1,v1)) q,dH (p:=(k1,d1)) q]
     exact bu.lC t
theorem bu.snoc {K:W.Frag}{H:Hp}{k:Key}{v:V}{d:Dt}(q:Rep K H v d):∀ {kvs:List (Key×V)} {kds:List (Key×Dt)},bu K H kvs kds->bu K H (kvs ++ [(k,v)]) (kds ++ [(k,d)])
 | _,_,.nil=>.cons q .nil
 | _,_,.cons h t=>.cons h (bu.snoc q t)
theorem yw {kvs:List (Key×V)}{k:Key}{v:V}(h:(dZ kvs k).isSome=false):putK kvs k v=kvs ++ [(k,v)]:=by
 unfold putK
 rw[eR,h]
 exact if_neg (by simp)
section
variable {X:Cx}{G:Gr}{E:XK}{dl:List Slot}{a b e i o:Expr}{d:Dt}{pos p:Pos}{k x:Str}{kds:List (Key×Dt)}
theorem yx (hu:X.A.units+1 < cLine)(ho:EE X G dl o (.bK kds))(hi:EE X G dl i (.str k))(h:bO kds (.inr k)=some d)(hs:uy i):EE X G dl (.Subscript o i pos) d:=
 cy (md hu ho hi hs) fun st H Q zq=>k3 zq fun Hf zq=>have S:=zq.1;have kk:=zq.2;⟨Hf,S,fun v Hf1 H1 g1 r1=>⟨Hf1,S.grow g1,fun w aR H2 g2 r2=>by
   cases r2
   cases r1 with
   | @bK q kvs _ hq rp=>
     obtain⟨y,z1,z2⟩:=rp.val h
     have e:=dt.k (H:=H2) (k:=.inr k) (g2.big _ _ (g1.sub _ _ hq))
     rw[z1] at e
     exact⟨q,y,rfl,e,kk y aR H2 (g1.trans g2) (z2.mono g2.a7)⟩⟩⟩
theorem GU {neg:Bool}:∀ st H Q,tD X.K G dl (.bl (if neg then !(bO kds (.inr k)).isSome else (bO kds (.inr k)).isSome)) st H Q->(if neg then ma (tD X.K G dl (.str k)) (tD X.K G dl (.bK kds)) else AZ (tD X.K G dl (.str k)) (tD X.K G dl (.bK kds))) st H Q:=fun st H Q zq=>k3 zq fun Hf zq=>have S:=zq.1;have kk:=zq.2;by
 cases neg with
 | false=>exact⟨Hf,S,fun v Hf1 H1 g1 r1=>⟨Hf1,S.grow g1,fun w aR H2 g2 r2=>by
     cases r1
     cases r2 with
     | @bK q kvs _ hq rp=>exact⟨q,_,rfl,dt.k (k:=.inr k) (g2.sub _ _ hq),by rw[rp.lC];exact kk _ aR H2 (g1.trans g2) (.bl _)⟩⟩⟩
 | true=>exact⟨Hf,S,fun v Hf1 H1 g1 r1=>⟨Hf1,S.grow g1,fun w aR H2 g2 r2=>by
     cases r1
     cases r2 with
     | @bK q kvs _ hq rp=>exact⟨q,_,rfl,dt.k (k:=.inr k) (g2.sub _ _ hq),by rw[rp.lC];exact kk _ aR H2 (g1.trans g2) (.bl _)⟩⟩⟩
theorem qF (hu:X.A.units+1 < cLine)(hi:EE X G dl i (.str k))(ho:EE X G dl o (.bK kds))(hm:behindInMarks .NotIn o=false:=by rfl):EB X G dl (.Compare i [.NotIn] [o] pos) (!(bO kds (.inr k)).isSome):=
 A8 (lX (rZ hu hi ho) hm) fun st H Q zq=>k3 zq fun Hf zq=>have S:=zq.1;have kk:=zq.2;GU (neg:=true) st H _ ⟨Hf,S,fun v ar H' g r=>by cases r;exact⟨_,rfl,kk ar H' g⟩⟩
theorem n4:bootBuiltins "tuple"=some (.type "tuple"):=by decide +kernel
theorem yy {ds:List Dt}(hm:X.mg "tuple"=none)(ha:EE X G dl a (.tup ds))(hg:Gl X "tuple":=by rfl)(he:starEach [a] X.env=[(false,eval a X.env)]:=by rfl):EE X G dl (.Call (.Name "tuple" p) [a] [] pos) (.tup ds):=
 cy (k8 nI hg hm n4 (ae ha ai he) (he:=he)) fun st H Q zq=>k3 zq fun Hf zq=>have S:=zq.1;have k:=zq.2;⟨Hf,S,fun vs Hf1 H1 g1 r1=>by
   cases r1 with
   | cons r t=>cases t;cases r with
     | @tup q vs _ z r=>exact⟨q,vs,rfl,cg g1.sub z,k _ Hf1 H1 g1 (.tup z r)⟩⟩
theorem yz:EO X G dl (.Dict [] [] pos) (.bK []):=cy nL fun st H Q zq=>k3 zq fun Hf zq=>have S:=zq.1;have k:=zq.2;fun p hp=>k p Hf _ (.cN S.sub hp) hp (S.sub.free hp) ⟨[],ak,.nil⟩
noncomputable def fU (kds:List (Key×Dt))(k:Key)(v:Dt):List (Key×Dt):=
 if (bO kds k).isSome=true then kds.map (fun kv=>if kv.1=k then (kv.1,v) else kv) else kds ++ [(k,v)]
theorem bu.map_put {K:W.Frag}{H:Hp}{k:Key}{v:V}{d:Dt}(q:Rep K H v d):∀ {kvs:List (Key×V)} {kds:List (Key×Dt)},bu K H kvs kds ->
   bu K H (kvs.map fun kv=>if kv.1=k then (kv.1,v) else kv) (kds.map fun kv=>if kv.1=k then (kv.1,d) else kv)
 | _,_,.nil=>.nil
 | (k1,v1)::r,(_,d1)::s,.cons h t=>by
   rw[Lv,Lv]
   by_cases e:k1=k
   . rw[if_pos e,if_pos e];exact .cons q (bu.map_put q t)
   . rw[if_neg e,if_neg e];exact .cons h (bu.map_put q t)
theorem bu.put {K:W.Frag}{H:Hp}{k:Key}{v:V}{d:Dt}{kvs:List (Key×V)}{kds:List (Key×Dt)}(q:Rep K H v d)(r:bu K H kvs kds):bu K H (putK kvs k v) (fU kds k d):=by
 unfold putK fU
 rw[eR,r.lC]
 by_cases h:(bO kds k).isSome=true
 . rw[if_pos h,if_pos h];exact bu.map_put q r
 . rw[if_neg h,if_neg h];exact bu.snoc q r
theorem yA (n:Nat){ps pn:Pos}(hu:X.A.units+1 < cLine)(he:EE X G dl e d)(hb:EE X G dl b (.str k))(hl:kds.length < sizeLine)(hd:dl[n]?=some (.own (.bK kds)):=by rfl)(hN:X.N[n]?=some x:=by rfl)(hv:nu X.env.scope x:=by first | exact LV rfl | exact LJ (LV rfl) | exact LJ (LJ rfl))(eP:(x == ("__debug__":Str))=false:=by decide)(eE:(x == ("__classdict__":Str))=false:=by decide)(hs:swapsWith e (some (.Subscript (.Name x pn) b ps)) pos.line X.env=pure false:=by rfl):ES X G E dl (.Assign [.Subscript (.Name x pn) b ps] e pos) (.nx (dl.set n (.own (.bK (fU kds (.inr k) d))))):=
 nS (jh hu (iQ (p:=pn) n hd hN hv eP eE) hb he hs) fun D st H zq=>k3 zq fun Hf zq=>have S:=zq.1;have kk:=zq.2;⟨Hf,S,fun v Hf1 H1 g1 r1=>by
   have S1:=S.grow g1
   obtain⟨q,z1,z2,z3,z4⟩:=S1.own n _ hd
   refine⟨Hf1,q,S1,z1,z2,z4,Hf1,S1,fun iv aR H2 g2 r2=>?_⟩
   cases r2
   have S2:=S1.grow g2
   obtain⟨q',y1,y2,y3,kvs,y4,y5⟩:=S2.own n _ hd
   rw[z1] at y1;cases y1
   have D6:kvs.length < sizeLine:=by rw[y5.length];exact hl
   exact⟨q,_,rfl,kM.k (k:=.inr k) y4 D6,kk st aR _ (g1.a7.trans g2.a7) (S2.uI hd z1 ⟨_,ak,y5.put (r1.mono g2.a7)⟩)⟩⟩
noncomputable def fV (rows:List (Str×List Dt)):List (Key×Dt):=rows.map fun r=>(.inr r.1,.tup (.str r.1::r.2))
noncomputable def j9 (r:Str×List Dt):Dt:=.tup (.str r.1::r.2)
theorem fo {k:Key}:∀ {kds:List (Key×Dt)},(∀ kv∈kds,kv.1≠k)->bO kds k=none
 | [],_=>rfl
 | kv::r,h=>by
   rw[dH (h kv (Lu ..))]
   exact fo fun z hz=>h z (KY _ hz)
theorem vv {rows:List (Str×List Dt)}(nd:(rows.map (·.1)).Nodup){j:Nat}(hj:j < rows.length):bO (fV (rows.take j)) (.inr rows[j].1)=none:=by
 refine fo fun kv D7=>?_
 obtain⟨r,hr,rfl⟩:=LK.mp D7
 intro z
 have z:r.1=rows[j].1:=Sum.inr.inj z
 obtain⟨i,hi,e⟩:=Mb.mp hr
 have EZ:i < j:=by
   rw[LC] at hi;omega
 rw[Mo] at e
 have JI:i < rows.length:=by omega
 have h:=L7.mp nd i j (by rw[Bn];exact JI) (by rw[Bn];exact hj) EZ
 rw[Md,Md] at h
 exact h (by rw[e];exact z)
theorem pH (rows:List (Str×List Dt)){j:Nat}(hj:j < rows.length):fV (rows.take (j+1))=fV (rows.take j) ++ [(.inr rows[j].1,j9 rows[j])]:=by
 unfold fV
 rw[L3,fe hj,LQ];rfl
theorem aL.ka {Hf H ar H':Hp}{a:Addr}{u:HO}(g:aL Hf H ar H')(n:Hf a=none)(h:H a=some u)(nk:¬ Kept u:=by exact fun z=>z):ar a=none:=by
 cases q:ar a with
 | none=>rfl
 | some o=>
   obtain⟨o',z⟩:=g.mf h nk q
   rw[n] at z;cases z
theorem mJ {K:W.Frag}{st:L2.St}{Hf H:Hp}{dlu:List Slot}{p:Addr}{o:HO}(S:bW K G st Hf H dlu)(ll:noOwn dlu=true)(fp:Hf p=none)(gp:G.H p=none):bW K G st Hf (upd H p o) dlu:=
 ⟨⟨fun b u e=>by rw[aj (ao e gp)];exact S.gr.big _ _ e,S.gr.a7,fun b u e=>by rw[aj (ao e fp)];exact S.sub _ _ e,S.gr.new⟩,S.len,S.val,fun j o h=>absurd h (cK ll j o),fun j _ o _ _ h=>absurd h (cK ll j o)⟩
theorem vw (nR nN:Nat){C z:Addr}{fs:List (Str×Dt)}{rows:List (Str×List Dt)}{f self rw_ rn:Str}{px pr pa pn p1 p3 p4 p5 p6 pi:Pos}{ie ve:Expr}{dlu:List Slot}(hu:X.A.units+1 < cLine)(hN:X.N.Nodup)(jX:X.calm=true)(hp:PassesOwn (model X.prog X.w) X.A X.env X.xe)(cl:l3 X.K C)(na:de X.K C f)(hd:dl[0]?=some (.own (.qr z C fs)))(JJ:dl.set 0 .bb=dlu)(ll:noOwn dlu=true)(hr:dlu[nR]?=some (.val (.lst (rows.map j9))))(JK:nN≠0)(K1:nN≠nR)(JL:dlu[nN]?=some .bb)(nd:(rows.map (·.1)).Nodup)(hlen:rows.length < sizeLine)(hi:∀ r:Str×List Dt,EE X G (dlu.set nN (.val (j9 r))) ie (.str r.1))(hv:∀ r:Str×List Dt,EE X G (dlu.set nN (.val (j9 r))) ve (j9 r))(hl:Nat.ble fs.length 999=true:=by rfl)(JM:X.N[0]?=some self:=by rfl)(JN:X.N[nR]?=some rn:=by rfl)(JO:X.N[nN]?=some rw_:=by rfl)(JP:nu X.env.scope self:=by first | exact LV rfl | exact LJ (LV rfl) | exact LJ (LJ rfl))(JQ:nu X.env.scope rn:=by first | exact LV rfl | exact LJ (LV rfl) | exact LJ (LJ rfl))(eP:(self == ("__debug__":Str))=false:=by decide)(eE:(self == ("__classdict__":Str))=false:=by decide)(GV:(rn == ("__debug__":Str))=false:=by decide)(GW:(rn == ("__classdict__":Str))=false:=by decide)(hx:Loc X.env.scope rw_:=by first | exact LV rfl | exact LJ rfl)(hf:X.fn rw_=true\/X.env.scope.names.lookup rw_=some .local:=by first | exact .inl rfl | exact .inr rfl | assumption)(Gu:swapsWith (.Dict [] [] p1) (some (.Attribute (.Name self pn) f pa)) pos.line X.env=pure false:=by rfl)(kK:swapsWith ve (some (.Subscript (.Attribute (.Name self p3) f p4) ie p5)) p6.line X.env=pure false:=by rfl)(hb:attributeBase (.Name self p3) f X.env (eval (.Name self p3) X.env)=eval (.Name self p3) X.env:=by rfl)(JR:∀ z,foldedSetIterable (.Name rn pr) X.env z=pure z:=by intro _;rfl):ji X G E dl [.Assign [.Attribute (.Name self pn) f pa] (.Dict [] [] p1) pos,.For (.Name rw_ px) (.Name rn pr) [.Assign [.Subscript (.Attribute (.Name self p3) f p4) ie p5] ve p6] [] pi] (.nx (dlu.set 0 (.own (.qr z C (putD f (.bK (fV rows)) fs))))):=by
 have Aa:∀ {p:Pos},PE X (.Name self p) fun st H Q=>∃ v,st[0]?=some (some v)/\Q v H:=fun {p}=>jE JM JP eP eE
 have gz:=lY (jh (pos:=p6) (pos':=p5) hu (uf (pos:=p4) (Aa (p:=p3)) hb) (fun pins s st H Q I (q:∃ r,tD X.K G (dlu.set nN (.val (j9 r))) (.str r.1) st H Q)=>let ⟨r,q⟩:=q;hi r pins s st H Q I q) (fun pins s st H Q I (q:∃ r,tD X.K G (dlu.set nN (.val (j9 r))) (j9 r) st H Q)=>let ⟨r,q⟩:=q;hv r pins s st H Q I q) kK)
 refine uJ (jG (ug (pos:=pos) (pos':=pa) (Aa (p:=pn)) nL Gu) (lY (oX hp jX (fb (jE (pos:=pr) JN JQ GV GW)) (aU hN JO hx hf) gz JR))) fun D st H zq=>k3 zq fun Hf zq=>have S:=zq.1;have k:=zq.2;?_
 obtain⟨a,sa,fa,ga,ea,dx,fv,ha,rf⟩:=S.own 0 _ hd
 intro p GX
 have Fe:a≠p:=ao ha GX
 have fp:Hf p=none:=S.sub.free GX
 have gp:G.H p=none:=S.gr.big.free GX
 have JS:(upd H p (.dK [])) a=some (.ins C dx fv):=by rw[aj Fe];exact ha
 refine⟨.ref a,sa,a,C,dx,fv,rfl,JS,cl,na,by rw[rf.length];exact Nat.lt_succ_of_le (L8 hl),?_⟩
 have S0:bW X.K G st Hf H dlu:=by
   subst JJ
   refine⟨S.gr,by simp[S.len],fun j d h=>?_,fun j o h=>absurd h (cK ll j o),fun j _ o _ _ h=>absurd h (cK ll j o)⟩
   by_cases e:0=j
   . subst e
     by_cases BQ:0 < dl.length
     . rw[Ja BQ] at h;cases h
     . exact absurd (KP.mp hd).1 BQ
   . rw[J4 e] at h;exact S.val j d h
 have Su:bW X.K G st Hf (upd (upd H p (.dK [])) a (.ins C dx (dq f (.ref p) fv))) dlu:=mJ (mJ S0 ll fp gp) ll fa ga
 obtain⟨lv,D8,Ij⟩:=Su.val nR _ hr
 cases Ij with
 | @lst la vs _ hq rp=>
   have JT:vs.length=rows.length:=by rw[rp.length,Bn]
   refine⟨.ref la,D8,la,rfl,⟨vs,.of (Su.sub _ _ hq)⟩,t7 (xs:=vs) (fun j eM H'=>∃ ar kvs,bW X.K G eM ar H' dlu/\aw Hf ar/\eM[0]?=some (some (.ref a))/\ar a=none/\ar p=none/\H' a=some (.ins C dx (dq f (.ref p) fv))/\H' p=some (.dK kvs)/\bu X.K ar kvs (fV (rows.take j)))
     ⟨Hf,[],Su,aw.refl _,sa,fa,fp,ak,by rw[aj (Ne.symm Fe)];exact ak,by rw[List.take_zero];exact .nil⟩ ?_ ?_ ?_⟩
   . rintro j eM H' _ ⟨ar,kvs,S',sm,_⟩
     exact .of (S'.sub _ _ (sm _ _ hq))
   . rintro j v eM H' ER ⟨ar,kvs,S',sm,s0,GY,GZ,CK,Ff,rk⟩
     obtain⟨dz,hz,rz⟩:=rp.get' ER
     have hj:j < rows.length:=by
       have:=(KP.mp ER).1
       omega
     rw[J7,fe hj] at hz
     cases hz
     have Sp:bW X.K G (eM.set nN (some v)) ar H' (dlu.set nN (.val (j9 rows[j]))):=S'.set (rz.mono sm)
     have Ik:(eM.set nN (some v))[0]?=some (some (.ref a)):=by rw[J4 JK];exact s0
     refine⟨rows[j],ar,Sp,fun w Hf1 H1 g1 r1=>⟨.ref a,Ik,a,C,dx,_,.ref p,rfl,.of (g1.big _ _ CK),cl,na,by rw[eO,if_pos rfl],rows[j],Hf1,Sp.grow g1,fun y aR H2 g2 r2=>?_⟩⟩
     cases r2
     have g:=g1.trans g2
     have Gi:H2 p=some (.dK kvs):=g.big _ _ Ff
     have JU:H2 a=some (.ins C dx (dq f (.ref p) fv)):=g.big _ _ CK
     have Il:aR p=none:=g.ka GZ Ff
     have JV:aR a=none:=g.ka GY CK
     have JW:=rk.mono g.a7
     have Ab:kvs.length < sizeLine:=by
       rw[rk.length]
       unfold fV
       rw[Bn,LC];omega
     have yB:(dZ kvs (.inr rows[j].1)).isSome=false:=by rw[rk.lC,vv nd hj];rfl
     have Sw:bW X.K G (eM.set nN (some v)) aR H2 dlu:=(Sp.grow g).weak ⟨by simp,fun i s e n=>by
       by_cases hi:nN=i
       . subst hi;rw[JL] at e;cases e;exact absurd rfl n
       . rw[J4 hi];exact e⟩
     refine⟨p,_,rfl,kM.k (k:=.inr rows[j].1) Gi Ab,aR,_,mJ Sw ll Il gp,sm.trans g.a7,Ik,JV,Il,by rw[aj Fe];exact JU,ak,?_⟩
     rw[yw yB,pH rows hj]
     exact JW.snoc (r1.mono g2.a7)
   . rintro eM H' ⟨ar,kvs,S',sm,s0,GY,GZ,CK,Ff,rk⟩
     rw[JT,LP] at rk
     have D9:aw ar (upd ar p (.dK kvs)):=aQ GZ
     have l0:0 < dlu.length:=by
       rw[<- S'.len]
       exact(KP.mp s0).1
     refine k eM (upd ar p (.dK kvs)) H' (sm.trans D9) ⟨⟨S'.gr.big,S'.gr.a7.trans D9,fun b u e=>?_,fun b u e=>?_⟩,by simp[S'.len],fun j d h=>?_,fun j o h=>?_,fun i j o o' q h1 h2 h3 h4=>?_⟩
     . by_cases hb:b=p
       . subst hb;rw[ak] at e;cases e;exact Ff
       . rw[aj hb] at e;exact S'.sub _ _ e
     . by_cases hb:b=p
       . subst hb;exact .inr (.inl gp)
       . rw[aj hb] at e;exact S'.gr.new b u e
     . by_cases e:0=j
       . subst e;rw[Ja l0] at h;cases h
       . rw[J4 e] at h
         obtain⟨v,z1,z2⟩:=S'.val j d h
         exact⟨v,z1,z2.mono D9⟩
     . by_cases e:0=j
       . subst e
         rw[Ja l0] at h;cases h
         exact⟨a,s0,by rw[aj Fe];exact GY,ga,ea,dx,_,CK,(rf.mono (sm.trans D9)).put (.bK ak (rk.mono D9))⟩
       . rw[J4 e] at h;exact absurd h (cK ll j o)
     . have z:∀ (i:Nat) o,(dlu.set 0 (.own (.qr z C (putD f (.bK (fV rows)) fs))))[i]?=some (.own o)->0=i:=fun i o h=>by
         by_cases e:0=i
         . exact e
         . rw[J4 e] at h;exact absurd h (cK ll i o)
       rw[<- z i o h1,<- z j o' h2]
end
theorem qG:∀ {xs:List V} {us:List Value},xs.length=us.length->(∀ (j:Nat) x u,xs[j]?=some x->us[j]?=some u->RelV x u)->Vals xs us
 | [],[],_,_=>.nil
 | [],_::_,h,_=>by cases h
 | _::_,[],h,_=>by cases h
 | x::xs,u::us,h,f=>.cons (f 0 x u rfl rfl) (qG (Nat.succ.inj h) fun j a b h1 h2=>f (j+1) a b (by simpa using h1) (by simpa using h2))
theorem vx:∀ {kvs:List (Key×V)} {vs:List (Key×Value)},KV kvs vs->∀ {j:Nat} {q:Key×Value},vs[j]?=some q->∃ p,kvs[j]?=some p/\p.1=q.1/\RelV p.2 q.2
 | _,_,.nil,j,q,h=>by simp at h
 | _,_,.cons r t,0,q,h=>by simp at h;subst h;exact⟨_,rfl,r⟩
 | _,_,.cons r t,j+1,q,h=>by
   obtain⟨p,h1,h2⟩:=vx t (j:=j) (q:=q) (by simpa using h)
   exact⟨p,by simpa using h1,h2⟩
theorem vy:∀ {kvs:List (Key×V)} {vs:List (Key×Value)},KV kvs vs->kvs.length=vs.length
 | _,_,.nil=>rfl
 | _,_,.cons r t=>congrArg (·+1) (vy t)
section
variable {X:Cx}{G:Gr}{dl:List Slot}{a o:Expr}{kds:List (Key×Dt)}{pos p:Pos}
theorem pI (hc:X.calm=true):eN X (.type "list") (fun xs H Q=>∃ (d:Addr) (kvs:List (Key×V)),xs=[.ref d]/\H d=some (.dK kvs)/\∀ l,H l=none->Q (.ref l) (upd H l (.lst (kvs.map fun kv=>kV kv.1)))):=by
 intro pins s σ H xs us Q I r h
 obtain⟨d,kvs,rfl,hq,q⟩:=h
 obtain⟨u,rfl,rx⟩:=vals1 r
 cases rx
 obtain⟨hz,lo,vs,kv,o,es,ep,ho,hr⟩:=I.aO d _ hq
 have hl:=vy kv
 refine W.kdl_call (W.kdl_dict (knd:=aX X.prog X.w) (kvs:=vs) (ep:=ep) lo) (I.ok.hd hc) ⟨o,es,ho,hr⟩ (by omega) fun h' tk Ea c' kp e it=>?_
 refine⟨.ref s.heap.objs.size,_,I.laid (t':=tk) kp (G1 _) (show aM X.prog X.w _ h' _ (.lst _) from⟨by rw[Bn];exact hz,Ea.toList,c',qG ?_ fun j x u h1 h2=>?_,e⟩),rfl,q _ (I.aO.fresh (G1 _))⟩
 . have e1:Ea.toList.length=vs.length:=by rw[Mh];exact it.1
   rw[Bn,e1,hl]
 . rw[Array.getElem?_toList] at h2
   obtain⟨k,y,z1,z2⟩:=it.2 j u h2
   obtain⟨p,z3,z4,_⟩:=vx kv z1
   rw[J7,z3] at h1
   cases h1
   have z4:p.1=k:=z4
   show RelV (kV p.1) u
   rw[z4]
   rcases a0 z2 with⟨i,t,rfl,rfl⟩ | ⟨i,t,rfl,rfl⟩
   . exact⟨t,rfl⟩
   . exact⟨t,rfl⟩
noncomputable def kD:Key->Dt
 | .inl i=>.int i
 | .inr x=>.str x
theorem iw {K:W.Frag}{H:Hp}:∀ {kvs:List (Key×V)} {kds:List (Key×Dt)},bu K H kvs kds->aS K H (kvs.map fun kv=>kV kv.1) (kds.map fun kd=>kD kd.1)
 | _,_,.nil=>.nil
 | (.inl i,_)::_,_,.cons _ t=>.cons (.int i) (iw t)
 | (.inr i,_)::_,_,.cons _ t=>.cons (.str i) (iw t)
theorem vz (hm:X.mg "list"=none)(hc:X.calm=true)(ha:EE X G dl a (.bK kds))(hg:Gl X "list":=by rfl)(he:starEach [a] X.env=[(false,eval a X.env)]:=by rfl):EO X G dl (.Call (.Name "list" p) [a] [] pos) (.lst (kds.map fun kd=>kD kd.1)):=
 cy (k8 (pI hc) hg hm boot_list (ae ha ai he) (he:=he)) fun st H Q zq=>k3 zq fun Hf zq=>have S:=zq.1;have k:=zq.2;⟨Hf,S,fun vs Hf1 H1 g1 r1=>by
   cases r1 with
   | cons r t=>cases t;cases r with
     | @bK q kvs _ z r=>exact⟨q,kvs,rfl,g1.sub _ _ z,fun l hl=>k l Hf1 _ (g1.trans (.cN g1.sub hl)) (g1.big.free hl) (g1.sub.free hl) ⟨_,ak,iw r⟩⟩⟩
end
section
variable {K:W.Frag}
theorem BR {n m l:Nat}{z1 z2 z3:Dt}:Fc K (AD K 3 (kX (fS n) (kX (fS m) (kX (fS l) AB)))) (.tup [z1,z2,z3]) (fun dl=>((dl.set n (.val z1)).set m (.val z2)).set l (.val z3)):=fun G st Hf H v dl Q S r k=>by
 cases r with
 | @tup q vs _ hq rp=>
   cases rp with
   | cons r1 t1=>cases t1 with
     | cons r2 t2=>cases t2 with
       | cons r3 t3=>
         cases t3
         exact⟨q,_,rfl,cg S.sub hq,rfl,_,_,rfl,_,_,rfl,_,_,rfl,rfl,k _ (((S.set r1).set r2).set r3)⟩
end
noncomputable def Eb (x:Str):It:=
 ⟨fun i H=>∃ c,x.cps[i]?=some c,fun i H v H'=>∃ p c,v=.ref p/\H p=none/\H'=upd H p (.tup [.int i,.str ⟨#[c]⟩])/\x.cps[i]?=some c,fun i H=>i=x.cps.size⟩
theorem pJ {P:Program}{w:World}{K:W.Frag}{elts:List Expr}{kt:Nat}{hU:Pos}(x:Str)(t:Tok)(e it:Addr)(CJ:e≠it):Turn P w K (.Tuple elts kt hU) (Eb x) [e,it] e (fun i h=>(∃ old,IsEnum h e it i old)/\h.IsStrIter it "str_ascii_iterator" x t i) where
 mem:=by simp
 obj:=fun i h st b hb=>by
   obtain⟨⟨old,he⟩,o,e2,c,d⟩:=st
   rcases K4.mp hb with rfl | hb
   . exact⟨_,he,fun v z=>by cases z⟩
   . have:b=it:=by simpa using hb
     subst this
     exact⟨o,e2,fun v z=>by rw[d] at z;cases z⟩
 keep:=fun i h h' st k=>by
   obtain⟨⟨old,he⟩,o,e2,r⟩:=st
   exact⟨⟨old,k e (by simp) _ he⟩,o,k it (by simp) o e2,r⟩
 item:=by
   intro X hP hw hK hc i pins s σ H E I hf st hg
   subst hP hw hK
   obtain⟨c,hx⟩:=hg
   obtain⟨⟨old,he⟩,hit⟩:=st
   have z8:e < s.heap.objs.size:=KJ he
   have GR:it < s.heap.objs.size:=by obtain⟨_,z,_⟩:=hit;exact KJ z
   have bM:i < x.cps.size:=(Array.getElem?_eq_some_iff.mp hx).1
   refine wpAny_pyNext_enum_itemD (Draws.strAscii (A:=X.A.in1) (I.ok.hd hc) it x t) he hit bM CJ (by simpa using CJ) fun u h1 tk hP ho BL hT hsz hk=>?_
   obtain⟨c',u',oU,rfl⟩:=hP
   rw[hx] at oU;cases oU
   refine⟨_,rfl,wpAny_letOwnedTupleGo_enum ho fun h2 DE kK=>?_⟩
   have D3:h2.get? s.heap.objs.size=some { cls:=.type "tuple",data:=.seq #[.int i tk,.str ⟨#[c]⟩ u']}:=(kK.2 _ (Mz z8)).trans hT
   have k2:∀ b o,b ∉ [e,it]->s.heap.get? b=some o->h2.get? b=some o:=fun b o hb q=>(kK.2 b fun z=>hb (by simp[z])).trans (hk b o (fun z=>hb (by simp[z])) (fun z=>hb (by simp[z])) q)
   have hp:H s.heap.objs.size=none:=I.aO.fresh (G1 _)
   have I2:L2.Inv X pins σ (upd H s.heap.objs.size (.tup [.int i,.str ⟨#[c]⟩])) { s with heap:=h2,toks:=tk+1}:=j7 I hf k2 (G1 _) ⟨L8 rfl,[.int i tk,.str ⟨#[c]⟩ u'],.cons ⟨_,rfl⟩ (.cons ⟨_,rfl⟩ .nil),_,D3,rfl,_,rfl⟩
   refine⟨.ref s.heap.objs.size,_,I2,rfl,⟨_,c,rfl,hp,rfl,hx⟩,⟨⟨_,by simpa using DE⟩,let ⟨o,z1,z2⟩:=BL;⟨o,(kK.2 it (Ne.symm CJ)).trans z1,z2⟩⟩,fun b hb=>?_⟩
   have:b≠s.heap.objs.size:=by
     rcases K4.mp hb with rfl | hb
     . exact Lq z8
     . have:b=it:=by simpa using hb
       subst this
       exact Lq GR
   rw[aj this]
   exact(hf b hb).1
 done:=by
   intro X hP hw hK hc i pins s σ H E I hf st hg
   subst hP hw hK
   have hg:i=x.cps.size:=hg
   subst hg
   obtain⟨⟨old,he⟩,hit⟩:=st
   obtain⟨f0,f1,f2,f3,f4,f5⟩:=hf it (by simp)
   exact wpAny_pyNext_enum_endD (Draws.strAscii (A:=X.A.in1) (I.ok.hd hc) it x t) he hit fun h' eb=>⟨rfl,I.turned (t':=s.toks) (fun b o hb q=>eb b o hb q) f0 f1 f3 f4 f5⟩
 self:=fun _ i s Q E st h=>by
   obtain⟨⟨old,he⟩,_⟩:=st
   exact wpAny_pyIter_enum he h
section
variable {X:Cx}{G:Gr}{dl:List Slot}{a:Expr}{x:Str}{p pos:Pos}
def vA (ta:TA):TI:=fun σ H R=>ta σ H fun vs H1=>∃ x,vs=[.str x]/\cB x=true/\R (Eb x) H1
theorem vB {elts:List Expr}{kt:Nat}{hU:Pos}{ta:TA}(hg:Gl X "enumerate")(hm:X.mg "enumerate"=none)(ha:PA X [a] ta)(hs:starEach [a] X.env=[(false,eval a X.env)]:=by rfl):PI X (.Tuple elts kt hU) (.Call (.Name "enumerate" p) [a] [] pos) (vA ta):=by
 intro pins s σ H R I h
 refine Call_ (dX I hg hm boot_enumerate (PyProof.Rows.callWith_type1 (aT (ha pos pins s σ H _ I h) fun us s1 ⟨vs,H1,I1,r1,q1⟩=>?_) hs rfl))
 obtain⟨x,e,BS,q⟩:=q1
 subst e
 cases r1 with
 | cons r rr=>
   cases rr
   obtain⟨t,rfl⟩:=r
   refine call_enumerate_str fun h' he hit hsz k=>wpAny_pyIter_enum he ?_
   have Dp:strIterType x="str_ascii_iterator":=by unfold strIterType;rw[show x.cps.all (· < 128)=true from BS];rfl
   rw[Dp] at hit
   have I2:L2.Inv X pins σ H1 { s1 with heap:=h'}:=I1.kept (t':=s1.toks) k
   refine⟨s1.heap.objs.size+1,[s1.heap.objs.size+1,s1.heap.objs.size],_,_,H1,rfl,I2,pJ x t _ s1.heap.objs.size (MD _),⟨⟨_,he⟩,hit⟩,fun b hb=>?_,q⟩
   have uP:s1.heap.objs.size<=b:=by
     rcases K4.mp hb with rfl | hb
     . exact Mp _
     . have:b=s1.heap.objs.size:=by simpa using hb
       rw[this];exact G1 _
   exact I1.lZ uP (I1.aO.fresh uP)
theorem pK (hx:cB x=true):iY X G dl (iS (Sg.signs x)) (vA (CH X.K G dl [.str x])):=fun st H R zq=>k3 zq fun Hf zq=>have S:=zq.1;have k:=zq.2;⟨Hf,S,fun vs Hf1 H1 g1 r1=>by
 cases r1 with
 | cons r t=>
   cases t
   cases r
   refine⟨x,rfl,hx,k _ Hf1 H1 g1 fun aR H2 s1 s2 i=>⟨fun z hz=>?_,fun hi=>?_⟩⟩
   . have hi:i < (Sg.signs x).length:=by
       have:=(KP.mp hz).1
       unfold iS at this
       simpa using this
     unfold iS at hz
     rw[J7,LH hi] at hz
     cases hz
     have yC:(Sg.signs x)[i]?=some ((Sg.signs x).getD i .aW):=by rw[E2,fe hi];rfl
     rw[signs_get] at yC
     cases q:x.cps[i]? with
     | none=>rw[q] at yC;cases yC
     | some c=>
       rw[q] at yC
       have yC:Dt.str ⟨#[c]⟩=(Sg.signs x).getD i .aW:=Option.some.inj yC
       refine⟨⟨c,q⟩,fun v H3 ⟨p,c',e1,e2,e3,e4⟩=>?_⟩
       rw[q] at e4;cases e4
       subst e1 e3
       show ∃ fR,aL aR H2 fR _/\Rep X.K fR (V.ref p) (Dt.tup [Dt.int i,(Sg.signs x).getD i Dt.aW])
       rw[<- yC]
       exact⟨upd aR p (.tup [.int i,.str ⟨#[c]⟩]),.alloc s2 e2,.tup (.of ak) (.cons (.int _) (.cons (.str _) .nil))⟩
   . show i=x.cps.size
     unfold iS at hi
     rw[Bn,Lo,c7] at hi
     exact hi⟩
end
theorem BU {us:List Value}{d:Value}(h:(us ++ [d]).length=3):∃ a b,us=[a,b]:=by
 rw[Lz] at h
 have h:us.length=2:=Nat.succ.inj h
 match us,h with
 | [a,b],_=>exact⟨a,b,rfl⟩
end Sg
namespace Sg
open PySem PySem.Spec PyProof.Rows L2
open Sem (wp)
structure gb (z tI tO j1 j2:Addr)(f1 f2:List Addr):Prop where
 tz:tI≠z
 oz:tO≠z
 az:j1≠z
 bz:j2≠z
 to:tI≠tO
 ta:tI≠j1
 tb:tI≠j2
 oa:tO≠j1
 ob:tO≠j2
 ab:j1≠j2
 z1:z ∉ f1
 o1:tO ∉ f1
 b1:j2 ∉ f1
 z2:z ∉ f2
 o2:tO ∉ f2
 a2:j1 ∉ f2
section
variable {prog:Program}{w:World}{A:Around}{E:Value->Shared->Prop}{s:Shared}
variable {z tI tO j1 j2:Addr}{f1 f2:List Addr}{n1 n2 k:Nat}{P1 P2:Nat->Value->Prop}{S1 S2:Nat->Heap->Prop}{a b:Value}
theorem vC (D1:Draws prog w A j1 f1 n1 P1 S1)(D2:Draws prog w A j2 f2 n2 P2 S2)(ap:gb z tI tO j1 j2 f1 f2){Q:Value->Shared->Prop}(hz:IsZip s.heap z tI tO .none)(hI:IsPair s.heap tI (.ref j1) (.ref j2))(hO:IsPair s.heap tO a b)(q1:S1 k s.heap)(q2:S2 k s.heap)(l1:k < n1)(l2:k < n2)(hQ:∀ x y h' tk,P1 k x->P2 k y->IsZip h' z tI tO (rawInt s.heap.objs.size)->IsPair h' tO x y->S1 (k+1) h'->S2 (k+1) h'->IsPair h' s.heap.objs.size x y->(∀ c o,c≠z->c≠tO->c≠j1->c≠j2->s.heap.get? c=some o->h'.get? c=some o)->Q (.ref s.heap.objs.size) { s with heap:=h',toks:=tk}):wpAny (model prog w) A (Builtin.«zip.__next__» ⟨[.ref z],[]⟩) (fun fin s'=>∃ v,fin=.done (.ret v)/\Q v s') E s:=by
 obtain⟨hp,g,dr,t0,os⟩:=s
 show wpAny _ _ (field (.ref z) 2 >>= _) _ _ _
 refine wpAny_bind (wpAny_field hz rfl (x:=.bool false) rfl ?_);show wpAny _ _ (field (.ref z) 3 >>= _) _ _ _
 refine wpAny_bind (wpAny_field hz rfl (x:=.ref tI) rfl (wpAny_bind (wpAny_seqItems hI rfl ?_)))
 show wpAny _ _ (Builtin.SmallTypes.ownedTupleIsFree (.ref z) >>= _) _ _ _;refine wpAny_bind ?_
 unfold Builtin.SmallTypes.ownedTupleIsFree;refine wpAny_bind (wpAny_field hz rfl (x:=.none) rfl (wpAny_pure ?_))
 simp only[if_true];refine wpAny_bind (wpAny_rule (wpAny_bind (wpAny_field hz rfl (x:=.ref tO) rfl ?_)))
 refine wpAny_bind (wpAny_setField_rec hz (by simp) fun h1 vD e1=>?_)
 replace vD:IsZip h1 z tI tO .ellipsis:=vD
 refine wpAny_bind ?_;simp only[List.zipIdx_cons,List.zipIdx_nil,MK,List.forIn_nil]
 refine wpAny_bind (wpAny_bind (wpAny_onRaise ?_));show wpAny _ _ (Builtin.SmallTypes.nextOf (.ref j1) >>= _) _ _ _
 have ne1:∀ c∈f1,c≠z:=fun c hc e=>ap.z1 (e ▸ hc)
 have ne2:∀ c∈f2,c≠z:=fun c hc e=>ap.z2 (e ▸ hc)
 refine wpAny_bind (D1.item k _ _ _ l1 (D1.frame _ _ _ q1 fun c hc o e=>e1.extBut _ _ (ne1 c hc) e) fun x h2 t2 px Fg e2=>wpAny_pure ?_)
 replace e2:Ma j1 h1 h2:=e2
 have Ec:IsPair h2 tO a b:=e2.extBut _ _ ap.oa (e1.extBut _ _ ap.oz hO)
 refine wpAny_bind (wpAny_seqItems Ec rfl (wpAny_bind (wpAny_updateSeq_pair Ec fun h3 Fh e3=>?_)))
 replace Fh:IsPair h3 tO x b:=Fh
 replace e3:Ma tO h2 h3:=e3
 refine wpAny_bind (wpAny_letGo (wpAny_pure ?_));refine wpAny_bind (wpAny_bind (wpAny_onRaise ?_))
 show wpAny _ _ (Builtin.SmallTypes.nextOf (.ref j2) >>= _) _ _ _
 refine wpAny_bind (D2.item k _ _ _ l2 (D2.frame _ _ _ q2 fun c hc o e=>e3.extBut _ _ (fun z=>ap.o2 (z ▸ hc)) (e2.extBut _ _ (fun z=>ap.a2 (z ▸ hc)) (e1.extBut _ _ (ne2 c hc) e))) fun y h4 t4 py JX e4=>wpAny_pure ?_)
 replace e4:Ma j2 h3 h4:=e4
 have Im:IsPair h4 tO x b:=e4.extBut _ _ ap.ob Fh
 refine wpAny_bind (wpAny_seqItems Im rfl (wpAny_bind (wpAny_updateSeq_pair Im fun h5 Fi e5=>?_)))
 replace Fi:IsPair h5 tO x y:=Fi
 replace e5:Ma tO h4 h5:=e5
 refine wpAny_bind (wpAny_letGo (wpAny_pure (wpAny_pure (wpAny_bind (wpAny_seqItems Fi rfl (wpAny_bind (wpAny_newTuple ?_)))))))
 have hsz:h5.objs.size=hp.objs.size:=by rw[e5.1,e4.1,e3.1,e2.1,e1.1]
 have Io:IsZip h5 z tI tO .ellipsis:=e5.extBut _ _ ap.oz.symm (e4.extBut _ _ ap.bz.symm (e3.extBut _ _ ap.oz.symm (e2.extBut _ _ ap.az.symm vD)))
 have k5:∀ c o,c≠z->c≠tO->c≠j1->c≠j2->hp.get? c=some o->h5.get? c=some o:=fun c o c1 c2 c3 c4 e=>e5.extBut _ _ c2 (e4.extBut _ _ c4 (e3.extBut _ _ c2 (e2.extBut _ _ c3 (e1.extBut _ _ c1 e))))
 have JY:S1 (k+1) h5:=D1.frame _ _ _ Fg fun c hc o e=>e5.extBut _ _ (fun z=>ap.o1 (z ▸ hc)) (e4.extBut _ _ (fun z=>ap.b1 (z ▸ hc)) (e3.extBut _ _ (fun z=>ap.o1 (z ▸ hc)) e))
 have JZ:S2 (k+1) h5:=D2.frame _ _ _ JX fun c hc o e=>e5.extBut _ _ (fun z=>ap.o2 (z ▸ hc)) e
 have zl:z < h5.objs.size:=KJ Io
 show wpAny _ _ (Builtin.SmallTypes.ownedTupleHandOut (.ref z) (.ref h5.objs.size) >>= _) _ _ _
 refine wpAny_bind ?_;unfold Builtin.SmallTypes.ownedTupleHandOut
 have J0:IsZip (h5.push { cls:=.type "tuple",data:=.seq #[x,y]}) z tI tO .ellipsis:=k0 _ Io
 refine wpAny_bind (wpAny_setField_rec J0 (by simp) fun h7 G0 e7=>?_)
 replace G0:IsZip h7 z tI tO (rawInt h5.objs.size):=G0
 refine wpAny_setField_rec G0 (by simp) fun h8 Fj e8=>?_
 replace Fj:IsZip h8 z tI tO (rawInt h5.objs.size):=Fj
 have up:∀ c o,c≠z->h5.get? c=some o->h8.get? c=some o:=fun c o c1 e=>e8.extBut _ _ c1 (e7.extBut _ _ c1 (k0 _ e))
 have Ip:IsPair h8 h5.objs.size x y:=e8.extBut _ _ (Mz zl) (e7.extBut _ _ (Mz zl) (K3 _ rfl))
 rw[hsz] at Fj Ip
 refine wpAny_pure ⟨_,rfl,?_⟩
 show Q (.ref h5.objs.size) _
 rw[hsz]
 exact hQ x y h8 t4 px py Fj (up _ _ ap.oz Fi) (D1.frame _ _ _ JY fun c hc o e=>up c o (ne1 c hc) e) (D2.frame _ _ _ JZ fun c hc o e=>up c o (ne2 c hc) e) Ip fun c o c1 c2 c3 c4 e=>up c o c1 (k5 c o c1 c2 c3 c4 e)
theorem sA (D1:Draws prog w A j1 f1 n1 P1 S1)(ap:gb z tI tO j1 j2 f1 f2){Q:Fin->Shared->Prop}(hz:IsZip s.heap z tI tO .none)(hI:IsPair s.heap tI (.ref j1) (.ref j2))(q1:S1 n1 s.heap)(hE:∀ h' e,(∀ c o,c≠z->c≠tO->c≠j1->c≠j2->s.heap.get? c=some o->h'.get? c=some o)->(∃ o,h'.get? e=some o/\o.cls=.type "StopIteration")->E (.ref e) { s with heap:=h'}):wpAny (model prog w) A (Builtin.«zip.__next__» ⟨[.ref z],[]⟩) Q E s:=by
 obtain⟨hp,g,dr,t0,os⟩:=s
 show wpAny _ _ (field (.ref z) 2 >>= _) _ _ _
 refine wpAny_bind (wpAny_field hz rfl (x:=.bool false) rfl ?_);show wpAny _ _ (field (.ref z) 3 >>= _) _ _ _
 refine wpAny_bind (wpAny_field hz rfl (x:=.ref tI) rfl (wpAny_bind (wpAny_seqItems hI rfl ?_)))
 show wpAny _ _ (Builtin.SmallTypes.ownedTupleIsFree (.ref z) >>= _) _ _ _;refine wpAny_bind ?_
 unfold Builtin.SmallTypes.ownedTupleIsFree;refine wpAny_bind (wpAny_field hz rfl (x:=.none) rfl (wpAny_pure ?_))
 simp only[if_true];refine wpAny_bind (wpAny_rule (wpAny_bind (wpAny_field hz rfl (x:=.ref tO) rfl ?_)))
 refine wpAny_bind (wpAny_setField_rec hz (by simp) fun h1 vD e1=>?_)
 replace vD:IsZip h1 z tI tO .ellipsis:=vD
 refine wpAny_bind ?_;simp only[List.zipIdx_cons,List.zipIdx_nil,MK,List.forIn_nil]
 refine wpAny_bind (wpAny_bind (wpAny_onRaise ?_));show wpAny _ _ (Builtin.SmallTypes.nextOf (.ref j1) >>= _) _ _ _
 refine wpAny_bind (D1.done _ _ _ (D1.frame _ _ _ q1 fun c hc o e=>e1.extBut _ _ (fun q=>ap.z1 (q ▸ hc)) e) fun h2 e e2 he=>?_)
 obtain⟨oe,ho,hc⟩:=he
 have Fl:IsZip h2 z tI tO .ellipsis:=e2 _ _ ap.az.symm vD
 have ez:e≠z:=fun x=>by subst x;rw[Fl] at ho;cases ho;simp at hc
 refine wpAny_setField_rec Fl (by simp) fun h3 _ e3=>hE h3 e (fun c o c1 _ c3 _ x=>e3.extBut _ _ c1 (e2 _ _ c3 (e1.extBut _ _ c1 x))) ⟨oe,e3.extBut _ _ ez ho,hc⟩
theorem sC (D1:Draws prog w A j1 f1 n1 P1 S1)(D2:Draws prog w A j2 f2 n2 P2 S2)(ap:gb z tI tO j1 j2 f1 f2){Q:Fin->Shared->Prop}(hz:IsZip s.heap z tI tO .none)(hI:IsPair s.heap tI (.ref j1) (.ref j2))(hO:IsPair s.heap tO a b)(q1:S1 n2 s.heap)(l1:n2 < n1)(q2:S2 n2 s.heap)(hE:∀ h' tk e,(∀ c o,c≠z->c≠tO->c≠j1->c≠j2->s.heap.get? c=some o->h'.get? c=some o)->(∃ o,h'.get? e=some o/\o.cls=.type "StopIteration")->E (.ref e) { s with heap:=h',toks:=tk}):wpAny (model prog w) A (Builtin.«zip.__next__» ⟨[.ref z],[]⟩) Q E s:=by
 obtain⟨hp,g,dr,t0,os⟩:=s
 show wpAny _ _ (field (.ref z) 2 >>= _) _ _ _
 refine wpAny_bind (wpAny_field hz rfl (x:=.bool false) rfl ?_);show wpAny _ _ (field (.ref z) 3 >>= _) _ _ _
 refine wpAny_bind (wpAny_field hz rfl (x:=.ref tI) rfl (wpAny_bind (wpAny_seqItems hI rfl ?_)))
 show wpAny _ _ (Builtin.SmallTypes.ownedTupleIsFree (.ref z) >>= _) _ _ _;refine wpAny_bind ?_
 unfold Builtin.SmallTypes.ownedTupleIsFree;refine wpAny_bind (wpAny_field hz rfl (x:=.none) rfl (wpAny_pure ?_))
 simp only[if_true];refine wpAny_bind (wpAny_rule (wpAny_bind (wpAny_field hz rfl (x:=.ref tO) rfl ?_)))
 refine wpAny_bind (wpAny_setField_rec hz (by simp) fun h1 vD e1=>?_)
 replace vD:IsZip h1 z tI tO .ellipsis:=vD
 refine wpAny_bind ?_;simp only[List.zipIdx_cons,List.zipIdx_nil,MK,List.forIn_nil]
 refine wpAny_bind (wpAny_bind (wpAny_onRaise ?_));show wpAny _ _ (Builtin.SmallTypes.nextOf (.ref j1) >>= _) _ _ _
 refine wpAny_bind (D1.item n2 _ _ _ l1 (D1.frame _ _ _ q1 fun c hc o e=>e1.extBut _ _ (fun q=>ap.z1 (q ▸ hc)) e) fun x h2 t2 px Fg e2=>wpAny_pure ?_)
 replace e2:Ma j1 h1 h2:=e2
 have Ec:IsPair h2 tO a b:=e2.extBut _ _ ap.oa (e1.extBut _ _ ap.oz hO)
 refine wpAny_bind (wpAny_seqItems Ec rfl (wpAny_bind (wpAny_updateSeq_pair Ec fun h3 Fh e3=>?_)))
 replace e3:Ma tO h2 h3:=e3
 refine wpAny_bind (wpAny_letGo (wpAny_pure ?_));refine wpAny_bind (wpAny_bind (wpAny_onRaise ?_))
 show wpAny _ _ (Builtin.SmallTypes.nextOf (.ref j2) >>= _) _ _ _
 refine wpAny_bind (D2.done _ _ _ (D2.frame _ _ _ q2 fun c hc o e=>e3.extBut _ _ (fun z=>ap.o2 (z ▸ hc)) (e2.extBut _ _ (fun z=>ap.a2 (z ▸ hc)) (e1.extBut _ _ (fun z=>ap.z2 (z ▸ hc)) e))) fun h4 e e4 he=>?_)
 obtain⟨oe,ho,hc⟩:=he
 replace e4:Heap.ExtBut j2 h3 h4:=e4
 have Iq:IsZip h4 z tI tO .ellipsis:=e4 _ _ ap.bz.symm (e3.extBut _ _ ap.oz.symm (e2.extBut _ _ ap.az.symm vD))
 have ez:e≠z:=fun x=>by subst x;rw[Iq] at ho;cases ho;simp at hc
 refine wpAny_setField_rec Iq (by simp) fun h5 _ e5=>hE h5 t2 e (fun c o c1 c2 c3 c4 x=>e5.extBut _ _ c1 (e4 _ _ c4 (e3.extBut _ _ c2 (e2.extBut _ _ c3 (e1.extBut _ _ c1 x))))) ⟨oe,e5.extBut _ _ ez ho,hc⟩
end
inductive ZS where
 | txt (x:Str) (t:Tok)
 | lst (l:Addr)
noncomputable def ZS.val:ZS->Value
 | .txt x t=>.str x t
 | .lst l=>.ref l
noncomputable def ZS.obj:ZS->Obj
 | .txt x t=>{ cls:=.type (strIterType x),data:=.fields #[.str x t,.int 0 0]}
 | .lst l=>{ cls:=.type "list_iterator",data:=.fields #[.ref l,.int 0 0]}
def ZS.ok (h:Heap):ZS->Prop
 | .txt x _=>cB x=true
 | .lst l=>∃ xs,h.IsList l xs
def ZS.at (it:Addr)(i:Nat)(h:Heap):ZS->Prop
 | .txt x t=>h.IsStrIter it "str_ascii_iterator" x t i
 | .lst l=>h.IsListIter it l i
theorem ZS.iter {prog:Program}{w:World}{A:Around}{E:Value->Shared->Prop}{s:Shared}{Q:Value->Shared->Prop}:∀ {S:ZS},S.ok s.heap->Q (.ref s.heap.objs.size) { s with heap:=s.heap.push S.obj}->wpAny (model prog w) A (pyIter S.val) Q E s
 | .txt x t,_,q=>wpAny_pyIter_strU q
 | .lst l,⟨xs,h⟩,q=>wpAny_pyIter_list h q
theorem ZS.yD {h:Heap}{o:Obj}:∀ {S:ZS},S.ok h->S.ok (h.push o)
 | .txt _ _,q=>q
 | .lst _,⟨xs,q⟩=>⟨xs,Heap.IsList.push q _⟩
noncomputable abbrev Fm (h:Heap)(S T:ZS):Heap:=(h.push S.obj).push T.obj
noncomputable abbrev Fn (h:Heap)(S T:ZS):Heap:=(Fm h S T).push { cls:=.type "tuple",data:=.seq #[.ref h.objs.size,.ref (h.push S.obj).objs.size]}
noncomputable abbrev Fp (h:Heap)(S T:ZS):Heap:=(Fn h S T).push { cls:=.type "tuple",data:=.seq #[.none,.none]}
noncomputable abbrev CL (h:Heap)(S T:ZS):Heap:=(Fp h S T).push { cls:=.type "zip",data:=.fields #[.none,.bool false,.bool false,.ref (Fm h S T).objs.size,.ref (Fn h S T).objs.size]}
theorem sD (S T:ZS):Meets (Builtin.«zip.__new__» ⟨[.type "zip",S.val,T.val],[]⟩) (fun _ R s=>S.ok s.heap/\T.ok s.heap/\R (.ok (.ret (.ref (Fp s.heap S T).objs.size))) { s with heap:=CL s.heap S T}):=
 .of_wp fun prog w A R s h=>by
   obtain⟨hp,g,d,tk,os⟩:=s;obtain⟨h1,h2,h⟩:=h
   have J1:=sub_zip
   have k1:S.ok (Shared.heap ⟨hp,g,d,tk,os⟩):=h1
   have k2:T.ok (Shared.heap ⟨hp.push S.obj,g,d,tk,os⟩):=ZS.yD h2
   wp_walk using ZS.iter k1,ZS.iter k2
   exact⟨_,rfl,h⟩
theorem vE {prog:Program}{w:World}{A:Around}{E:Value->Shared->Prop}{s:Shared}{S T:ZS}{Q:Value->Shared->Prop}(h1:S.ok s.heap)(h2:T.ok s.heap)(h:∀ h' n,n=s.heap.objs.size->IsZip h' (n+4) (n+2) (n+3) .none->IsPair h' (n+2) (.ref n) (.ref (n+1))->IsPair h' (n+3) .none .none->h'.get? n=some S.obj->h'.get? (n+1)=some T.obj->(∀ c o,s.heap.get? c=some o->h'.get? c=some o)->Q (.ref (n+4)) { s with heap:=h'}):wpAny (model prog w) A (call (.type "zip") [S.val,T.val]) Q E s:=by
 refine callType_new F.called_zip (by decide) (F.typeCall_zip_2 _ _) (F.newCall_zip_2 _ _) (fun obj=>F.args_object_init_3 obj _ _) F.entry_zip_new (sD S T) ⟨h1,h2,?_⟩
 have z1:(s.heap.push S.obj).objs.size=s.heap.objs.size+1:=LZ ..
 have z2:(Fm s.heap S T).objs.size=s.heap.objs.size+2:=by rw[LZ,z1]
 have z3:(Fn s.heap S T).objs.size=s.heap.objs.size+3:=by rw[LZ,z2]
 have z4:(Fp s.heap S T).objs.size=s.heap.objs.size+4:=by rw[LZ,z3]
 have nf:∀ S:ZS,S.obj.isFreed=false:=fun S=>by cases S <;> rfl
 have g5:(CL s.heap S T).get? (Fp s.heap S T).objs.size=some _:=K3 _ rfl
 have g4:(CL s.heap S T).get? (Fn s.heap S T).objs.size=some _:=k0 _ (K3 _ rfl)
 have g3:(CL s.heap S T).get? (Fm s.heap S T).objs.size=some _:=k0 _ (k0 _ (K3 _ rfl))
 have g2:(CL s.heap S T).get? (s.heap.push S.obj).objs.size=some T.obj:=k0 _ (k0 _ (k0 _ (K3 _ (nf T))))
 have g1:(CL s.heap S T).get? s.heap.objs.size=some S.obj:=k0 _ (k0 _ (k0 _ (k0 _ (K3 _ (nf S)))))
 show _/\_
 rw[z2,z3,z4] at g5
 rw[z1,z2] at g3
 rw[z3] at g4
 rw[z1] at g2
 rw[z4]
 exact⟨⟨_,g5,rfl⟩,h _ _ rfl g5 g3 g4 g1 g2 fun c o x=>k0 _ (k0 _ (k0 _ (k0 _ (k0 _ x))))⟩
def Ed (K:W.Frag)(H:Hp)(i:Nat)(x:V):V->Prop
 | .str y=>∃ c,y.cps[i]?=some c/\x=.str ⟨#[c]⟩
 | .ref l=>(∃ xs,eF K H l xs)/\∀ xs,eF K H l xs->xs[i]?=some x
 | _=>False
def mK (K:W.Frag)(H:Hp)(i:Nat):V->Prop
 | .str y=>∃ c,y.cps[i]?=some c
 | .ref l=>∃ xs x,eF K H l xs/\xs[i]?=some x
 | _=>False
def yE (K:W.Frag)(H:Hp)(i:Nat):V->Prop
 | .str y=>i=y.cps.size
 | .ref l=>∃ xs,eF K H l xs/\xs.length=i
 | _=>False
def Fq (K:W.Frag)(H:Hp):V->Prop
 | .str y=>cB y=true
 | .ref l=>∃ xs,eF K H l xs
 | _=>False
noncomputable def ZS.v:ZS->V
 | .txt x _=>.str x
 | .lst l=>.ref l
noncomputable def Ir (K:W.Frag)(u v:V):It:=
 ⟨fun i H=>mK K H i u/\mK K H i v,fun i H r H'=>∃ p x y,r=.ref p/\H p=none/\H'=upd H p (.tup [x,y])/\Ed K H i x u/\Ed K H i y v,fun i H=>yE K H i u\/(mK K H i u/\yE K H i v)⟩
section
variable {X:Cx}{pins:List (Addr×Obj)}{σ:List (Option V)}{H:Hp}{s:Shared}{h':Heap}{i:Nat}{x:V}{it:Addr}
theorem yF {ch:List Addr}{t':Nat}(I:L2.Inv X pins σ H s)(iM:∀ b∈ch,eK X pins H b)(k:∀ b u,b ∉ ch->s.heap.get? b=some u->h'.get? b=some u):L2.Inv X pins σ H { s with heap:=h',toks:=t'}:=by
 have zG:∀ b u,H b=some u->b ∉ ch:=fun b u e z=>by rw[(iM b z).1] at e;cases e
 refine I.step (g':=s.gens) (d':=s.drawn) (ch:=ch) (fun b hb=>⟨(iM b hb).2.2.2.1,(iM b hb).2.1,(iM b hb).2.2.2.2.1,(iM b hb).2.2.2.2.2⟩) (fun b o _ _ hc e _=>k b o hc e) (fun b o _ _ hc e _=>⟨o.slots,k b o hc e⟩) (fun _ _ _ _ n=>n)
   (fun b o hc e=>⟨o,k b o hc e⟩) (fun _ _ e=>e) (fun _ _ _ e=>e) (fun b ps e=>⟨#[],by rw[e];simp⟩) (fun m hm=>?_) (fun b u e=>?_) I.bare
 . obtain⟨o,es,ep,ho,r⟩:=hm
   exact⟨o,es,ep,k _ o (fun z=>(iM _ z).2.1 rfl) ho,r⟩
 . refine(I.aO b u e).oT (fun c v hc q=>k c v ?_ q) (fun _ q=>q) (fun _ _ q=>q) .refl
   rcases hc with z | z | z
   . rw[z];exact zG b u e
   . exact zG c _ z
   . exact fun z'=>by rw[(iM c z').1] at z;exact z
theorem mK.go (I:L2.Inv X pins σ H s):∀ {v:V},mK X.K H i v->∃ x,Ed X.K H i x v
 | .str y,⟨c,h⟩=>⟨_,c,h,rfl⟩
 | .ref l,⟨xs,x,h1,h2⟩=>⟨x,⟨xs,h1⟩,fun ys hy=>by rw[I.jF hy h1];exact h2⟩
def dv (h:Heap)(b:Addr):Prop:=∃ o,h.get? b=some o/\o.cls=.type "list"
theorem qH {l:Addr}{k:Nat}{h:Heap}{xs:Array Value}(a:h.IsListIter it l k)(b:h.IsList l xs):l≠it:=fun e=>by
 subst e
 obtain⟨o,h1,h2,_⟩:=a
 obtain⟨o',h3,h4,_⟩:=b
 rw[h1] at h3;cases h3
 rw[h2] at h4;exact absurd (Value.type.inj h4) (by decide)
theorem ZS.draw (I:L2.Inv X pins σ H s)(hc:X.calm=true):∀ {S:ZS},S.at it i s.heap->Ed X.K H i x S.v->∃ (fp:List Addr) (n:Nat) (P:Nat->Value->Prop) (st:Nat->Heap->Prop),Draws X.prog X.w X.A.in1 it fp n P st/\i < n/\st i s.heap/\(∀ b∈fp,b=it\/dv s.heap b)/\(∀ u,P i u->RelV x u)/\∀ h,st (i+1) h->S.at it (i+1) h
 | .txt y t,a,⟨c,h1,h2⟩=>by
   subst h2
   exact⟨_,_,_,_,Draws.strAscii (A:=X.A.in1) (I.ok.hd hc) it y t,(Array.getElem?_eq_some_iff.mp h1).1,a,fun b hb=>.inl (by simpa using hb),fun u ⟨c',t',e1,e2⟩=>by
     rw[h1] at e1;cases e1;subst e2;exact⟨_,rfl⟩,fun h z=>z⟩
 | .lst l,a,⟨⟨xs,hq⟩,hx⟩=>by
   have hx:=hx xs hq
   obtain⟨aF,rv,p,hz⟩:=I.list hq
   obtain⟨u,hu,ru⟩:=rv.get hx
   have hl:=p.isList
   refine⟨_,_,_,_,Draws.list (A:=X.A.in1) (I.ok.hd hc) it l (qH a hl) aF.toArray,?_,⟨a,hl⟩,fun b hb=>?_,fun u' e=>?_,fun h z=>z.1⟩
   . have:=(KP.mp hu).1
     simpa using this
   . rcases K4.mp hb with rfl | hb
     . exact .inl rfl
     . have:b=l:=by simpa using hb
       subst this
       obtain⟨o,e,hc,_⟩:=hl
       exact .inr ⟨o,e,hc⟩
   . have e:aF[i]?=some u':=by simpa using e
     rw[hu] at e;cases e
     exact ru
theorem ZS.over (I:L2.Inv X pins σ H s)(hc:X.calm=true):∀ {S:ZS},S.at it i s.heap->yE X.K H i S.v->∃ (fp:List Addr) (P:Nat->Value->Prop) (st:Nat->Heap->Prop),Draws X.prog X.w X.A.in1 it fp i P st/\st i s.heap/\(∀ b∈fp,b=it\/dv s.heap b)
 | .txt y t,a,e=>by
   have e:i=y.cps.size:=e
   subst e
   exact⟨_,_,_,Draws.strAscii (A:=X.A.in1) (I.ok.hd hc) it y t,a,fun b hb=>.inl (by simpa using hb)⟩
 | .lst l,a,⟨xs,hq,e⟩=>by
   obtain⟨aF,rv,p,hz⟩:=I.list hq
   have hl:=p.isList
   have en:i=aF.toArray.size:=by rw[<- e,rv.length];simp
   have D:=Draws.list (prog:=X.prog) (w:=X.w) (A:=X.A.in1) (I.ok.hd hc) it l (qH a hl) aF.toArray
   rw[<- en] at D
   refine⟨_,_,_,D,⟨a,hl⟩,fun b hb=>?_⟩
   rcases K4.mp hb with rfl | hb
   . exact .inl rfl
   . have:b=l:=by simpa using hb
     subst this
     obtain⟨o,e,hc,_⟩:=hl
     exact .inr ⟨o,e,hc⟩
end
theorem cO {a b:Nat}(h:a≠b):@Ne Addr a b:=h
theorem mL {it i:Nat}{h:Heap}:∀ {S:ZS},S.at it i h->∃ o n vs,h.get? it=some o/\o.cls=.type n/\n≠"list"/\o.data=.fields vs
 | .txt _ _,⟨o,h1,h2,h3⟩=>⟨o,_,_,h1,h2,by decide,h3⟩
 | .lst _,⟨o,h1,h2,h3⟩=>⟨o,_,_,h1,h2,by decide,h3⟩
theorem jq {it i:Nat}{h h':Heap}(k:∀ o,h.get? it=some o->h'.get? it=some o):∀ {S:ZS},S.at it i h->S.at it i h'
 | .txt _ _,⟨o,h1,r⟩=>⟨o,k o h1,r⟩
 | .lst _,⟨o,h1,r⟩=>⟨o,k o h1,r⟩
theorem pL {n:Nat}{h:Heap}{f1 f2:List Addr}{S T:ZS}{i:Nat}{f0 a b c d:Value}(hz:IsZip h (n+4) (n+2) (n+3) f0)(hO:IsPair h (n+3) a b)(h1:S.at n i h)(h2:T.at (n+1) i h)(k1:∀ b∈f1,b=n\/dv h b)(k2:∀ b∈f2,b=n+1\/dv h b):gb (n+4) (n+2) (n+3) n (n+1) f1 f2:=by
 have lz:¬ dv h (n+4):=fun⟨o,e,c⟩=>by rw[hz] at e;cases e;exact absurd (Value.type.inj c) (by decide)
 have lo:¬ dv h (n+3):=fun⟨o,e,c⟩=>by rw[hO] at e;cases e;exact absurd (Value.type.inj c) (by decide)
 have l1:¬ dv h n:=fun⟨o,e,c⟩=>by
   obtain⟨o',m,vs,e1,e2,e3,_⟩:=mL h1
   rw[e] at e1;cases e1;rw[c] at e2;cases e2;exact e3 rfl
 have l2:¬ dv h (n+1):=fun⟨o,e,c⟩=>by
   obtain⟨o',m,vs,e1,e2,e3,_⟩:=mL h2
   rw[e] at e1;cases e1;rw[c] at e2;cases e2;exact e3 rfl
 have n1:∀ b,b≠n->¬ dv h b->b ∉ f1:=fun b e l m=>(k1 b m).elim e l
 have n2:∀ b,b≠n+1->¬ dv h b->b ∉ f2:=fun b e l m=>(k2 b m).elim e l
 exact⟨cO (by omega),cO (by omega),cO (by omega),cO (by omega),cO (by omega),cO (by omega),cO (by omega),cO (by omega),cO (by omega),cO (by omega),n1 _ (cO (by omega)) lz,n1 _ (cO (by omega)) lo,n1 _ (cO (by omega)) l2,n2 _ (cO (by omega)) lz,n2 _ (cO (by omega)) lo,n2 _ (cO (by omega)) l1⟩
theorem vF {P:Program}{w:World}{K:W.Frag}{elts:List Expr}{kt:Nat}{hU:Pos}(S T:ZS)(n:Nat):Turn P w K (.Tuple elts kt hU) (Ir K S.v T.v) [n+4,n+2,n+3,n,n+1] (n+4) (fun i h=>IsZip h (n+4) (n+2) (n+3) .none/\IsPair h (n+2) (.ref n) (.ref (n+1))/\(∃ a b,IsPair h (n+3) a b)/\S.at n i h/\T.at (n+1) i h) where
 mem:=by simp
 obj:=fun i h st b hb=>by
   obtain⟨hz,hI,⟨a,c,hO⟩,q1,q2⟩:=st
   simp only[K4,Mr,or_false] at hb
   rcases hb with rfl | rfl | rfl | rfl | rfl
   . exact⟨_,hz,fun v z=>by cases z⟩
   . exact⟨_,hI,fun v z=>by cases z⟩
   . exact⟨_,hO,fun v z=>by cases z⟩
   . obtain⟨o,_,_,e,_,_,d⟩:=mL q1
     exact⟨o,e,fun v z=>by rw[d] at z;cases z⟩
   . obtain⟨o,_,_,e,_,_,d⟩:=mL q2
     exact⟨o,e,fun v z=>by rw[d] at z;cases z⟩
 keep:=fun i h h' st k=>by
   obtain⟨hz,hI,⟨a,c,hO⟩,q1,q2⟩:=st
   exact⟨k _ (by simp) _ hz,k _ (by simp) _ hI,⟨a,c,k _ (by simp) _ hO⟩,jq (fun o e=>k _ (by simp) o e) q1,jq (fun o e=>k _ (by simp) o e) q2⟩
 item:=by
   intro X hP hw hK hc i pins s σ H E I hf st hg
   subst hP hw hK
   obtain⟨gu,gv⟩:=hg
   obtain⟨u,gu⟩:=mK.go I gu
   obtain⟨v,gv⟩:=mK.go I gv
   obtain⟨hz,hI,⟨a,b,hO⟩,q1,q2⟩:=st
   obtain⟨f1,n1,P1,S1,D1,l1,s1,c1,r1,t1⟩:=ZS.draw I hc q1 gu
   obtain⟨f2,n2,P2,S2,D2,l2,s2,c2,r2,t2⟩:=ZS.draw I hc q2 gv
   have ap:gb (n+4) (n+2) (n+3) n (n+1) f1 f2:=pL (c:=.none) (d:=.none) hz hO q1 q2 c1 c2
   have hT:s.TypeIs (.ref (n+4)) "zip":=⟨_,hz,rfl⟩
   unfold pyNext
   refine wpAny_bind (wpAny_attempt (wpAny_callSpecial?_slot (name:=Str.ofString "__next__") hT F.slot_zip_next (wpAny_call_entry F.slot_zip_next hT F.entry_zip_next (vC D1 D2 ap hz hI hO s1 s2 l1 l2 fun x y h1 tk px py a1 a2 a3 a4 a5 a6=>wpAny_pure ?_) (F.args_zip_next_1 _))))
   refine⟨_,rfl,wpAny_letOwnedTupleGo_zip a1 fun h2 Fl kK=>?_⟩
   replace kK:Ma (n+4) h1 h2:=kK
   have zl:n+4 < s.heap.objs.size:=KJ hz
   have D3:IsPair h2 s.heap.objs.size x y:=(kK.2 _ (Mz zl)).trans a5
   have k2:∀ b o,b ∉ [n+4,n+2,n+3,n,n+1]->s.heap.get? b=some o->h2.get? b=some o:=fun b o hb q=>(kK.2 b fun z=>hb (by simp[z])).trans (a6 b o (fun z=>hb (by simp[z])) (fun z=>hb (by simp[z])) (fun z=>hb (by simp[z])) (fun z=>hb (by simp[z])) q)
   have hp:H s.heap.objs.size=none:=I.aO.fresh (G1 _)
   have I2:L2.Inv X pins σ (upd H s.heap.objs.size (.tup [u,v])) { s with heap:=h2,toks:=tk}:=j7 I hf k2 (G1 _) ⟨L8 rfl,[x,y],.cons (r1 x px) (.cons (r2 y py) .nil),_,D3,rfl,_,rfl⟩
   have up:∀ b o,b≠n+4->h1.get? b=some o->h2.get? b=some o:=fun b o hb e=>(kK.2 b hb).trans e
   refine⟨.ref s.heap.objs.size,_,I2,rfl,⟨_,u,v,rfl,hp,rfl,gu,gv⟩,⟨Fl,up _ _ (cO (by omega)) (a6 _ _ (cO (by omega)) (cO (by omega)) (cO (by omega)) (cO (by omega)) hI),⟨_,_,up _ _ (cO (by omega)) a2⟩,jq (fun o e=>up _ o (cO (by omega)) e) (t1 _ a3),jq (fun o e=>up _ o (cO (by omega)) e) (t2 _ a4)⟩,fun b hb=>?_⟩
   have:b≠s.heap.objs.size:=by
     simp only[K4,Mr,or_false] at hb
     have zl:n+4 < Array.size s.heap.objs:=zl
     rcases hb with rfl | rfl | rfl | rfl | rfl <;> exact cO (by omega)
   rw[aj this]
   exact(hf b hb).1
 done:=by
   intro X hP hw hK hc i pins s σ H E I hf st hg
   subst hP hw hK
   obtain⟨hz,hI,⟨a,b,hO⟩,q1,q2⟩:=st
   have hT:s.TypeIs (.ref (n+4)) "zip":=⟨_,hz,rfl⟩
   have fin:∀ (h1:Heap) (tk:Nat),(∀ c o,c≠n+4->c≠n+3->c≠n->c≠n+1->s.heap.get? c=some o->h1.get? c=some o)->L2.Inv X pins σ H { s with heap:=h1,toks:=tk}:=fun h1 tk k=>
     yF I hf fun b o hb q=>k b o (fun z=>hb (by simp[z])) (fun z=>hb (by simp[z])) (fun z=>hb (by simp[z])) (fun z=>hb (by simp[z])) q
   unfold pyNext
   refine wpAny_bind (wpAny_attempt (wpAny_callSpecial?_slot (name:=Str.ofString "__next__") hT F.slot_zip_next (wpAny_call_entry F.slot_zip_next hT F.entry_zip_next ?_ (F.args_zip_next_1 _))))
   rcases hg with g1 | ⟨gx,g2⟩
   . obtain⟨f1,P1,S1,D1,s1,c1⟩:=ZS.over I hc q1 g1
     have ap:gb (n+4) (n+2) (n+3) n (n+1) f1 []:=pL (c:=.none) (d:=.none) hz hO q1 q2 c1 (fun b hb=>absurd hb (by simp))
     refine sA D1 ap hz hI s1 fun h1 e k he=>?_
     obtain⟨o,ho,Ee⟩:=he
     refine wpAny_bind (wpAny_isInstance (T:="StopIteration") (b:=true) ⟨o,ho,Ee⟩ isSubtype_stop (wpAny_pure ⟨rfl,?_⟩))
     exact fin h1 s.toks k
   . obtain⟨x,gx⟩:=mK.go I gx
     obtain⟨f1,n1,P1,S1,D1,l1,s1,c1,r1,t1⟩:=ZS.draw I hc q1 gx
     obtain⟨f2,P2,S2,D2,s2,c2⟩:=ZS.over I hc q2 g2
     have ap:gb (n+4) (n+2) (n+3) n (n+1) f1 f2:=pL (c:=.none) (d:=.none) hz hO q1 q2 c1 c2
     refine sC D1 D2 ap hz hI hO s1 l1 s2 fun h1 tk e k he=>?_
     obtain⟨o,ho,Ee⟩:=he
     refine wpAny_bind (wpAny_isInstance (T:="StopIteration") (b:=true) ⟨o,ho,Ee⟩ isSubtype_stop (wpAny_pure ⟨rfl,?_⟩))
     exact fin h1 tk k
 self:=fun _ i s Q E st h=>wpAny_pyIter_zip st.1 h
theorem boot_zip:bootBuiltins "zip"=some (.type "zip"):=by decide +kernel
section
variable {X:Cx}{G:Gr}{dl:List Slot}{a b:Expr}{p pos:Pos}
def Ef (K:W.Frag)(ta:TA):TI:=fun σ H R=>ta σ H fun vs H1=>∃ u v,vs=[u,v]/\Fq K H1 u/\Fq K H1 v/\R (Ir K u v) H1
theorem Ac {pins:List (Addr×Obj)}{σ:List (Option V)}{H:Hp}{s:Shared}(I:L2.Inv X pins σ H s):∀ {v:V} {u:Value},Fq X.K H v->RelV v u->∃ S:ZS,S.v=v/\S.val=u/\S.ok s.heap
 | .str x,_,h,⟨t,rfl⟩=>⟨.txt x t,rfl,rfl,h⟩
 | .ref l,_,⟨xs,h⟩,r=>by
   cases r
   obtain⟨aF,rv,p,hz⟩:=I.list h
   exact⟨.lst l,rfl,rfl,_,p.isList⟩
theorem Iu {n:Nat}{h:Heap}:∀ {S:ZS},S.ok h->∀ {h':Heap},h'.get? n=some S.obj->S.at n 0 h'
 | .txt x t,hx,h',e=>by
   have Dp:strIterType x="str_ascii_iterator":=by unfold strIterType;rw[show x.cps.all (· < 128)=true from hx];rfl
   exact⟨_,e,by show Value.type (strIterType x)=_;rw[Dp],rfl⟩
 | .lst l,_,h',e=>⟨_,e,rfl,rfl⟩
theorem vG {elts:List Expr}{kt:Nat}{hU:Pos}{ta:TA}(hg:Gl X "zip")(hm:X.mg "zip"=none)(ha:PA X [a,b] ta)(hs:starEach [a,b] X.env=(false,eval a X.env)::starEach [b] X.env:=by rfl)(fP:(backTo pos (starEach [b] X.env)).any (·.1)=false:=by rfl):PI X (.Tuple elts kt hU) (.Call (.Name "zip" p) [a,b] [] pos) (Ef X.K ta):=by
 intro pins s σ H R I h
 refine Call_ (dX I hg hm boot_zip (PyProof.Rows.callWith_type1 (aT (ha pos pins s σ H _ I h) fun us s1 ⟨vs,H1,I1,r1,q1⟩=>?_) hs fP))
 obtain⟨u,v,e,ou,ov,q⟩:=q1
 subst e
 cases r1 with
 | cons ru rr=>
   cases rr with
   | cons rv r0=>
     cases r0
     obtain⟨S,rfl,rfl,kS⟩:=Ac I1 ou ru
     obtain⟨T,rfl,rfl,kT⟩:=Ac I1 ov rv
     refine vE kS kT fun h' n hn hz hI hO g1 g2 k=>wpAny_pyIter_zip hz ?_
     have I2:L2.Inv X pins σ H1 { s1 with heap:=h'}:=I1.kept (t':=s1.toks) k
     refine⟨n+4,[n+4,n+2,n+3,n,n+1],_,_,H1,rfl,I2,vF S T n,⟨hz,hI,⟨_,_,hO⟩,Iu kS g1,Iu kT g2⟩,fun b hb=>?_,q⟩
     have uP:s1.heap.objs.size<=b:=by
       rw[<- hn]
       simp only[K4,Mr,or_false] at hb
       rcases hb with rfl | rfl | rfl | rfl | rfl <;> first | exact G1 _ | exact Nat.le_add_right _ _
     exact I1.lZ uP (I1.aO.fresh uP)
inductive ZD:Dt->List Dt->Prop
 | lst (xs:List Dt):ZD (.lst xs) xs
 | str (x:Str):cB x=true->ZD (.str x) (Sg.signs x)
noncomputable def sE (xs ys:List Dt):List Dt:=(Lp (min xs.length ys.length)).map fun(k:Nat)=>.tup [xs.getD k .aW,ys.getD k .aW]
theorem Ad {K:W.Frag}{Hf H:Hp}{v:V}{d:Dt}{xs:List Dt}(z:ZD d xs)(r:Rep K Hf v d)(s:aw Hf H):Fq K H v:=by
 cases z with
 | lst xs=>cases r with | lst h rp=>exact⟨_,.of (s _ _ h)⟩
 | str x h=>cases r;exact h
theorem yG {K:W.Frag}{H:Hp}{a:Addr}{vs:List V}(h:H a=some (.lst vs)):eF K H a vs:=.of h
theorem vH {K:W.Frag}{Hf H:Hp}{v:V}{d:Dt}{xs:List Dt}{i:Nat}{y:Dt}(z:ZD d xs)(r:Rep K Hf v d)(s:aw Hf H)(e:xs[i]?=some y):mK K H i v/\∀ x,Ed K H i x v->Rep K Hf x y:=by
 cases z with
 | lst xs=>
   cases r with
   | @lst a vs _ h rp=>
     have hq:=yG (K:=K) (s _ _ h)
     obtain⟨u,h1,h2⟩:=rp.get e
     refine⟨⟨vs,u,hq,h1⟩,fun x ⟨_,hx⟩=>?_⟩
     have:=hx vs hq
     rw[h1] at this;cases this
     exact h2
 | str x h=>
   cases r
   rw[signs_get] at e
   cases q:x.cps[i]? with
   | none=>rw[q] at e;cases e
   | some c=>
     rw[q] at e;cases e
     refine⟨⟨c,q⟩,fun x' ⟨c',h1,h2⟩=>?_⟩
     rw[q] at h1;cases h1
     subst h2
     exact .str _
theorem vI {K:W.Frag}{Hf H:Hp}{v:V}{d:Dt}{xs:List Dt}(z:ZD d xs)(r:Rep K Hf v d)(s:aw Hf H):yE K H xs.length v:=by
 cases z with
 | lst xs=>cases r with | lst h rp=>exact⟨_,.of (s _ _ h),rp.length⟩
 | str x h=>cases r;exact c7 x
theorem n5 {d1 d2:Dt}{xs ys:List Dt}(z1:ZD d1 xs)(z2:ZD d2 ys):iY X G dl (sE xs ys) (Ef X.K (CH X.K G dl [d1,d2])):=fun st H R zq=>k3 zq fun Hf zq=>have S:=zq.1;have k:=zq.2;⟨Hf,S,fun vs Hf1 H1 g1 r1=>by
 cases r1 with
 | @cons u _ _ _ ru t=>
   cases t with
   | @cons v _ _ _ rv t0=>
     cases t0
     refine⟨u,v,rfl,Ad z1 ru g1.sub,Ad z2 rv g1.sub,k _ Hf1 H1 g1 fun aR H2 s1 s2 i=>⟨fun z hz=>?_,fun hi=>?_⟩⟩
     . have hi:i < min xs.length ys.length:=by
         have:=(KP.mp hz).1
         unfold sE at this
         simpa using this
       unfold sE at hz
       rw[J7,LH hi] at hz
       cases hz
       have ix:i < xs.length:=by omega
       have iy:i < ys.length:=by omega
       have hx:xs[i]?=some (xs.getD i .aW):=by rw[E2,fe ix];rfl
       have hy:ys[i]?=some (ys.getD i .aW):=by rw[E2,fe iy];rfl
       obtain⟨gx,px⟩:=vH z1 (ru.mono s1) s2 hx
       obtain⟨gy,py⟩:=vH z2 (rv.mono s1) s2 hy
       refine⟨⟨gx,gy⟩,fun w H3 ⟨p,x,y,e1,e2,e3,ex,ey⟩=>?_⟩
       subst e1 e3
       have g3:aL aR H2 (upd aR p (.tup [x,y])) (upd H2 p (.tup [x,y])):=.alloc s2 e2
       exact⟨_,g3,.tup (.inl ak) (.cons ((px x ex).mono g3.a7) (.cons ((py y ey).mono g3.a7) .nil))⟩
     . have hi:i=min xs.length ys.length:=by
         unfold sE at hi
         rw[Bn,Lo] at hi
         exact hi
       by_cases hl:xs.length<=ys.length
       . have:i=xs.length:=by omega
         subst this
         exact .inl (vI z1 (ru.mono s1) s2)
       . have:i=ys.length:=by omega
         subst this
         have ix:ys.length < xs.length:=by omega
         exact .inr ⟨(vH z1 (ru.mono s1) s2 (fe ix)).1,vI z2 (rv.mono s1) s2⟩⟩
end
section
variable {X:Cx}{G:Gr}{E:XK}{dl:List Slot}{b e i o:Expr}{d:Dt}{pos:Pos}{k:Str}{kds:List (Key×Dt)}{sts:List Stmt}{ou:Out}
theorem ke (hu:X.A.units+1 < cLine)(ho:EE X G dl o (.cH kds))(hi:EE X G dl i (.str k))(h:bO kds (.inr k)=some d)(hs:uy i):EE X G dl (.Subscript o i pos) d:=
 cy (md hu ho hi hs) fun st H Q zq=>k3 zq fun Hf zq=>have S:=zq.1;have kk:=zq.2;⟨Hf,S,fun v Hf1 H1 g1 r1=>⟨Hf1,S.grow g1,fun w aR H2 g2 r2=>by
   cases r2
   cases r1 with
   | @cH q ob kvs _ hq rp=>
     obtain⟨y,z1,z2⟩:=rp.val h
     have e:dt H2 q (kV (.inr k)) (dZ kvs (.inr k)):=.inl ⟨kvs,.inr k,.inr (.inl ⟨ob,g2.big _ _ (g1.sub _ _ hq)⟩),rfl,rfl⟩
     rw[z1] at e
     exact⟨q,y,rfl,e,kk y aR H2 (g1.trans g2) (z2.mono g2.a7)⟩⟩⟩
theorem yH (n:Nat)(h:ji X G E (dl.set n (.val (.cH kds))) sts ou)(hd:dl[n]?=some (.own (.bK kds)):=by rfl):ji X G E dl sts ou:=by
 intro pins s st H D I ⟨Hf,S,k⟩
 have ln:=S.len
 obtain⟨q,h1,h2,h3,kvs,h4,h5⟩:=S.own n _ hd
 have hl:n < dl.length:=(KP.mp hd).1
 obtain⟨hz,lo,vs,kv,ob,es,ep,ho,hr⟩:=(show aM X.prog X.w H s.heap q (.dK kvs) from I.aO q _ h4)
 have I':L2.Inv X pins st (upd H q (.a7 ob (.dK kvs))) s:=gD (h':=s.heap) (t':=s.toks) I (by rw[h4];trivial) ⟨rfl,fun _ _=>rfl⟩ ⟨ob,ho⟩ ⟨ho,hz,lo,vs,kv,ob,es,ep,ho,hr⟩
 have sm:aw Hf (upd Hf q (.a7 ob (.dK kvs))):=aQ h2
 refine h pins s st _ D I' ⟨upd Hf q (.a7 ob (.dK kvs)),⟨⟨fun b o hb=>?_,S.gr.a7.trans sm,ia S.sub,fun c o hc=>?_⟩,by simp[S.len],fun j y hj=>?_,fun j o' hj=>?_,fun j m o1 o2 c q1 q2 q3 q4=>?_⟩,k.mono sm⟩
 . rw[aj (ao hb h3)];exact S.gr.big _ _ hb
 . by_cases hb:c=q
   . subst hb;exact .inr (.inl h3)
   . rw[aj hb] at hc;exact S.gr.new c o hc
 . by_cases e:n=j
   . subst e
     rw[Ja hl] at hj;cases hj
     exact⟨_,h1,.cH ak (h5.mono sm)⟩
   . rw[J4 e] at hj
     obtain⟨v,z1,z2⟩:=S.val j y hj
     exact⟨v,z1,z2.mono sm⟩
 . by_cases e:n=j
   . subst e;rw[Ja hl] at hj;cases hj
   . rw[J4 e] at hj
     obtain⟨c,z1,z2,z3,z4⟩:=S.own j o' hj
     have ne:c≠q:=fun z=>by subst z;exact e (S.tK n j _ _ _ hd hj h1 z1)
     exact⟨c,z1,by rw[aj ne];exact z2,z3,z4.grow (aj ne) sm⟩
 . have nj:n≠j:=fun e=>by subst e;rw[Ja hl] at q1;cases q1
   have nm:n≠m:=fun e=>by subst e;rw[Ja hl] at q2;cases q2
   rw[J4 nj] at q1
   rw[J4 nm] at q2
   exact S.tK j m o1 o2 c q1 q2 q3 q4
end
noncomputable def J2 (C t:Addr)(od:Option Addr):Obj:={ cls:=.ref C,dict:=od,data:=.fields #[.ref t,.none,.none,.none,.bool false,.none]}
def J3 (h:Heap)(e C:Addr)(od:Option Addr):Prop:=∃ t:Addr,h.get? e=some (J2 C t od)
section
variable {C:Addr}
structure K5 (K:W.Frag)(C:Addr)(f:Str):Prop where
 sa:W.findIn K (.ref C) "__setattr__"=some (some (.builtin "object.__setattr__"))
 na:W.findIn K (.ref C) f=some none
 ob:W.mroIn K C (.type "object")=some true
 mr:∃ G,(W.clsIn K C).map (·.mro)=some [.ref C,.ref G,.type "ValueError",.type "Exception",.type "BaseException",.type "object"]
 hd:(W.clsIn K C).map (·.hasDict)=some true
end
noncomputable def BV (K:PySem.W.Frag)(C:Addr)(Iv:List Value)(nw:String)(fI:Addr):Bool:=match K.lookup C with
 | some ⟨.type "type",_,.cls cd,sl⟩=>(match cd.mro,sl.toList with
   | .ref D::tl,[_,_,_,_,some (.builtin n),_]=>D == C && (n == nw && (!cd.hasDel && (PySem.W.tailIn K Iv tl && (PySem.W.nsOkIn K cd.ns && (PySem.W.nsIn K cd.ns "__init__" == some (some (.ref fI)))))))
   | _,_=>false)
 | _=>false
structure J5 (K:W.Frag)(C fI:Addr):Prop where
 ex:BV K C HS "ValueError.__new__" fI=true
 fn:W.typeIn K (.ref fI)=some (.type "function")
 kp:W.keepIn K (.ref C)=true
structure K6 (K:W.Frag)(G:Addr):Prop where
 sp:W.specialIn K (.ref G) "__getattribute__"=some (some (.builtin "type.__getattribute__"))
 rd:W.readsIn K G (.type "type")=true
 fc:W.findCls K (.ref G) (.type "type") "__init__"=some (.val (.builtin "ValueError.__init__"))
noncomputable abbrev xT (z C:Addr)(od:Option Addr):HO:=.ext fun h=>J3 h z C od
def J6 (K:W.Frag)(C:Addr)(f:Str)(ok:Dt->Prop):Sp:=fun vs H Q E=>∃ Hf H1 z v d,vs=[.ref z,v]/\H=upd H1 z (xT z C none)/\H1 z=none/\aw Hf H1/\Rep K Hf v d/\ok d /\
 ∀ aR H2 dx,aL Hf H aR H2->H2 dx=none->dx≠z->Q .aW (upd (upd H2 dx (.xd [(f,v)])) z (xT z C (some dx)))
structure XF (P:Program)(w:World)(K:W.Frag)(mg:Str->Option Value)(base:Heap)(CX:hX)(k:Nat)(x:Str)(C:Addr)(f:Str)(ok:Dt->Prop):Prop where
 ex:∃ fI fd ps,df P w K mg base CX k fI fd ps (J6 K C f ok)/\J5 K C fI/\mg x=some (.ref C)/\Binds K fd ps []
noncomputable def vJ (lo:Int)(n:Nat):It:=⟨fun i _=>i < n,fun i H x H'=>H'=H/\x=.int (lo - i),fun i _=>n<=i⟩
theorem n6 {P:Program}{w:World}{K:PySem.W.Frag}{tg:Expr}(it:Addr)(lo:Int)(n:Nat):Turn P w K tg (vJ lo n) [it] it (fun i h=>IsRangeIter h it (lo+(i:Nat) * (-1)) ((n:Int) - (i:Nat)) (-1)) where
 mem:=by simp
 obj:=fun i h st b hb=>by
   have e:b=it:=by simpa using hb
   subst e
   exact⟨_,st,fun v z=>by
     have z':Data.fields _=Data.cell v:=z
     cases z'⟩
 keep:=fun i h h' st k=>k it (by simp) _ st
 item:=by
   intro X hP hw hK hc i pins s σ H E I hf st hg
   subst hP hw hK
   obtain⟨f0,f1,f2,f3,f4,f5⟩:=hf it (by simp)
   have W:=Walks.range (prog:=X.prog) (w:=X.w) (I.ok.hd hc) it lo (-1) n
   refine W.item i s _ _ hg st fun v h' tk hv eM kk=>?_
   obtain⟨t,rfl⟩:=hv
   have I1:Inv X pins σ H { s with heap:=h',toks:=tk}:=I.turned (fun b o hb e=>kk b o (by simpa using hb) e) f0 f1 f3 f4 f5
   refine⟨_,rfl,qg (s:={ s with heap:=h',toks:=tk}) (n:="range_iterator") eM rfl rfl (by decide) ⟨.int (lo - i),H,I1,⟨t,?_⟩,⟨rfl,rfl⟩,eM,fun b hb=>(hf b hb).1⟩⟩
   rw[show lo+(i:Int) * (-1)=lo - i by omega]
 done:=by
   intro X hP hw hK hc i pins s σ H E I hf st hg
   subst hP hw hK
   obtain⟨f0,f1,f2,f3,f4,f5⟩:=hf it (by simp)
   exact wpAny_pyNext_range_end (I.ok.hd hc) st (by have:n<=i:=hg;omega) fun h' eb=>⟨rfl,I.turned (t':=s.toks) (fun b o hb e=>eb b o hb e) f0 f1 f3 f4 f5⟩
 self:=fun _ _ _ _ _ st h=>wpAny_pyIter_rangeiter st h
theorem qI (i j:Int):Builtin.Range.rangeSize i j (-1)=((i - j).toNat:Nat):=by
 unfold Builtin.Range.rangeSize
 rw[if_neg (by decide),show(-(-1:Int))=1 from rfl,Int.ediv_one]
 split <;> omega
theorem vK {a b:Int}(ha:-(2 ^ 30)<=a)(CK:a < 2 ^ 30)(hb:-(2 ^ 30)<=b)(uP:b < 2 ^ 30):Builtin.Range.small a b (-1)=true:=by
 unfold Builtin.Range.small
 rw[qI]
 simp only[Builtin.Range.rangeFitsLong,LX,Bool.or_eq_true,decide_eq_true_eq,beq_iff_eq,show ¬ ((-1:Int) > 0) by decide,if_false]
 refine⟨?_,?_⟩ <;> omega
section
variable {X:Cx}{G:Gr}{E:XK}{dl:List Slot}{a b c e o:Expr}{ta:TA}{i j:Int}{pos p:Pos}{tg:Expr}{d:Dt}{kds:List (Key×Dt)}{x:Str}
def Ae (ta:TA):TI:=fun σ H R=>ta σ H fun vs H1=>∃ i j:Int,vs=[.int i,.int j,.int (-1)]/\(-(2 ^ 30)<=i/\i < 2 ^ 30/\-(2 ^ 30)<=j/\j < 2 ^ 30)/\R (vJ i (i - j).toNat) H1
theorem sF (hg:Gl X "range")(hm:X.mg "range"=none)(ha:PA X [a,b,c] ta)(hs:starEach [a,b,c] X.env=(false,eval a X.env)::starEach [b,c] X.env:=by rfl)(fP:(backTo pos (starEach [b,c] X.env)).any (·.1)=false:=by rfl):PI X tg (.Call (.Name "range" p) [a,b,c] [] pos) (Ae ta):=by
 intro pins s σ H R I h
 refine Call_ (dX I hg hm boot_range (PyProof.Rows.callWith_type1 (aT (ha pos pins s σ H _ I h) fun us s1 ⟨vs,H1,I1,r1,q1⟩=>?_) hs fP))
 obtain⟨i,j,e,⟨b1,b2,b3,b4⟩,q⟩:=q1
 subst e
 cases r1 with
 | cons r rr=>cases rr with
   | cons r' rr=>cases rr with
     | cons J8 rr=>
       cases rr
       obtain⟨t,rfl⟩:=r
       obtain⟨t',rfl⟩:=r'
       obtain⟨Fs,rfl⟩:=J8
       refine call_range_3 (by decide) ?_ (LV (PyProof.noPylong_small (by decide)))
       refine wpAny_pyIter_range (IsRange.new ..) (vK b1 b2 b3 b4) ?_
       have I2:Inv X pins σ H1 { s1 with heap:=s1.heap.push { cls:=.type "range",data:=.fields #[.int i t,.int j t',.int (-1) Fs]},toks:=s1.toks}:=I1.kept fun b o e=>k0 _ e
       refine⟨(s1.heap.push { cls:=.type "range",data:=.fields #[.int i t,.int j t',.int (-1) Fs]}).objs.size,[(s1.heap.push { cls:=.type "range",data:=.fields #[.int i t,.int j t',.int (-1) Fs]}).objs.size],_,_,H1,rfl,
         I2.kept (t':=s1.toks) fun b o e=>k0 _ e,n6 _ i (i - j).toNat,?_,fun b hb=>?_,q⟩
       . have e1:i+((0:Nat):Int) * (-1)=i:=by simp
         have e2:(((i - j).toNat:Nat):Int) - ((0:Nat):Int)=Builtin.Range.rangeSize i j (-1):=by rw[qI];omega
         show IsRangeIter _ _ (i+((0:Nat):Int) * (-1)) ((((i - j).toNat:Nat):Int) - ((0:Nat):Int)) (-1)
         rw[e1,e2]
         exact K3 _ rfl
       . have e:b=(s1.heap.push { cls:=.type "range",data:=.fields #[.int i t,.int j t',.int (-1) Fs]}).objs.size:=by simpa using hb
         subst e
         exact I2.lZ (G1 _) (I2.aO.fresh (G1 _))
theorem sG {lo:Int}{n:Nat}{Hf1 H1 aR H2:Hp}(s2:aw aR H2)(i:Nat):(∀ z,((Lp n).map fun(k:Nat)=>Dt.int (lo - k))[i]?=some z->(vJ lo n).go i H2/\∀ v H3,(vJ lo n).t6 i H2 v H3->∃ fR,aL aR H2 fR H3/\Rep X.K fR v z)/\(i=((Lp n).map fun(k:Nat)=>Dt.int (lo - k)).length->(vJ lo n).stop i H2):=by
 refine⟨fun z hz=>?_,fun e=>Nat.le_of_eq (show i=n by simpa using e).symm⟩
 have hi:i < n:=by
   have:=(KP.mp hz).1
   simpa using this
 rw[J7,LH hi] at hz
 cases hz
 refine⟨hi,fun v H3 hy=>?_⟩
 obtain⟨e1,e2⟩:=hy
 subst e1 e2
 exact⟨aR,.refl s2,.int _⟩
theorem n8 (hn:-(2 ^ 30)<=i/\i < 2 ^ 30/\-(2 ^ 30)<=j/\j < 2 ^ 30):iY X G dl ((Lp (i - j).toNat).map fun(k:Nat)=>.int (i - k)) (Ae (CH X.K G dl [.int i,.int j,.int (-1)])):=fun st H R zq=>k3 zq fun Hf zq=>have S:=zq.1;have k:=zq.2;⟨Hf,S,fun vs Hf1 H1 g1 r1=>by
 cases r1 with
 | cons r t=>
   cases r
   cases t with
   | cons r t=>
     cases r
     cases t with
     | cons r t=>
       cases t;cases r
       exact⟨i,j,rfl,hn,k _ Hf1 H1 g1 fun aR H2 s1 s2 m=>sG (X:=X) (Hf1:=Hf1) (H1:=H1) s2 m⟩⟩
theorem vL (hu:X.A.units+1 < cLine)(ho:EE X G dl o (.bK kds))(hi:EE X G dl a (.int i))(h:bO kds (.inl i)=some d)(hs:uy a):EE X G dl (.Subscript o a pos) d:=
 cy (md hu ho hi hs) fun st H Q zq=>k3 zq fun Hf zq=>have S:=zq.1;have kk:=zq.2;⟨Hf,S,fun v Hf1 H1 g1 r1=>⟨Hf1,S.grow g1,fun w aR H2 g2 r2=>by
   cases r2
   cases r1 with
   | @bK q kvs _ hq rp=>
     obtain⟨y,z1,z2⟩:=rp.val h
     have e:=dt.k (H:=H2) (k:=.inl i) (g2.big _ _ (g1.sub _ _ hq))
     rw[z1] at e
     exact⟨q,y,rfl,e,kk y aR H2 (g1.trans g2) (z2.mono g2.a7)⟩⟩⟩
theorem vM (n:Nat){ps pn:Pos}(hu:X.A.units+1 < cLine)(he:EE X G dl e d)(hb:EE X G dl b (.int i))(hl:kds.length < sizeLine)(hd:dl[n]?=some (.own (.bK kds)):=by rfl)(hN:X.N[n]?=some x:=by rfl)(hv:nu X.env.scope x:=by first | exact LV rfl | exact LJ (LV rfl) | exact LJ (LJ rfl))(eP:(x == ("__debug__":Str))=false:=by decide)(eE:(x == ("__classdict__":Str))=false:=by decide)(hs:swapsWith e (some (.Subscript (.Name x pn) b ps)) pos.line X.env=pure false:=by rfl):ES X G E dl (.Assign [.Subscript (.Name x pn) b ps] e pos) (.nx (dl.set n (.own (.bK (fU kds (.inl i) d))))):=
 nS (jh hu (iQ (p:=pn) n hd hN hv eP eE) hb he hs) fun D st H zq=>k3 zq fun Hf zq=>have S:=zq.1;have kk:=zq.2;⟨Hf,S,fun v Hf1 H1 g1 r1=>by
   have S1:=S.grow g1
   obtain⟨q,z1,z2,z3,z4⟩:=S1.own n _ hd
   refine⟨Hf1,q,S1,z1,z2,z4,Hf1,S1,fun iv aR H2 g2 r2=>?_⟩
   cases r2
   have S2:=S1.grow g2
   obtain⟨q',y1,y2,y3,kvs,y4,y5⟩:=S2.own n _ hd
   rw[z1] at y1;cases y1
   have D6:kvs.length < sizeLine:=by rw[y5.length];exact hl
   exact⟨q,_,rfl,kM.k (k:=.inl i) y4 D6,kk st aR _ (g1.a7.trans g2.a7) (S2.uI hd z1 ⟨_,ak,y5.put (r1.mono g2.a7)⟩)⟩⟩
end
noncomputable def Eg (H:Hp)(q:Addr):Hp:=fun a=>if a=q then none else H a
theorem Af {H:Hp}{q a:Addr}(h:a≠q):Eg H q a=H a:=if_neg h
theorem qJ {H:Hp}{q a:Addr}{o:HO}(h:Eg H q a=some o):a≠q/\H a=some o:=by
 unfold Eg at h
 split at h
 . cases h
 . rename_i e;exact⟨e,h⟩
theorem lD {K:W.Frag}{Hf ar:Hp}:∀ {vs:List V} {ds:List Dt},ds.all nY=true->aS K Hf vs ds->aS K ar vs ds
 | _,_,_,.nil=>.nil
 | _,_,h,.cons r t=>by
   rw[Mu,LX] at h
   exact .cons (vk h.1 r) (lD h.2 t)
def vN (u:HO):Prop:=(∀ xs,u≠.tup xs)/\∀ o xs,u≠.a7 o (.tup xs)
theorem vO {K:W.Frag}{Hf:Hp}{q:Addr}{u:HO}{v:V}{ds:List Dt}(hq:Hf q=some u)(hu:vN u)(hd:ds.all nY=true)(r:Rep K Hf v (.tup ds)):Rep K (Eg Hf q) v (.tup ds):=by
 cases r with
 | @tup a vs _ hs rp=>
   refine .tup ?_ (lD hd rp)
   rcases hs with hs | hs
   . have ne:a≠q:=fun e=>by
       subst e
       rw[hq] at hs;exact hu.1 _ (Option.some.inj hs)
     exact .inl (by rw[Af ne];exact hs)
   . exact .inr hs
theorem sH {K:W.Frag}{Hf H:Hp}{a:Addr}:∀ {o:Own},cb K Hf H a o->∃ u,H a=some u/\vN u
 | .lst _,⟨_,h,_⟩=>⟨_,h,⟨fun _ e=>(nomatch e),fun _ _ e=>(nomatch e)⟩⟩
 | .bK _,⟨_,h,_⟩=>⟨_,h,⟨fun _ e=>(nomatch e),fun _ _ e=>(nomatch e)⟩⟩
 | .obj _ _,⟨_,_,h,_⟩=>⟨_,h,⟨fun _ e=>(nomatch e),fun _ _ e=>(nomatch e)⟩⟩
 | .qr _ _ _,⟨_,_,_,h,_⟩=>⟨_,h,⟨fun _ e=>(nomatch e),fun _ _ e=>(nomatch e)⟩⟩
 | .mh _ _ _ _ _,⟨_,_,_,_,_,h,_⟩=>⟨_,h,⟨fun _ e=>(nomatch e),fun _ _ e=>(nomatch e)⟩⟩
 | .nQ _ _ _ _ _ _,⟨_,_,_,_,_,_,h,_⟩=>⟨_,h,⟨fun _ e=>(nomatch e),fun _ _ e=>(nomatch e)⟩⟩
 | .bE _,h=>⟨_,h,⟨fun _ e=>(nomatch e),fun _ _ e=>(nomatch e)⟩⟩
section
variable {K:W.Frag}{G:Gr}{st:L2.St}{Hf H:Hp}{dl:List Slot}{p:Addr}{w:Own}{u:HO}
theorem bW.G2 (S:bW K G st Hf H dl){i:Nat}(hd:dl[i]?=some (.own w)):∃ p u,H p=some u/\vN u/\Hf p=none/\bW K G st (upd Hf p u) H (dl.set i (.val (z6 w))):=by
 have ln:=S.len
 obtain⟨p,h1,h2,h3,h4⟩:=S.own i w hd
 obtain⟨u,hu,rp⟩:=mD h4 h2
 have hl:i < dl.length:=(KP.mp hd).1
 have sm:aw Hf (upd Hf p u):=aQ h2
 obtain⟨u',Iw,nt⟩:=sH h4
 rw[hu] at Iw;cases Iw
 refine⟨p,u,hu,nt,h2,⟨S.gr.big,S.gr.a7.trans sm,fun b o h=>?_,fun a o h=>?_⟩,by simp[S.len],fun j x h=>?_,fun j o' h=>?_,fun j k o1 o2 a q1 q2 q3 q4=>?_⟩
 . by_cases hb:b=p
   . subst hb;rw[ak] at h;cases h;exact hu
   . rw[aj hb] at h;exact S.gr.sub _ _ h
 . by_cases hb:a=p
   . subst hb;exact .inr (.inl h3)
   . rw[aj hb] at h;exact S.gr.new a o h
 . by_cases e:i=j
   . subst e
     rw[Ja hl] at h;cases h
     exact⟨_,h1,rp⟩
   . rw[J4 e] at h
     obtain⟨v,z1,z2⟩:=S.val j x h
     exact⟨v,z1,z2.mono sm⟩
 . by_cases e:i=j
   . subst e;rw[Ja hl] at h;cases h
   . rw[J4 e] at h
     obtain⟨a,z1,z2,z3,z4⟩:=S.own j o' h
     have ne:a≠p:=fun q=>by subst q;exact e (S.tK i j _ _ _ hd h h1 z1)
     exact⟨a,z1,by rw[aj ne];exact z2,z3,z4.grow rfl sm⟩
 . have tr:∀ (j:Nat) o',(dl.set i (.val (z6 w)))[j]?=some (.own o')->dl[j]?=some (.own o'):=fun j o' h=>by
     by_cases e:i=j
     . subst e;rw[Ja hl] at h;cases h
     . rw[J4 e] at h;exact h
   exact S.tK j k _ _ a (tr _ _ q1) (tr _ _ q2) q3 q4
end
section
variable {X:Cx}{G:Gr}{dl:List Slot}{e:Expr}{w:Own}{ds:List Dt}
theorem n9 (n:Nat)(h:EE X G (dl.set n (.val (z6 w))) e (.tup ds))(hs:ds.all nY=true:=by rfl)(hd:dl[n]?=some (.own w):=by rfl):EE X G dl e (.tup ds):=cy h fun st H Q zq=>k3 zq fun Hf zq=>have S:=zq.1;have k:=zq.2;by
 obtain⟨q,u,hu,nt,hn,S1⟩:=S.G2 hd
 refine⟨upd Hf q u,S1,fun v ar H' g r=>k v (Eg ar q) H' ⟨g.big,fun a o ha=>?_,fun a o ha=>g.sub a o (qJ ha).2,fun a o ha=>?_⟩ (vO (g.a7 _ _ ak) nt hs r)⟩
 . have ne:a≠q:=fun e=>by subst e;rw[hn] at ha;cases ha
   rw[Af ne]
   exact g.a7 _ _ (by rw[aj ne];exact ha)
 . obtain⟨ne,hb⟩:=qJ ha
   rcases g.new a o hb with⟨o',h1⟩ | h1 | h1
   . rw[aj ne] at h1;exact .inl ⟨o',h1⟩
   . exact .inr (.inl h1)
   . exact .inr (.inr h1)
end
mutual
noncomputable def G3:Dt->Bool
 | .lst _=>false
 | .fQ _=>false
 | .tup ds=>Eh ds
 | .bK kds=>Ei kds
 | .obj _ fs=>Ej fs
 | .cH _=>false
 | .xo _=>false
 | .sd _ _=>false
 | .gE _=>false
 | .memo _ _ _ _=>false
 | .eG _ _ _ _=>false
 | .tJ _ _ _=>false
 | .nP _ _ _ _ _=>false
 | .bE _=>false
 | _=>true
noncomputable def Eh:List Dt->Bool
 | []=>true
 | d::r=>G3 d && Eh r
noncomputable def Ei:List (Key×Dt)->Bool
 | []=>true
 | (_,d)::r=>G3 d && Ei r
noncomputable def Ej:List (Str×Dt)->Bool
 | []=>true
 | (_,d)::r=>G3 d && Ej r
end
structure Ek (k:Nat)(A:Around):Prop where
 dp:A.depth+3 * k+5 < recursionLimit
 un:A.units+16 * k+200 < cLine
structure El (P:Program)(w:World)(K:W.Frag)(mg:Str->Option Value)(base:Heap)(CX:hX)(k:Nat)(f:Addr)(fd:FuncData)(ps:List Str)(sp:Sp):Prop where
 len:∀ vs H Q E,sp vs H Q E->vs.length=ps.length
 run:∀ (A:Around) (outer:List Env) (s:Shared) (H:Hp) (args:Args) (us:List Value) (vs:List V) (Q:VK) (E:XK),Ek k A->nD P w K mg base A outer s H->BindsTo s fd args (ps.zip us)->Vals vs us->sp vs H Q E ->
   codeAny (model P w) A (.call (.ref f) args) (CR CX outer P w H s Q E) s
structure K7 (P:Program)(w:World)(K:W.Frag)(mg:Str->Option Value)(base:Heap)(CX:hX)(k:Nat)(x:Str)(n:Nat)(R:List Dt->Res->Prop):Prop where
 ex:∃ f fd ps,El P w K mg base CX k f fd ps (uR K n R)/\mg x=some (.ref f)/\W.keepIn K (.ref f)=true/\Binds K fd ps []
inductive G4 (K:W.Frag)(H:Hp):List V->List (Key×V)->Prop
 | nil:G4 K H [] []
 | cons {t:Addr} {k:Key} {v:V} {xs:List V} {kvs:List (Key×V)}:tH K H t [kV k,v]->G4 K H xs kvs->G4 K H (.ref t::xs) ((k,v)::kvs)
section
inductive vP:List (Key×Value)->List (Key×Value)->Prop
 | nil:vP [] []
 | cons {k:Key} {i:Int} {t u:Tok} {xs ys:List (Key×Value)}:vP xs ys->vP ((k,.int i t)::xs) ((k,.int i u)::ys)
end
section
variable {kds:List (Key×Dt)}
noncomputable def dI (kds:List (Key×Int)):List (Key×Dt):=kds.map fun kd=>(kd.1,Dt.int kd.2)
theorem Em {K:W.Frag}{H:Hp}:∀ {kds:List (Key×Int)} {kvs:List (Key×V)},bu K H kvs (dI kds)->kvs=kds.map fun kd=>(kd.1,V.int kd.2)
 | [],_,.nil=>rfl
 | (k,i)::kds,_,.cons r t=>by
   cases r
   rw[Em (kds:=kds) t];rfl
end
structure J9 (X:Cx)(N:List Str)(xt:Str)(ix:List Nat)(sc:Scope):Prop where
 nd:N.Nodup
 nm:N=xt::ix.map (fun j=>X.N.getD j "")
 kind:sc.kind=.function
 one:sc.names.filter (fun y=>y.2 == .cell)=[(xt,.cell)]
 names:∀ y∈sc.names,y.2=.local->sc.names.lookup y.1=some .local
 hx:sc.names.lookup xt=some .cell
 CQ:∀ y∈sc.names,y.2=.free->y.1≠xt
 fr:∀ y∈sc.names,y.2=.free->X.env.kindOf y.1=some .cell\/X.env.kindOf y.1=some .free
 E6:∀ j∈ix,∃ y,X.N[j]?=some y/\sc.names.lookup y=some .free
noncomputable def G5 (X:Cx)(N:List Str)(sc:Scope)(xt:Str)(c C:Addr)(fp:List Addr)(s:Shared)(H:Hp):Cx:=
 { X with N:=N,s₀:=s,H₀:=H,env:=compEnvC sc ((xt,c)::gH sc X.env) C X.env,outer:=X.stack,stack:=X.stack,ex:=fp,fn:=fun y=>y == xt,pn:=[],xe:=mx}
section
variable {X:Cx}{dl:List Slot}{a:Expr}{xt:Str}{N:List Str}{ix:List Nat}{sc:Scope}
variable {α:Type}{as:List α}{sl:α->List Slot}{keep:α->Bool}
inductive vQ (X:Cx)(N:List Str)(xt:Str)(sc:Scope)(dl:List Slot)(ix:List Nat)(as:List α)(sl:α->List Slot)(keep:α->Bool):List Expr->Prop
 | nil:(∀ a∈as,keep a=true)->vQ X N xt sc dl ix as sl keep []
 | one {ce:Expr}:(∀ a∈as,∀ c C fp s H G',EB (G5 X N sc xt c C fp s H) G' (sl a ++ cJ dl ix) ce (keep a))->vQ X N xt sc dl ix as sl keep [ce]
end
noncomputable def mk:HO->Bool
 | .memo _=>true
 | .iL _ _=>true
 | _=>false
section
variable {a:Addr}
mutual
noncomputable def G6 (a:Addr):Dt->Bool
 | .tup ds=>BW a ds
 | .lst ds=>BW a ds
 | .bK kds=>yI a kds
 | .cH kds=>yI a kds
 | .gE kds=>yI a kds
 | .obj _ fs=>BX a fs
 | .sd _ fs=>BX a fs
 | .memo b _ _ _=>decide (b≠a)
 | .nP _ _ _ _ _=>false
 | _=>true
noncomputable def BW (a:Addr):List Dt->Bool
 | []=>true
 | d::r=>G6 a d && BW a r
noncomputable def yI (a:Addr):List (Key×Dt)->Bool
 | []=>true
 | (_,d)::r=>G6 a d && yI a r
noncomputable def BX (a:Addr):List (Str×Dt)->Bool
 | []=>true
 | (_,d)::r=>G6 a d && BX a r
end
end
noncomputable def Iy:FD->Dt
 | .int i=>.int i
 | .bK kds=>.gE (dI kds)
 | d=>.kN d
theorem En {K:W.Frag}{H:Hp}:∀ {v:V} {d:FD},Rep K H v (Iy d)->Fz H v d
 | _,.int i,r=>by cases r;exact .int i
 | _,.lst ns,r=>by cases r with | kN h=>exact h
 | _,.tup K ns,r=>by cases r with | kN h=>exact h
 | _,.obj C fs,r=>by cases r with | kN h=>exact h
 | _,.bK kds,r=>by
   cases r with
   | @gE a tg ob kvs _ h r=>
     rw[Em r] at h
     exact .bK h
noncomputable def conv (H:Hp)(p p2 q1 q2:Addr)(u1 u2 u3 u4:HO):Hp:=upd (upd (upd (upd H p u1) p2 u2) q1 u3) q2 u4
section
variable {ns:List Int}
theorem fh:∀ {ns:List Int} {aF:List Value},Vals (ns.map V.int) aF->IntsAre aF ns
 | [],_,r=>by cases r;exact .nil
 | n::ns,_,r=>by
   cases r with
   | cons h t=>obtain⟨tk,rfl⟩:=h;exact .cons _ tk (fh t)
end
noncomputable def G7 (fs:List (Str×FD)):List (Str×Dt):=fs.map fun kd=>(kd.1,Iy kd.2)
theorem vR {K:W.Frag}{H:Hp}:∀ {fv:List (Str×V)} {fs:List (Str×FD)},bX K H fv (G7 fs)->xB H fv fs
 | _,[],.nil=>.nil
 | _,(k,d)::fd,.cons h t=>.cons (En h) (vR t)
section
variable {X:Cx}{G:Gr}{dl:List Slot}{e:Expr}{C:Addr}{fs:List (Str×FD)}
theorem BY (h:EO X G dl e (.obj C (G7 fs))):EE X G dl e (.kN (.obj C fs)):=by
 intro pins s st H Q I ⟨Hf,S,kk⟩
 refine aT (h pins s st H (fun v H'=>∃ p ar,v=.ref p/\aL Hf H ar H'/\H p=none/\ar p=none/\cb X.K ar H' p (.obj C (G7 fs))) I ⟨Hf,S,fun p ar H' g n n' r=>⟨p,ar,rfl,g,n,n',r⟩⟩) fun u s1 ⟨v,H',I1,rv,q,ar,ev,g,n,n',dx,fv,hq,rp⟩=>?_
 subst ev
 obtain⟨hd,hz,ne,ho,mA,hr⟩:=(show aM X.prog X.w H' s1.heap q (.ins C dx fv) from I1.aO q _ hq)
 let ob:=W.instObj C dx
 have I2:L2.Inv X pins st (upd H' q (.kx ob (.ins C dx fv))) s1:=gD (h':=s1.heap) (t':=s1.toks) I1 (by rw[hq];trivial) ⟨rfl,fun _ _=>rfl⟩ ⟨ob,ho⟩ ⟨ho,⟨by rw[aj ne];exact hd,hz,ne,ho,mA,hr⟩⟩
 have sm:aw ar (upd ar q (.kx ob (.ins C dx fv))):=aQ n'
 refine⟨.ref q,_,I2,rv,kk _ (upd ar q (.kx ob (.ins C dx fv))) _ ⟨fun b o hb=>?_,g.a7.trans sm,ia g.sub,fun b o hb=>?_⟩ (.kN (.obj ak ((vR rp).st fun b u e _=>sm b u e)))⟩
 . rw[aj (ao hb n)];exact g.big _ _ hb
 . by_cases e:b=q
   . subst e;exact .inr (.inl n)
   . rw[aj e] at hb;exact g.new b o hb
theorem og {x:Str}{p pos:Pos}(M:Bj X.K C)(hm:X.mg x=some (.ref C))(hg:Gl X x:=by rfl)(eP:(x == ("__debug__":Str))=false:=by decide):EE X G dl (.Call (.Name x p) [] [] pos) (.kN (.obj C [])):=by
 refine BY (fs:=[]) ?_
 intro pins s st H Q I ⟨Hf,S,k⟩
 refine wpAny_Call_Name_kw (jc I hg hm ?_ eP)
 refine W.callWith_K0 I.dW M.kp (sf M I fun x dx hx GK ne=>?_)
 have yC:(upd H dx (.own x)) x=none:=by rw[aj (Ne.symm ne)];exact hx
 have g1:aL Hf H Hf (upd H dx (.own x)):=.cN S.sub GK
 have g2:aL Hf (upd H dx (.own x)) Hf (upd (upd H dx (.own x)) x (.ins C dx [])):=.cN g1.sub yC
 exact k _ _ _ (g1.trans g2) hx (S.sub.free hx) ⟨dx,[],ak,.nil⟩
end
noncomputable def di (cM:List (List Key×Int))(k:List Key):Option Int:=(cM.find? fun kv=>decide (kv.1=k)).map (·.2)
noncomputable def oh (cM:List (List Key×Int))(k:List Key)(i:Int):List (List Key×Int):=
 if (di cM k).isSome=true then cM.map (fun kv=>if kv.1=k then (kv.1,i) else kv) else cM ++ [(k,i)]
noncomputable def oS (cM:List (List Key×Int)):List (List Key×V):=cM.map fun k=>(k.1,V.int k.2)
theorem oi {p:List Key×Int}{r:List (List Key×Int)}{k:List Key}(e:p.1=k):di (p::r) k=some p.2:=by simp[di,LO,e]
theorem kf {p:List Key×Int}{r:List (List Key×Int)}{k:List Key}(e:¬ p.1=k):di (p::r) k=di r k:=by simp[di,LO,e]
theorem eW {k:List Key}:∀ cM:List (List Key×Int),dZ (oS cM) k=(di cM k).map V.int
 | []=>rfl
 | p::r=>by
   show dZ ((p.1,V.int p.2)::oS r) k=_
   by_cases e:p.1=k
   . rw[dA (p:=(p.1,V.int p.2)) e,oi e];rfl
   . rw[dB (p:=(p.1,V.int p.2)) e,kf e];exact eW r
theorem vS {k:List Key}{i:Int}(cM:List (List Key×Int)):putK (oS cM) k (.int i)=oS (oh cM k i):=by
 unfold putK oh
 rw[eR,eW,Mg]
 by_cases h:(di cM k).isSome=true
 . rw[if_pos h,if_pos h]
   unfold oS
   rw[LB,LB]
   refine Ms fun kv _=>?_
   show(if kv.1=k then (kv.1,V.int i) else (kv.1,V.int kv.2))=_
   by_cases e:kv.1=k
   . rw[if_pos e];show _=(((if kv.1=k then (kv.1,i) else kv).1,V.int (if kv.1=k then (kv.1,i) else kv).2):List Key×V);rw[if_pos e]
   . rw[if_neg e];show _=(((if kv.1=k then (kv.1,i) else kv).1,V.int (if kv.1=k then (kv.1,i) else kv).2):List Key×V);rw[if_neg e]
 . rw[if_neg h,if_neg h]
   unfold oS
   rw[LQ];rfl
theorem mM {K:W.Frag}{H:Hp}:∀ {k:List Key} {vs:List V},aS K H vs (k.map kD)->vs=k.map kV
 | [],_,.nil=>rfl
 | .inl i::k,_,.cons h t=>by
   cases h;rw[mM t];rfl
 | .inr i::k,_,.cons h t=>by
   cases h;rw[mM t];rfl
def G8 (K:W.Frag)(G:Gr)(dl:List Slot)(k:List Key):TE:=fun st H Q=>∃ Hf,bW K G st Hf H dl/\∀ b ar H',aL Hf H ar H'->ar b=some (.tup (k.map kV))->Q (.ref b) H'
abbrev ET (X:Cx)(G:Gr)(dl:List Slot)(e:Expr)(k:List Key):Prop:=PE X e (G8 X.K G dl k)
section
variable {X:Cx}{G:Gr}{E:XK}{dl:List Slot}{b e i:Expr}{es:List Expr}{pos p:Pos}{k:List Key}{x:Str}{cM:List (List Key×Int)}
theorem mN {x1}(h:EA X G dl es (k.map kD))(hl:k.length<=sizeLine:=by decide):ET X G dl (.Tuple es x1 pos) k:=
 cy (uk h) fun st H Q zq=>k3 zq fun Hf zq=>have S:=zq.1;have kk:=zq.2;⟨Hf,S,fun vs Hf1 H1 g1 r1=>⟨by rw[r1.length,Bn];exact hl,fun p hp=>kk _ (upd Hf1 p (.tup vs)) _ (g1.trans (.alloc g1.sub hp)) (by rw[<- mM r1];exact ak)⟩⟩
theorem vT:EO X G dl (.Dict [] [] pos) (.bE []):=cy uB fun st H Q zq=>k3 zq fun Hf zq=>have S:=zq.1;have k:=zq.2;fun p hp=>k p Hf _ (.cN S.sub hp) hp (S.sub.free hp) (show(upd H p (.dT [])) p=_ from ak)
theorem oj (n:Nat){ps pn:Pos}{v:Int}(hu:X.A.units+1 < cLine)(he:EE X G dl e (.int v))(hb:ET X G dl b k)(hl:cM.length < sizeLine)(hd:dl[n]?=some (.own (.bE cM)):=by rfl)(hN:X.N[n]?=some x:=by rfl)(hv:nu X.env.scope x:=by first | exact LV rfl | exact LJ (LV rfl) | exact LJ (LJ rfl))(eP:(x == ("__debug__":Str))=false:=by decide)(eE:(x == ("__classdict__":Str))=false:=by decide)(hs:swapsWith e (some (.Subscript (.Name x pn) b ps)) pos.line X.env=pure false:=by rfl):ES X G E dl (.Assign [.Subscript (.Name x pn) b ps] e pos) (.nx (dl.set n (.own (.bE (oh cM k v))))):=
 nS (jh hu (iQ (p:=pn) n hd hN hv eP eE) hb he hs) fun D st H zq=>k3 zq fun Hf zq=>have S:=zq.1;have kk:=zq.2;⟨Hf,S,fun w Hf1 H1 g1 r1=>by
   cases r1
   have S1:=S.grow g1
   obtain⟨q,z1,z2,z3,z4⟩:=S1.own n _ hd
   refine⟨Hf1,q,S1,z1,z2,z4,Hf1,S1,fun iv aR H2 g2 r2=>?_⟩
   have S2:=S1.grow g2
   obtain⟨q',y1,y2,y3,y4⟩:=S2.own n _ hd
   rw[z1] at y1;cases y1
   have y4:H2 q=some (.dT (oS cM)):=y4
   have D6:(oS cM).length < sizeLine:=by unfold oS;rw[Bn];exact hl
   refine⟨q,_,rfl,kM.t y4 (S2.sub _ _ r2) D6,kk st aR _ (g1.a7.trans g2.a7) (S2.uI hd z1 ?_)⟩
   show(upd H2 q _) q=some (.dT (oS (oh cM k v)))
   rw[<- vS];exact ak⟩
theorem Eo {neg:Bool}(n:Nat)(hd:dl[n]?=some (.own (.bE cM))):∀ st H Q,tD X.K G dl (.bl (if neg then !(di cM k).isSome else (di cM k).isSome)) st H Q ->
   (if neg then ma (G8 X.K G dl k) (GI X.K G dl n (.bE cM)) else AZ (G8 X.K G dl k) (GI X.K G dl n (.bE cM))) st H Q:=fun st H Q zq=>k3 zq fun Hf zq=>have S:=zq.1;have kk:=zq.2;by
 cases neg with
 | false=>exact⟨Hf,S,fun b Hf1 H1 g1 r1=>by
     have S1:=S.grow g1
     obtain⟨q,z1,z2,z3,z4⟩:=S1.own n _ hd
     have z5:H1 q=some (.dT (oS cM)):=z4
     refine⟨Hf1,q,S1,z1,z2,z4,q,_,rfl,dt.t z5 (S1.sub _ _ r1),?_⟩
     rw[eW,Mg]
     exact kk _ Hf1 H1 g1 (.bl _)⟩
 | true=>exact⟨Hf,S,fun b Hf1 H1 g1 r1=>by
     have S1:=S.grow g1
     obtain⟨q,z1,z2,z3,z4⟩:=S1.own n _ hd
     have z5:H1 q=some (.dT (oS cM)):=z4
     refine⟨Hf1,q,S1,z1,z2,z4,q,_,rfl,dt.t z5 (S1.sub _ _ r1),?_⟩
     rw[eW,Mg]
     exact kk _ Hf1 H1 g1 (.bl _)⟩
theorem yJ (n:Nat)(hu:X.A.units+1 < cLine)(hi:ET X G dl i k)(hd:dl[n]?=some (.own (.bE cM)):=by rfl)(hN:X.N[n]?=some x:=by rfl)(hv:nu X.env.scope x:=by first | exact LV rfl | exact LJ (LV rfl) | exact LJ (LJ rfl))(eP:(x == ("__debug__":Str))=false:=by decide)(eE:(x == ("__classdict__":Str))=false:=by decide)(hm:behindInMarks .In (.Name x p)=false:=by rfl):EB X G dl (.Compare i [.In] [.Name x p] pos) (di cM k).isSome:=
 A8 (lX (uz hu hi (iQ (p:=p) n hd hN hv eP eE)) hm) fun st H Q zq=>k3 zq fun Hf zq=>have S:=zq.1;have kk:=zq.2;Eo (neg:=false) n hd st H _ ⟨Hf,S,fun v ar H' g r=>by cases r;exact⟨_,rfl,kk ar H' g⟩⟩
theorem yK (n:Nat){v:Int}{f:Expr}{apos bo:Pos}(hu:X.A.units+1 < cLine)(hi:ET X G dl i k)(hf:EE X G dl f (.int v))(m:M2 X (.Name x p) "get" apos i f bo)(hd:dl[n]?=some (.own (.bE cM)):=by rfl)(hN:X.N[n]?=some x:=by rfl)(hv:nu X.env.scope x:=by first | exact LV rfl | exact LJ (LV rfl) | exact LJ (LJ rfl))(eP:(x == ("__debug__":Str))=false:=by decide)(eE:(x == ("__classdict__":Str))=false:=by decide):EE X G dl (.Call (.Attribute (.Name x p) "get" apos) [i,f] [] bo) (.int ((di cM k).getD v)):=
 cy (uD hu (iQ (p:=p) n hd hN hv eP eE) hi hf m) fun st H Q zq=>k3 zq fun Hf zq=>have S:=zq.1;have kk:=zq.2;by
   obtain⟨q,z1,z2,z3,z4⟩:=S.own n _ hd
   have z5:H q=some (.dT (oS cM)):=z4
   refine⟨Hf,q,S,z1,z2,z4,q,rfl,.inr ⟨_,.inl z5⟩,Hf,S,fun b Hf1 H1 g1 r1=>⟨Hf1,S.grow g1,fun w aR H2 g2 r2=>?_⟩⟩
   cases r2
   have S2:=(S.grow g1).grow g2
   obtain⟨q',y1,y2,y3,y4⟩:=S2.own n _ hd
   rw[z1] at y1;cases y1
   have y4:H2 q=some (.dT (oS cM)):=y4
   refine⟨_,dt.t y4 (S2.sub _ _ (g2.a7 _ _ r1)),?_⟩
   rw[eW]
   have e:((di cM k).map V.int).getD (.int v)=.int ((di cM k).getD v):=by cases di cM k <;> rfl
   rw[e]
   exact kk _ aR H2 (g1.trans g2) (.int _)
end
section
variable {prog:Program}{w:World}{A:Around}{E:Value->Shared->Prop}{s:Shared}
def qK (h:Heap)(d:Addr)(n:Nat):Prop:=∃ o es ep,h.get? d=some o/\o.ExactDict/\o.data=.dict es ep/\es.size=n
theorem qK.typeIs {d:Addr}{n:Nat}(h:qK s.heap d n):s.TypeIs (.ref d) "dict":=by
 obtain⟨o,es,ep,h1,h2,_⟩:=h
 exact⟨o,h1,h2.1⟩
theorem pM {d:Addr}(hd:(d == sysModules)=false):MeetsIn prog w (Builtin.«dict.__len__» ⟨[.ref d],[]⟩) (fun _ R s=>∃ n,qK s.heap d n/\R (.ok (.ret (.int n s.toks))) { s with toks:=s.toks+1}):=
 .of_wp fun A R s ⟨n,hm,h⟩=>by
   obtain⟨o,es,ep,ho,hc,G9,hn⟩:=hm
   show wpAny _ _ (dictSize d >>= _) _ _ s
   unfold dictSize
   refine wpAny_bind (wpAny_bind (wpAny_dictEntries ho G9 (wpAny_pure ?_)))
   show wpAny _ _ (Builtin.Dict.pendingCount d >>= _) _ _ s
   refine wpAny_bind (wpAny_pendingCount_other hd ?_)
   refine wpAny_ret_mkInt ?_
   rw[Nat.add_zero,hn];exact h
theorem sI {d:Addr}{n:Nat}{Q:Value->Shared->Prop}(hd:(d == sysModules)=false)(hm:qK s.heap d n)(Ka:(n:Int) < 2 ^ 63)(h:Q (.int n (s.toks+1)) { s with toks:=s.toks+1+1}):wpAny (model prog w) A (call (.builtin "len") [.ref d]) Q E s:=by
 refine Calls.call_function_entry kind_len plain_len entry_len (args_len1 _) ?_
 unfold Builtin.«len»
 refine wpAny_bind (m:=oneArg "len" _) (wpAny_pure ?_)
 refine wpAny_bind (m:=callSpecial? (.ref d) (Str.ofString "__len__")) (wpAny_callSpecial?_slot (name:=Str.ofString "__len__") hm.typeIs PySem.F.slot_dict_len
   (call_meetsIn PySem.F.slot_dict_len hm.typeIs PySem.F.entry_dict_len (PySem.F.args_dict_len_1 _) (pM hd) ⟨n,hm,?_⟩))
 show wpAny _ _ _ _ _ { s with toks:=s.toks+1}
 refine wpAny_bind (wpAny_holding (wpAny_pure ?_))
 refine wpAny_bind (wpAny_letGo ?_)
 show wpAny _ _ (if ((n:Nat):Int) < 0 then _ else _) _ _ _
 rw[if_neg (by omega)]
 show wpAny _ _ (if ((n:Nat):Int) >= 2 ^ 63 then _ else _) _ _ _
 rw[if_neg (by omega)]
 exact wpAny_bind (wpAny_mkInt (wpAny_pure ⟨_,rfl,h⟩))
end
theorem KT.len {H:Hp}{kvs:List (List Key×V)}{xs:List (List Key×Addr×Value)}(h:KT H kvs xs):kvs.length=xs.length:=by
 induction h with
 | nil=>rfl
 | cons _ _ ih=>rw[Lr,Lr,ih]
theorem sJ {X:Cx}:eN X (.builtin "len") (fun xs H Q=>∃ a kvs,xs=[V.ref a]/\H a=some (.dT kvs)/\Q (.int kvs.length) H):=by
 intro pins s σ H xs us Q I r h
 obtain⟨a,kvs,rfl,ha,q⟩:=h
 obtain⟨u,rfl,ru⟩:=vals1 r
 cases ru
 obtain⟨z,hd,ys,rel,dd⟩:=zY I.aO ha
 obtain⟨o,es,ep,h1,h2,h3,h4,_⟩:=dd
 have hn:es.size=kvs.length:=by rw[KT.len rel,<- Mh,h4,Bn]
 exact sI hd ⟨o,es,ep,h1,h2,h3,hn⟩ (by rw[sizeLine_eq] at z;omega) ⟨.int kvs.length,H,I.tok _,⟨_,rfl⟩,q⟩
section
variable {X:Cx}{G:Gr}{dl:List Slot}{pos p p':Pos}{x:Str}{cM:List (List Key×Int)}
theorem vU (n:Nat)(hm:X.mg "len"=none)(hd:dl[n]?=some (.own (.bE cM)):=by rfl)(hN:X.N[n]?=some x:=by rfl)(hv:nu X.env.scope x:=by first | exact LV rfl | exact LJ (LV rfl) | exact LJ (LJ rfl))(eP:(x == ("__debug__":Str))=false:=by decide)(eE:(x == ("__classdict__":Str))=false:=by decide)(hg:Gl X "len":=by rfl)(he:starEach [.Name x p'] X.env=[(false,eval (.Name x p') X.env)]:=by rfl):EE X G dl (.Call (.Name "len" p) [.Name x p'] [] pos) (.int cM.length):=
 cy (cf sJ hg hm PySem.boot_len (qi (iQ (p:=p') n hd hN hv eP eE) uh he) (he:=he)) fun st H Q zq=>k3 zq fun Hf zq=>have S:=zq.1;have k:=zq.2;by
   obtain⟨q,h1,h2,h3,h4⟩:=S.own n _ hd
   have h5:H q=some (.dT (oS cM)):=h4
   refine⟨Hf,q,S,h1,h2,h4,q,_,rfl,h5,?_⟩
   have e:(oS cM).length=cM.length:=Bn ..
   rw[e]
   exact k _ Hf H (.refl S.sub) (.int _)
end
end Sg
namespace Pf
open PySem PySem.Spec PyProof.Rows L2 Sg
structure BZ (K:W.Frag)(x q:Str)(st:Stmt)(ps:List Str)(f:Addr)(d:FuncData):Prop where
 F:CF K x q st f d
 b:Binds K d ps []
structure Hc (K:W.Frag)(x q:Str)(st:Stmt)(ps:List Str)(f:Addr)(d:FuncData):Prop where
 F:vb K x q st f d
 b:Binds K d ps []
structure dJ (K:W.Frag)(x:Str)(st:Stmt)(ps:List Str)(f:Addr)(d:FuncData):Prop where
 F:CF K x x st f d
 b:Binds K d ps []
 a:W.nsIn K mainGlobals x=some (some (.ref f))
structure B0 (K:W.Frag)(x:Str)(C:Addr):Prop where
 a:W.nsIn K mainGlobals x=some (some (.ref C))
 cl:l3 K C
 kc:W.keepIn K (.ref C)=true
abbrev B1 (x q:Str)(st:Stmt)(ps:List Str):Prop:=∀ (kV doc pm:Value) (an:Option Addr) (bj ct:Value) (us:List Value),us.length=ps.length->bindArgs (W.fnOf x q (bp st) (aD st) (ag st) .none kV doc pm an bj ct) ⟨us,[]⟩=pure (ps.zip us)
section
variable {K:W.Frag}{x q:Str}{st:Stmt}{ps:List Str}{f:Addr}{oc:Value}{od an:Option Addr}{k7:Array (Option Value)}{kV doc pm bj ct:Value}
theorem B2 (l:K.lookup f=some ⟨oc,od,.func (W.fnOf x q (bp st) (aD st) (ag st) .none kV doc pm an bj ct),k7⟩)(c:W.codeIn K bj q=true)(k:W.keepIn K (.ref f)=true)(b:B1 x q st ps):BZ K x q st ps f (W.fnOf x q (bp st) (aD st) (ag st) .none kV doc pm an bj ct):=⟨jT l c k,(jT l c k).binds b⟩
theorem B3 (l:K.lookup f=some ⟨oc,od,.func (W.fnOf x q (bp st) (aD st) (ag st) .none kV doc pm an bj ct),k7⟩)(c:W.codeIn K bj q=true)(k:W.keepIn K (.ref f)=true)(b:B1 x q st ps):Hc K x q st ps f (W.fnOf x q (bp st) (aD st) (ag st) .none kV doc pm an bj ct):=⟨qC l c,(jT l c k).binds b⟩
theorem B4 (a:W.nsIn K mainGlobals q=some (some (.ref f)))(l:K.lookup f=some ⟨oc,od,.func (W.fnOf q q (bp st) (aD st) (ag st) .none kV doc pm an bj ct),k7⟩)(c:W.codeIn K bj q=true)(k:W.keepIn K (.ref f)=true)(b:B1 q q st ps):dJ K q st ps f (W.fnOf q q (bp st) (aD st) (ag st) .none kV doc pm an bj ct):=⟨jT l c k,(jT l c k).binds b,a⟩
theorem B5 {C:Addr}(a:W.nsIn K mainGlobals x=some (some (.ref C)))(p:W.plainGet K C Str.empty=true)(h:W.hasDictIn K C=true)(o:W.plainOver K C=true)(s:W.findIn K (.ref C) "__setattr__"=some (some (.builtin "object.__setattr__")))(k:W.keepIn K (.ref C)=true):B0 K x C:=⟨a,⟨p,h,o,s⟩,k⟩
end
theorem iZ {N P:List Str}{sc:Scope}(h:(sc.kind == .function && !sc.isCoroutine && !sc.isGenerator && decide N.Nodup && decide (N.take P.length=P) && P.all (fun x=>decide (sc.names.lookup x=some .local\/sc.names.lookup x=some .cell)) && sc.names.all fun y=>decide (y.2≠.free))=true):av N P sc:=by
 simp only[LX,ME,decide_eq_true_eq,Bool.not_eq_true',beq_iff_eq] at h
 exact⟨h.1.1.1.1.1.1,h.1.1.1.1.1.2,h.1.1.1.1.2,h.1.1.1.2,h.1.1.2,h.1.2,h.2⟩
noncomputable def top (i:Nat):Stmt:=PySem.Challenge.pw_strokegrow_k63_whole_elders_hold_the_wor.main.body.getD i (.Pass ⟨0,0,0,0⟩)
noncomputable abbrev kg:Stmt:=top 3
noncomputable abbrev gL:Stmt:=top 4
noncomputable abbrev d6:Stmt:=top 5
noncomputable abbrev bw:Stmt:=top 6
noncomputable abbrev kh:Stmt:=top 7
noncomputable abbrev ki:Stmt:=top 19
noncomputable abbrev cm:Stmt:=top 23
noncomputable abbrev bP:Stmt:=top 24
noncomputable abbrev bx:Stmt:=top 25
noncomputable abbrev cU:Stmt:=inClass (top 26) 0
noncomputable abbrev cP:Stmt:=inClass (top 26) 2
noncomputable abbrev cn:Stmt:=inClass (top 26) 4
noncomputable abbrev d7:Stmt:=inClass (top 26) 6
noncomputable abbrev aB:Stmt:=inClass (top 26) 7
noncomputable abbrev iz:Stmt:=top 28
noncomputable abbrev gM:Stmt:=top 29
noncomputable abbrev mO:Stmt:=top 30
noncomputable abbrev iA:Stmt:=top 31
noncomputable abbrev pN:Stmt:=top 32
noncomputable abbrev pO:Stmt:=top 33
noncomputable abbrev fq:Stmt:=top 34
noncomputable abbrev dM:Stmt:=top 35
noncomputable abbrev mP:Stmt:=top 36
noncomputable abbrev ft:Stmt:=top 37
noncomputable abbrev lE:Stmt:=top 38
noncomputable abbrev vV:List Str:=["shown","word","many","one","other"]
theorem lF:av vV ["shown","word"] (ag kg):=iZ (by decide +kernel)
noncomputable abbrev vW:List Str:=["shown","word","place","onward","behind"]
theorem lG:av vW ["shown","word","place","onward"] (ag gL):=iZ (by decide +kernel)
noncomputable abbrev mQ:List Str:=["letter","led"]
theorem kQ:av mQ ["letter","led"] (ag d6):=iZ (by decide +kernel)
noncomputable abbrev gc:List Str:=["rules","word","end","onward","place","best","letter","led"]
theorem cS:av gc ["rules","word"] (ag bw):=iZ (by decide +kernel)
noncomputable abbrev vX:List Str:=["rules","word","onward","told","letter","grown","offset","led"]
theorem lH:av vX ["rules","word"] (ag kh):=iZ (by decide +kernel)
noncomputable abbrev vY:List Str:=["ways"]
theorem sL:av vY ["ways"] (ag ki):=iZ (by decide +kernel)
noncomputable abbrev gN:List Str:=["text"]
theorem gd:av gN ["text"] (ag cm):=iZ (by decide +kernel)
noncomputable abbrev eX:List Str:=["word","letters"]
theorem i0:av eX ["word","letters"] (ag bP):=iZ (by decide +kernel)
noncomputable abbrev d8:List Str:=["rows","firsts","letters","number","row","letter_fits"]
theorem fW:av d8 ["rows"] (ag bx):=iZ (by decide +kernel)
noncomputable abbrev mR:List Str:=["self","ways","rows","drawer","row"]
theorem fX:av mR ["self","ways","rows"] (ag cU):=iZ (by decide +kernel)
noncomputable abbrev i4:List Str:=["self"]
theorem iB:av i4 ["self"] (ag cP):=iZ (by decide +kernel)
noncomputable abbrev kj:List Str:=["self","letter"]
theorem i5:av kj ["self","letter"] (ag cn):=iZ (by decide +kernel)
noncomputable abbrev mS:List Str:=["self","letter"]
theorem kR:av mS ["self","letter"] (ag d7):=iZ (by decide +kernel)
noncomputable abbrev i6:List Str:=["self","text","most","at","sign"]
theorem dN:av i6 ["self","text","most"] (ag aB):=iZ (by decide +kernel)
noncomputable abbrev sM:List Str:=["_law_script","_law_k","_law_cell","_law_low"]
theorem d9:av sM ["_law_script","_law_k"] (ag iz):=iZ (by decide +kernel)
noncomputable abbrev qL:List Str:=["_law_script","_law_first","_law_last"]
theorem vZ:av qL ["_law_script","_law_first","_law_last"] (ag gM):=iZ (by decide +kernel)
noncomputable abbrev yL:List Str:=["_law_found"]
theorem v3:av yL ["_law_found"] (ag mO):=iZ (by decide +kernel)
noncomputable abbrev sN:List Str:=["_law_cell","_law_many","_law_left","_law_number","_law_found","_law_k","_law_at"]
theorem kl:av sN ["_law_cell","_law_many"] (ag iA):=iZ (by decide +kernel)
noncomputable abbrev B6:List Str:=["_law_letters_here","_law_cell","_law_size","_law_found","_law_k"]
theorem qM:av B6 ["_law_letters_here","_law_cell","_law_size"] (ag pN):=iZ (by decide +kernel)
noncomputable abbrev B7:List Str:=["_law_letters_here","_law_cells_here","_law_most","_law_rows_here","_law_k","_law_cell","_law_deed"]
theorem qN:av B7 ["_law_letters_here","_law_cells_here","_law_most"] (ag pO):=iZ (by decide +kernel)
noncomputable abbrev qO:List Str:=["_law_words","_law_word_here"]
theorem v5:av qO ["_law_words","_law_word_here"] (ag fq):=iZ (by decide +kernel)
noncomputable abbrev lI:List Str:=["_law_one","_law_other","_law_many"]
theorem km:av lI ["_law_one","_law_other"] (ag dM):=iZ (by decide +kernel)
noncomputable abbrev yM:List Str:=["_law_letters_here","_law_words","_law_script","_law_size","_law_cell","_law_at"]
theorem om:av yM ["_law_letters_here","_law_words","_law_script"] (ag mP):=iZ (by decide +kernel)
noncomputable abbrev qP:List Str:=["_law_words","_law_letter","_law_offset","_law_elder","_law_word_here"]
theorem oo:av qP ["_law_words","_law_letter","_law_offset","_law_elder","_law_word_here"] (ag ft):=iZ (by decide +kernel)
noncomputable abbrev Ag:List Str:=["_law_script","_law_letters_here","_law_rows_here","_law_words","_law_letter","_law_deed","_law_word_here","_law_far","_law_told","_law_cell","_law_elder","_law_offset"]
theorem v7:av Ag ["_law_script"] (ag lE):=iZ (by decide +kernel)
set_option genInjectivity false in
set_option genSizeOf false in
structure oq where
 (gO eY cV a9 gP gQ bG cq cW bA bg ba bQ aC fu jr js fz mT mU gR dO f_short gS fY:Addr)
 (gT gU cX bB gW gX bH cu cY cZ bY cv c0 bZ fA jt ju fB mV mW jv fC jw jx ko:FuncData)
 (b5:Tok)
 (cC eh aE ei:Addr)
 (ot kr i7:Tok)
 K:W.Frag
structure Txt (K:W.Frag)(mg:Str->Option Value)(t:oq):Prop where
 hK:t.K=K
 g:∀ {x:Str} {v:Value},W.nsIn K mainGlobals x=some (some v)->mg x=some v
 gn:∀ {x:Str},W.nsIn K mainGlobals x=some none->mg x=none
 iC:B0 K "Quarter" t.cC
 mX:B0 K "Sixth" t.eh
 bR:B0 K "Rules" t.aE
 gf:Bj K t.cC
 ku:Bj K t.eh
 ky:L2.Mk K t.aE t.bA
 cQ:de K t.aE "drawer"
 ay:de K t.aE "row_by_letter"
 yN:mg "DEEDS"=some (.ref t.ei)
 yO:∀ H,Rep K H (.ref t.ei) (.tup [.str "stroke",.str "step",.str "left",.str "right",.str "rest"])
 ow:mg "MOST_ROWS"=some (.int 6 t.ot)
 kz:mg "MOST_IN_WORD"=some (.int 8 t.kr)
 i8:mg "MOST_LED_BACK"=some (.int 12 t.i7)
 dP:dJ K "agreed" kg ["shown","word"] t.gO t.gT
 dQ:dJ K "led_on" gL ["shown","word","place","onward"] t.eY t.gU
 bS:dJ K "begun_with" d6 ["letter","led"] t.cV t.cX
 aP:dJ K "onward_by_places" bw ["rules","word"] t.a9 t.bB
 dR:dJ K "elders" kh ["rules","word"] t.gP t.gW
 dS:dJ K "pen_of" ki ["ways"] t.gQ t.gX
 aV:dJ K "is_small_letter" cm ["text"] t.bG t.bH
 bq:dJ K "is_word_over" bP ["word","letters"] t.cq t.cu
 bT:dJ K "check_rows" bx ["rows"] t.cW t.cY
 c5:Hc K "__init__" "Rules.__init__" cU ["self","ways","rows"] t.bA t.cZ
 bC:Meth K t.aE "letters" t.bg
 b6:BZ K "letters" "Rules.letters" cP ["self"] t.bg t.bY
 bF:Meth K t.aE "row_of" t.ba
 cw:BZ K "row_of" "Rules.row_of" cn ["self","letter"] t.ba t.cv
 bV:Meth K t.aE "word" t.bQ
 c6:BZ K "word" "Rules.word" d7 ["self","letter"] t.bQ t.c0
 bD:Meth K t.aE "word_of" t.aC
 sO:Binds K t.bZ ["self","text","most"] [.int 8 t.b5]
 i9:vb K "word_of" "Rules.word_of" aB t.aC t.bZ
 tM:W.keepIn K (.ref t.aC)=true
 ja:Binds K t.bZ ["self","text","most"] []
 c8:dJ K "_law_cell_at" iz ["_law_script","_law_k"] t.fu t.fA
 fD:dJ K "_law_cells" gM ["_law_script","_law_first","_law_last"] t.jr t.jt
 fE:dJ K "_law_whole" mO ["_law_found"] t.js t.ju
 c9:dJ K "_law_letters" iA ["_law_cell","_law_many"] t.fz t.fB
 iD:dJ K "_law_word" pN ["_law_letters_here","_law_cell","_law_size"] t.mT t.mV
 iE:dJ K "_law_rows" pO ["_law_letters_here","_law_cells_here","_law_most"] t.mU t.mW
 fF:dJ K "_law_grown" fq ["_law_words","_law_word_here"] t.gR t.jv
 da:dJ K "_law_agreed" dM ["_law_one","_law_other"] t.dO t.fC
 fG:dJ K "_law_short" mP ["_law_letters_here","_law_words","_law_script"] t.f_short t.jw
 fH:dJ K "_law_holds" ft ["_law_words","_law_letter","_law_offset","_law_elder","_law_word_here"] t.gS t.jx
 oy:dJ K "law" lE ["_law_script"] t.fY t.ko
 dk:mg "range"=none
 bf:mg "len"=none
 bU:mg "isinstance"=none
 v8:mg "int"=none
 pP:mg "bool"=none
 jy:mg "tuple"=none
 pQ:mg "list"=none
 qQ:mg "all"=none
 dm:mg "enumerate"=none
 qR:mg "zip"=none
 v9:mg "min"=none
 Ah:mg "max"=none
 wa:mg "str"=none
 wb:mg "sum"=none
theorem B8 {K:W.Frag}{h:Heap}{mg:Str->Option Value}(X:K.In h)(G:h.Ns mainGlobals mg){gO eY cV a9 gP gQ bG cq cW bA bg ba bQ aC fu jr js fz mT mU gR dO f_short gS fY cC eh aE ei:Addr}{gT gU cX bB gW gX bH cu cY cZ bY cv c0 fA jt ju fB mV mW jv fC jw jx ko:FuncData}{b5 y0 y1 y2:Tok}{y3:Option Addr}{y4:Nat}{y5:Array (Option Value)}{wc we wg wj wk:Tok}{y6 y7:Option Addr}{y8:Array (Option Value)}{y9 Iz IA IB Hd IC:Value}{cR:Addr}{Kb:Option Addr}{Kc:Value}{Kd:Nat}{Ke:Array (Option Value)}
   (iC:B0 K "Quarter" cC)
   (mX:B0 K "Sixth" eh)
   (bR:B0 K "Rules" aE)
   (gf:Bj K cC)
   (ku:Bj K eh)
   (ky:L2.Mk K aE bA)
   (cQ:W.findIn K (.ref aE) "drawer"=some none)
   (ay:W.findIn K (.ref aE) "row_by_letter"=some none)
   (wm:W.nsIn K mainGlobals "DEEDS"=some (some (.ref ei)))
   (wq:K.lookup ei=some ⟨.type "tuple",y3,.seq #[.str "stroke" wc,.str "step" we,.str "left" wg,.str "right" wj,.str "rest" wk] y4,y5⟩)
   (mY:W.nsIn K mainGlobals "MOST_ROWS"=some (some (.int 6 y0)))
   (jb:W.nsIn K mainGlobals "MOST_IN_WORD"=some (some (.int 8 y1)))
   (iF:W.nsIn K mainGlobals "MOST_LED_BACK"=some (some (.int 12 y2)))
   (dP:dJ K "agreed" kg ["shown","word"] gO gT)
   (dQ:dJ K "led_on" gL ["shown","word","place","onward"] eY gU)
   (bS:dJ K "begun_with" d6 ["letter","led"] cV cX)
   (aP:dJ K "onward_by_places" bw ["rules","word"] a9 bB)
   (dR:dJ K "elders" kh ["rules","word"] gP gW)
   (dS:dJ K "pen_of" ki ["ways"] gQ gX)
   (aV:dJ K "is_small_letter" cm ["text"] bG bH)
   (bq:dJ K "is_word_over" bP ["word","letters"] cq cu)
   (bT:dJ K "check_rows" bx ["rows"] cW cY)
   (c5:Hc K "__init__" "Rules.__init__" cU ["self","ways","rows"] bA cZ)
   (bC:Meth K aE "letters" bg)
   (b6:BZ K "letters" "Rules.letters" cP ["self"] bg bY)
   (bF:Meth K aE "row_of" ba)
   (cw:BZ K "row_of" "Rules.row_of" cn ["self","letter"] ba cv)
   (bV:Meth K aE "word" bQ)
   (c6:BZ K "word" "Rules.word" d7 ["self","letter"] bQ c0)
   (bD:Meth K aE "word_of" aC)
   (Kf:K.lookup aC=some ⟨y9,y6,.func (W.fnOf "word_of" "Rules.word_of" (bp aB) (aD aB) (ag aB) (.ref cR) Iz IA IB y7 Hd IC),y8⟩)
   (ID:K.lookup cR=some ⟨Kc,Kb,.seq #[.int 8 b5] Kd,Ke⟩)
   (Kg:W.codeIn K Hd "Rules.word_of"=true)
   (Kh:W.keepIn K (.ref aC)=true)
   (c8:dJ K "_law_cell_at" iz ["_law_script","_law_k"] fu fA)
   (fD:dJ K "_law_cells" gM ["_law_script","_law_first","_law_last"] jr jt)
   (fE:dJ K "_law_whole" mO ["_law_found"] js ju)
   (c9:dJ K "_law_letters" iA ["_law_cell","_law_many"] fz fB)
   (iD:dJ K "_law_word" pN ["_law_letters_here","_law_cell","_law_size"] mT mV)
   (iE:dJ K "_law_rows" pO ["_law_letters_here","_law_cells_here","_law_most"] mU mW)
   (fF:dJ K "_law_grown" fq ["_law_words","_law_word_here"] gR jv)
   (da:dJ K "_law_agreed" dM ["_law_one","_law_other"] dO fC)
   (fG:dJ K "_law_short" mP ["_law_letters_here","_law_words","_law_script"] f_short jw)
   (fH:dJ K "_law_holds" ft ["_law_words","_law_letter","_law_offset","_law_elder","_law_word_here"] gS jx)
   (oy:dJ K "law" lE ["_law_script"] fY ko)
   (dk:W.nsIn K mainGlobals "range"=some none)
   (bf:W.nsIn K mainGlobals "len"=some none)
   (bU:W.nsIn K mainGlobals "isinstance"=some none)
   (v8:W.nsIn K mainGlobals "int"=some none)
   (pP:W.nsIn K mainGlobals "bool"=some none)
   (jy:W.nsIn K mainGlobals "tuple"=some none)
   (pQ:W.nsIn K mainGlobals "list"=some none)
   (qQ:W.nsIn K mainGlobals "all"=some none)
   (dm:W.nsIn K mainGlobals "enumerate"=some none)
   (qR:W.nsIn K mainGlobals "zip"=some none)
   (v9:W.nsIn K mainGlobals "min"=some none)
   (Ah:W.nsIn K mainGlobals "max"=some none)
   (wa:W.nsIn K mainGlobals "str"=some none)
   (wb:W.nsIn K mainGlobals "sum"=some none)
   : ∃ t,Txt K mg t/\t.fY=fY:=
 ⟨⟨gO,eY,cV,a9,gP,gQ,bG,cq,cW,bA,bg,ba,bQ,aC,fu,jr,js,fz,mT,mU,gR,dO,f_short,gS,fY,gT,gU,cX,bB,gW,gX,bH,cu,cY,cZ,bY,cv,c0,(W.fnOf "word_of" "Rules.word_of" (bp aB) (aD aB) (ag aB) (.ref cR) Iz IA IB y7 Hd IC),fA,jt,ju,fB,mV,mW,jv,fC,jw,jx,ko,b5,cC,eh,aE,ei,y0,y1,y2,K⟩,⟨rfl,
   W.mg_of X G,
   W.mg_none_of X G,
   iC,
   mX,
   bR,
   gf,
   ku,
   ky,
   cQ,
   ay,
   W.mg_of X G wm,
   fun H=>.tup (vs:=[.str "stroke",.str "step",.str "left",.str "right",.str "rest"]) (.inr ⟨_,_,_,wq,rfl,rfl,L8 rfl,.cons ⟨_,rfl⟩ (.cons ⟨_,rfl⟩ (.cons ⟨_,rfl⟩ (.cons ⟨_,rfl⟩ (.cons ⟨_,rfl⟩ (.nil)))))⟩) (.cons (.str _) (.cons (.str _) (.cons (.str _) (.cons (.str _) (.cons (.str _) (.nil)))))),
   W.mg_of X G mY,
   W.mg_of X G jb,
   W.mg_of X G iF,
   dP,
   dQ,
   bS,
   aP,
   dR,
   dS,
   aV,
   bq,
   bT,
   c5,
   bC,
   b6,
   bF,
   cw,
   bV,
   c6,
   bD,
   fun s us X hl=>by obtain⟨z,y,rfl⟩:=BU hl;exact BindsTo.of_defaults rfl (X _ _ ID) rfl rfl rfl,
   qC (st:=aB) Kf Kg,
   Kh,
   fun s us X hl=>match us,hl with | [_,_,_],_=>BindsTo.of_defaults rfl (X _ _ ID) rfl rfl rfl,
   c8,
   fD,
   fE,
   c9,
   iD,
   iE,
   fF,
   da,
   fG,
   fH,
   oy,
   W.mg_none_of X G dk,
   W.mg_none_of X G bf,
   W.mg_none_of X G bU,
   W.mg_none_of X G v8,
   W.mg_none_of X G pP,
   W.mg_none_of X G jy,
   W.mg_none_of X G pQ,
   W.mg_none_of X G qQ,
   W.mg_none_of X G dm,
   W.mg_none_of X G qR,
   W.mg_none_of X G v9,
   W.mg_none_of X G Ah,
   W.mg_none_of X G wa,
   W.mg_none_of X G wb⟩,rfl⟩
theorem B9 {K:W.Frag}{mg:Str->Option Value}{t:oq}(T:Txt K mg t)(s:Shared)(u:Value):BindsTo s t.ko ⟨[u],[]⟩ [("_law_script",u)]:=by
 obtain⟨oc,od,kV,doc,pm,an,bj,ct,k7,e,lk,eE⟩:=T.oy.F.ex
 rw[e];exact .of_eq rfl
abbrev CX:hX:=HQ
noncomputable def sg (c:Nat):Str:=⟨#[c]⟩
noncomputable def tx (w:List Nat):Str:=⟨w.toArray⟩
structure Row where
 c:Nat
 d:Str
 w:List Nat
noncomputable def lJ:List Str:=["stroke","step","left","right","rest"]
noncomputable def gY (r:Row):Dt:=.tup [.str (sg r.c),.str r.d,.str (tx r.w)]
def small (c:Nat):Prop:=97<=c/\c<=122
structure aH (rows:List Row):Prop where
 pos:0 < rows.length
 le:rows.length<=6
 nd:(rows.map (·.c)).Nodup
 sm:∀ r∈rows,small r.c
 dd:∀ r∈rows,r.d∈lJ
 wp:∀ r∈rows,0 < r.w.length/\r.w.length<=8
 wo:∀ r∈rows,∀ x∈r.w,x∈rows.map (·.c)
noncomputable def mZ (rows:List Row):List (Key×Dt):=rows.map fun r=>(.inr (sg r.c),gY r)
abbrev Rl:=List Dt->Res->Prop
noncomputable def wy (six:Bool):Int:=if six then 6 else 4
noncomputable def oq.pc (t:oq)(six:Bool):Addr:=if six then t.eh else t.cC
noncomputable def oq.pR (t:oq)(six:Bool)(rows:List Row):Dt:=.obj t.aE [("drawer",.kN (.obj (t.pc six) [])),("row_by_letter",.bK (mZ rows))]
theorem eZ {a b:Nat}(h:sg a=sg b):a=b:=by
 have:=congrArg (fun s:Str=>s.cps.toList) h
 simpa [sg] using this
theorem wt {c:Nat}{L:List Nat}:sg c∈L.map sg ↔ c∈L:=by
 constructor
 . intro h
   obtain⟨x,hx,e⟩:=LK.mp h
   rw[<- eZ e];exact hx
 . exact fun h=>LK.mpr ⟨c,h,rfl⟩
theorem He {c:Nat}(h:97<=c):BN "a" (sg c)=true:=by
 have e:("a":Str).cps.toList=[97]:=rfl
 unfold BN
 rw[e]
 show(!decide ([c] < [97]))=true
 have:¬ ([c] < [97]):=by
   intro z
   rcases List.cons_lt_cons_iff.mp z with z | ⟨_,z⟩
   . omega
   . exact absurd z (by simp)
 simp[this]
theorem Hg {c:Nat}(h:c<=122):BN (sg c) "z"=true:=by
 have e:("z":Str).cps.toList=[122]:=rfl
 unfold BN
 rw[e]
 show(!decide ([122] < [c]))=true
 have:¬ ([122] < [c]):=by
   intro z
   rcases List.cons_lt_cons_iff.mp z with z | ⟨_,z⟩
   . omega
   . exact absurd z (by simp)
 simp[this]
theorem kA (w:List Nat):Sg.signs (tx w)=(w.map sg).map Dt.str:=by
 unfold Sg.signs tx
 rw[LB];rfl
theorem br (w:List Nat):(tx w).length=w.length:=by show w.toArray.size=w.length;simp
theorem gZ {w:List Nat}(h:∀ x∈w,x < 128):cB (tx w)=true:=by
 unfold cB tx
 rw[Array.all_eq_true_iff_forall_mem]
 intro x hx
 exact decide_eq_true (h x (by simpa using hx))
theorem iG:∀ {rows:List Row},(rows.map (·.c)).Nodup->∀ {r:Row},r∈rows->bO (mZ rows) (.inr (sg r.c))=some (gY r)
 | [],_,r,h=>by cases h
 | q::rows,nd,r,h=>by
   rw[Lv,Mm] at nd
   rcases K4.mp h with rfl | h
   . exact eV (p:=(.inr (sg r.c),gY r)) rfl
   . have ne:¬ (Sum.inr (sg q.c):Key)=.inr (sg r.c):=fun z=>nd.1 (by
       rw[eZ (Sum.inr.inj z)]
       exact LK.mpr ⟨r,h,rfl⟩)
     show bO ((.inr (sg q.c),gY q)::mZ rows) _=_
     rw[dH (p:=(.inr (sg q.c),gY q)) ne]
     exact iG nd.2 h
theorem tN {n:Nat}(h:n<=2000):n<=sizeLine:=LA h (by decide)
def yP:Rl:=fun ds r=>∃ c,ds=[.str (sg c)]/\small c/\r=.ret (.bl true)
def Ca:Rl:=fun ds r=>∃ (w L:List Nat),ds=[.str (tx w),.lst ((L.map sg).map .str)]/\(0 < w.length/\w.length<=8)/\(∀ x∈w,x∈L)/\(∀ x∈L,small x)/\r=.ret (.bl true)
def yQ:Rl:=fun ds r=>∃ rows,ds=[.lst (rows.map gY)]/\aH rows/\r=.ret .aW
noncomputable def Cb:Stmt->Scope
 | .Return (some (.BoolOp _ [_,.Call _ [.ListComp _ _ sc _] _ _] _)) _=>sc
 | _=>ag (.Pass ⟨0,0,0,0⟩)
noncomputable abbrev yR:Scope:=Cb ((aD bP).getD 0 (.Pass ⟨0,0,0,0⟩))
theorem qS:iR yR (ag bP) eX ["sign","letters"] ["sign"] [1]=true:=by decide +kernel
noncomputable abbrev sP:Scope:=Ia ((aD bx).getD 2 (.Pass ⟨0,0,0,0⟩))
theorem lK:iR sP (ag bx) d8 ["row"] ["row"] []=true:=by decide +kernel
noncomputable abbrev yS:Scope:=Ia ((aD bx).getD 3 (.Pass ⟨0,0,0,0⟩))
theorem qT:iR yS (ag bx) d8 ["first"] ["first"] []=true:=by decide +kernel
theorem cG {X:Cx}{G:Gr}{dl:List Slot}{zs IE:List Dt}{wi:TI}(h:iY X G dl zs wi)(e:IE=zs):iY X G dl IE wi:=by subst e;exact h
variable {P:Program}{w:World}{K:W.Frag}{mg:Str->Option Value}{base:Heap}{t:oq}
theorem wu (T:Txt K mg t):GF P w K mg base CX 1 "is_small_letter" 1 yP:=by
 refine⟨_,_,_,jY T.aV.F gd rfl fun bj A outer s H E G ds r hr hl hR=>?_,(T.g T.aV.a),T.aV.F.kp,T.aV.b⟩
 obtain⟨c,rfl,⟨h1,h2⟩,rfl⟩:=hR
 exact⟨_,.rt _,aq (aY (mm (u:=true) (v:=true) (aI (iq (mq T.bf (aa 0 rfl) (tN (n:=1) (by decide))) af) rfl) fun _=>(jj (aI (vo cj (aa 0 rfl) cj) (by rw[He h1,Hg h2];rfl)))))⟩
theorem yT (T:Txt K mg t):GF P w K mg base CX 1 "is_word_over" 2 Ca:=by
 refine⟨_,_,_,jY T.bq.F i0 rfl fun bj A outer s H E G ds r hr hl hR=>?_,(T.g T.bq.a),T.bq.F.kp,T.bq.b⟩
 obtain⟨wd,L,rfl,⟨h0,h8⟩,hw,hL,rfl⟩:=hR
 have BS:cB (tx wd)=true:=gZ fun x hx=>by have:=hL x (hw x hx);unfold small at this;omega
 have hlen:=br wd
 have e1:(decide ((1:Int)<=((tx wd).length:Nat)) && decide (((tx wd).length:Nat)<=(8:Int)))=true:=by
   rw[hlen,decide_eq_true (by omega),decide_eq_true (by omega)];rfl
 have e2:(((wd.filter fun _=>true).map fun x=>Dt.bl (decide (sg x∈L.map sg))))=((LR wd.length true).map Dt.bl):=by
   rw[Mi.mpr (fun _ _=>rfl)]
   refine List.ext_getElem (by simp) fun i h1 h2=>?_
   simp only[Md,List.getElem_replicate]
   have hi:i < wd.length:=by simpa using h1
   rw[decide_eq_true (wt.mpr (hw _ (LI hi)))]
 have e3:(LR wd.length true).all id=true:=by simp
 have es:wd.map (fun x=>Dt.str (sg x))=Sg.signs (tx wd):=by rw[kA,LB];rfl
 refine⟨_,.rt _,aq (aY (mm (u:=true) (v:=true) (aI (vp af (mq T.bf (aa 0 rfl) (tN (by omega))) (jl (w:=.int 8) T.kz ⟨_,rfl⟩ fun _=>.int 8)) (congrArg Dt.bl e1)) fun _=>(jj (aI (vt (bs:=LR wd.length true) T.qQ rfl (aI (nT (mH wd (fun x=>Dt.str (sg x)) (fun x=>.bl (decide (sg x∈L.map sg))) (fun x=>[.val (.str (sg x))]) (fun _=>true) rfl (eI qS) (iu (aa 0 rfl)) (dF (eI qS) rfl) (cG (dG BS) es) (fun a _=>fm) (.nil fun _ _=>rfl)
   (fun a ha _ C fp s' H' G'=>BO (aa 0 rfl) (aa 1 rfl)) (tN (by omega)))) (congrArg Dt.lst e2))) (congrArg Dt.bl e3)))))⟩
theorem pS {k:Nat}{ds:List Dt}{K:W.Frag}{H:Hp}{vs:List V}(r:aS K H vs ds)(hk:k<=ds.length):aS K H (nG vs none (some (k:Int))) (ds.take k):=by
 unfold nG
 rw[HT.uu,HT.l5,MA,r.length,Nat.min_eq_left hk,Nat.sub_zero]
 exact r.take k
theorem yU {X:Cx}{G:Gr}{dl:List Slot}{a b:Expr}{ds:List Dt}{k:Nat}{pos p2:Pos}(ha:EE X G dl a (.lst ds))(hb:EE X G dl b (.int (k:Int)))(hk:k<=ds.length):EO X G dl (.Subscript a (.Slice none (some b) none p2) pos) (.lst (ds.take k)):=
 cy (jM qo ha qk (je hb)) fun st H Q zq=>k3 zq fun Hf zq=>have S:=zq.1;have kk:=zq.2;⟨Hf,S,fun v Hf1 H1 g1 r1=>by
   cases r1 with
   | @lst q vs _ hq rp=>
     refine⟨Hf1,S.grow g1,fun z aR H2 g2 r2=>?_⟩
     cases r2
     have g:=g1.trans g2
     refine⟨(k:Int),rfl,q,vs,rfl,.of (g2.big _ _ (g1.sub _ _ hq)),fun p hp=>kk p aR _ (g.trans (.cN g.sub hp)) (g.big.free hp) (g.sub.free hp) ⟨_,ak,pS (rp.mono g2.a7) hk⟩⟩⟩
theorem iH {L:List Dt}{L':List Dt}(e:L=L'){X:Cx}{G:Gr}{dl:List Slot}{z:Expr}(h:EO X G dl z (.lst L)):EE X G dl z (.lst L'):=by subst e;exact nT h
theorem wx (T:Txt K mg t):GF P w K mg base CX 2 "check_rows" 1 yQ:=by
 refine⟨_,_,_,jY T.bT.F fW rfl fun bj A outer s H E G ds r hr hl hR=>?_,(T.g T.bT.a),T.bT.F.kp,T.bT.b⟩
 obtain⟨rows,rfl,ok,rfl⟩:=hR
 have qU:=wu (P:=P) (w:=w) (base:=base) T
 have Cc:=yT (P:=P) (w:=w) (base:=base) T
 have nd:=fW.nd
 have hp:=ok.pos
 have K9:=ok.le
 let cs:=rows.map (·.c)
 let lt:List Dt:=(cs.map sg).map Dt.str
 have e0:(decide ((((rows.map gY).length:Nat):Int)=0))=false:=by rw[Bn];exact decide_eq_false (by omega)
 have e1:(decide ((6:Int) < (((rows.map gY).length:Nat):Int)))=false:=by rw[Bn];exact decide_eq_false (by omega)
 have ef:((rows.filter fun _=>true).map fun r=>Dt.str (sg r.c))=lt:=by
   rw[Mi.mpr (fun _ _=>rfl)]
   show _=((rows.map (·.c)).map sg).map Dt.str
   rw[LB,LB];rfl
 have ez:(rows.map fun r=>Dt.str (sg r.c))=lt:=by
   show _=((rows.map (·.c)).map sg).map Dt.str
   rw[LB,LB];rfl
 have hsz:rows.length<=sizeLine:=tN (by omega)
 let S:Nat->List Slot:=fun _=>[.val (.lst (rows.map gY)),.val (.lst lt),.val (.lst lt),.bb,.bb,.bb]
 let xs:=rows.map gY
 have Ep:xs.length=rows.length:=Bn ..
 refine⟨.nx (S rows.length),.nx _,ah (bc (u:=false) (bN (du (qx T.bf (aa 0 rfl)) af) e0) (fun h=>nomatch h) (fun h=>a8))
   (ah (bc (u:=false) (bN (qz (qx T.bf (aa 0 rfl)) (jl (w:=.int 6) T.ow ⟨_,rfl⟩ fun _=>.int 6)) e1) (fun h=>nomatch h) (fun h=>a8))
   (ah (vj 1 rows gY (fun r=>Dt.str (sg r.c)) (fun r=>[.val (gY r)]) (fun _=>true) rfl nd (eI lK) (fb (aa 0 rfl)) (dF (eI lK) rfl) dE (fun a _=>fm) (.nil fun _ _=>rfl) (fun a ha _ C fp s' H' G'=>aA (aa 0 rfl) af rfl) hsz)
   ?r1))⟩
 rw[ef]
 refine pv 1 (w:=.lst lt) (ah (vj 2 rows (fun r=>Dt.str (sg r.c)) (fun r=>Dt.str (sg r.c)) (fun r=>[.val (.str (sg r.c))]) (fun _=>true) rfl nd (eI qT) (fb (aa 1 rfl)) (dF (eI qT) rfl) (cG dE ez) (fun a _=>fm)
   (.one fun a ha C fp s' H' G'=>gF (aN qU aZ hr (ae (aa 0 rfl) ai) ⟨a.c,rfl,ok.sm a ha,rfl⟩)) (fun a ha _ C fp s' H' G'=>aa 0 rfl) hsz) ?r2)
 rw[ef]
 refine pv 2 (w:=.lst lt) (aq (cF (o:=.nx (S rows.length)) (m:=rows.length) (Lp xs.length) (fun(j:Nat)=>.tup [.int j,xs.getD j .aW]) (fun(j:Nat) dl=>(dl.set 3 (.val (.int j))).set 4 (.val (xs.getD j .aW))) S rfl PassesOwn.leaving
   (yr rfl T.dm (ae (aa 0 rfl) ai)) (sv (xs:=xs)) (jH rfl (bL (aU nd rfl (.inl rfl)) (bL (aU nd rfl (.inl rfl)) gq))) (fun a _=>jo) (Le.of ⟨rfl,rfl,rfl,trivial⟩) (by rw[Lo,Ep];exact G1 _) (fun j a hj ha=>?l) (by rw[Lo,Ep];exact .all rfl)))
 rw[LH (by omega)] at ha
 cases ha
 have ex:xs.getD j .aW=gY rows[j]:=by
   show(rows.map gY).getD j .aW=_
   rw[E2,J7,fe hj];rfl
 have hm:=LI hj
 have Ee:cs.length=rows.length:=Bn ..
 have eT:lt.take j=((cs.take j).map sg).map Dt.str:=by
   show((cs.map sg).map Dt.str).take j=_
   rw[<- List.map_take,<- List.map_take]
 have bM:lt.length=rows.length:=by show((cs.map sg).map Dt.str).length=_;rw[Bn,Bn,Ee]
 have Hh:sg rows[j].c ∉ (cs.take j).map sg:=by
   intro z
   have z:=wt.mp z
   obtain⟨i,hi,e⟩:=Mb.mp z
   rw[LC] at hi
   rw[Mo] at e
   have h:=L7.mp ok.nd i j (by rw[Bn];omega) (by rw[Bn];exact hj) (by omega)
   exact h (e.trans (Md (f:=Row.c) (l:=rows) (i:=j) (h:=by rw[Bn];exact hj)).symm)
 have en:(!decide (sg rows[j].c∈(cs.take j).map sg))=true:=by rw[decide_eq_false Hh];rfl
 have v4:∀ {X:Cx} {G:Gr} {dl:List Slot} {e:Expr},EE X G dl e (xs.getD j .aW)->EE X G dl e (.tup [.str (sg rows[j].c),.str rows[j].d,.str (tx rows[j].w)]):=fun h=>by rw[ex] at h;exact h
 refine .nx (ah (ax 5 nd (mm (u:=true) (v:=true) (aN qU aZ hr (ae (aA (v4 (aa 4 rfl)) af rfl) ai) ⟨_,rfl,ok.sm _ hm,rfl⟩) fun _=>(jj (aI (yt (xs:=(cs.take j).map sg) (aA (v4 (aa 4 rfl)) af rfl) (iH eT (yU (aa 1 rfl) (aa 3 rfl) (by rw[bM];exact My hj)))) (congrArg Dt.bl en)))))
   (aq (bc (u:=false) (fZ (u:=true) (kP (ig (u:=true) (v:=true) (gF (aa 5 rfl)) fun _=>(ig (u:=true) (v:=true) (bN (BB (xs:=lJ) (aA (v4 (aa 4 rfl)) af rfl) (jl (w:=.ref t.ei) T.yN rfl T.yO)) (decide_eq_true (ok.dd _ hm))) fun _=>(ml (gF (aN Cc aZ hr (ae (aA (v4 (aa 4 rfl)) af rfl) (ae (aa 2 rfl) ai)) ⟨rows[j].w,cs,rfl,ok.wp _ hm,ok.wo _ hm,fun x hx=>?_,rfl⟩))))))) (fun h=>nomatch h) (fun h=>a8)))) (Le.of ⟨rfl,rfl,rfl,trivial⟩)
 obtain⟨r,Ki,rfl⟩:=LK.mp hx
 exact ok.sm r Ki
def wz (t:oq):Rl:=fun ds r=>∃ six,ds=[.int (wy six)]/\r=.ret (.kN (.obj (t.pc six) []))
def yV (t:oq):Rl:=fun ds r=>∃ six rows,ds=[.int (wy six),.lst (rows.map gY)]/\aH rows/\r=.own (.obj t.aE [("drawer",.kN (.obj (t.pc six) [])),("row_by_letter",.bK (mZ rows))])
noncomputable def rr (r:Row):Str×List Dt:=(sg r.c,[.str r.d,.str (tx r.w)])
theorem qV (rows:List Row):rows.map gY=(rows.map rr).map j9:=by rw[LB];rfl
theorem Cd (rows:List Row):mZ rows=fV (rows.map rr):=by unfold fV mZ;rw[LB];rfl
theorem Er {rows:List Row}(nd:(rows.map (·.c)).Nodup):((rows.map rr).map (·.1)).Nodup:=by
 have e:(rows.map rr).map (·.1)=(rows.map (·.c)).map sg:=by rw[LB,LB];rfl
 rw[e]
 exact List.Pairwise.map sg (fun a b h z=>h (eZ z)) nd
theorem sQ (T:Txt K mg t):GF P w K mg base CX 1 "pen_of" 1 (wz t):=by
 refine⟨_,_,_,jY T.dS.F sL rfl fun bj A outer s H E G ds r hr hl hR=>?_,(T.g T.dS.a),T.dS.F.kp,T.dS.b⟩
 obtain⟨six,rfl,rfl⟩:=hR
 cases six with
 | false=>exact⟨_,.rt _,d5 (bc (du (aa 0 rfl) af) (fun h=>aq (aY (og T.gf (T.g T.iC.a)))) (fun h=>absurd h (by decide)))⟩
 | true=>exact⟨_,.rt _,ah (bc (du (aa 0 rfl) af) (fun h=>absurd h (by decide)) (fun h=>a8)) (d5 (bc (du (aa 0 rfl) af) (fun h=>aq (aY (og T.ku (T.g T.mX.a)))) (fun h=>absurd h (by decide))))⟩
theorem wA (T:Txt K mg t):HX P w K mg base CX 3 "Rules" t.aE 3 (yV t):=by
 refine⟨_,_,_,Jx T.c5.F fX rfl fun bj A outer s H E G z ds r hr hl hR=>?_,T.ky,(T.g T.bR.a),T.c5.b⟩
 obtain⟨six,rows,rfl,ok,rfl⟩:=hR
 have Es:=sQ (P:=P) (w:=w) (base:=base) T
 have yW:=wx (P:=P) (w:=w) (base:=base) T
 have nd:=fX.nd
 have hu:(A.deeper (envOfC "Rules.__init__" (ag cU) s.heap.objs.size t.bA bj)).units+1 < cLine:=by have:=hr.units;omega
 rw[Cd,qV]
 refine⟨_,.nx ?fin,ah (ax 3 nd (aN Es aZ hr (ae (aa 1 rfl) ai) ⟨six,rfl,rfl⟩))
   (ah (qu (aN yW aZ hr (ae (aa 2 rfl) ai) ⟨rows,by rw[qV],ok,rfl⟩))
   (ah (By (aa 3 rfl) T.bR.cl T.cQ)
   (vw 2 4 (C:=t.aE) (rows:=rows.map rr) (dlu:=[.bb,.val (.int (wy six)),.val (.lst ((rows.map rr).map j9)),.val (.kN (.obj (t.pc six) [])),.bb]) hu nd rfl PassesOwn.leaving T.bR.cl T.ay rfl rfl rfl rfl (by decide) (by decide) rfl (Er ok.nd) (by rw[Bn];exact Nat.lt_of_le_of_lt ok.le (by decide))
     (fun r=>aA (aa 4 rfl) af (jg (j:=0) rfl)) (fun r=>yy T.jy (aa 4 rfl)))))⟩
 rfl
open PySem.Builtin.Str in
theorem fJ (x:Str){a b:Nat}(Ft:a<=b)(hb:b<=x.length){l u:Option Int}(h:strSliceIndices l u 1 x.length=strSliceIndices (some (a:Int)) (some (b:Int)) 1 x.length):Txt.slice x l u=⟨((x.cps.toList.drop a).take (b - a)).toArray⟩:=by
 unfold Txt.slice
 rw[h,PySem.StrLaws.sliced_plain x Ft hb]
 split
 . rename_i q
   rw[PySem.StrLaws.strSliceIndices_plain Ft hb,Bn,Lo] at q
   have q:b - a=x.length:=by simpa using q
   have ea:a=0:=by omega
   have eb:b=x.length:=by omega
   subst ea eb
   rw[MA,Nat.sub_zero]
   have:x.cps.toList.take x.length=x.cps.toList:=L5 (by simp[Str.length])
   rw[this]
 . rfl
open PySem.Builtin.Str in
theorem wB (L:List Nat){k:Nat}(h:k<=L.length):Txt.slice (tx L) none (some (k:Int))=tx (L.take k):=by
 rw[fJ (tx L) (a:=0) (b:=k) (LD _) (by rw[br];exact h)]
 . show(⟨(((L.toArray.toList).drop 0).take (k - 0)).toArray⟩:Str)=_
   simp[tx]
 . simp[strSliceIndices]
   have e:max (0:Int) (min 0 ((tx L).length:Int))=0:=by omega
   rw[e]
open PySem.Builtin.Str in
theorem pT (L:List Nat){k:Nat}(h:k<=L.length):Txt.slice (tx L) (some (k:Int)) none=tx (L.drop k):=by
 rw[fJ (tx L) (a:=k) (b:=(tx L).length) (by rw[br];exact h) (G1 _)]
 . show(⟨(((L.toArray.toList).drop k).take ((tx L).length - k)).toArray⟩:Str)=_
   rw[br,List.toList_toArray,L5 (by rw[La];exact G1 _)]
   rfl
 . simp[strSliceIndices]
   have e:max (0:Int) (min (if ((tx L).length:Int) < 0 then ((tx L).length:Int)+(tx L).length else (tx L).length) ((tx L).length:Int))=(tx L).length:=by
     rw[if_neg (by omega)];omega
   rw[e]
theorem Ce (a b:List Nat):tx a ++ tx b=tx (a ++ b):=by
 show(⟨a.toArray ++ b.toArray⟩:Str)=⟨(a ++ b).toArray⟩
 simp
theorem Et (L:List Nat){k:Nat}(h:k < L.length):jf (tx L).cps.toList (k:Int)=some (L.getD k 0):=by
 show jf L.toArray.toList (k:Int)=_
 rw[List.toList_toArray]
 refine jg ?_
 rw[E2,fe h];rfl
section
variable {X:Cx}{G:Gr}{dl:List Slot}{a b:Expr}{L M:List Nat}{k:Nat}{pos p p2:Pos}
theorem jz (ha:EE X G dl a (.str (tx L)))(hb:EE X G dl b (.str (tx M)))(h:L.length+M.length<=2000):EE X G dl (.BinOp a .Add b pos) (.str (tx (L ++ M))):=
 aI (Bc ha hb (by rw[br,br];exact tN h)) (by rw[Ce])
theorem eu (ha:EE X G dl a (.str (tx L)))(hb:EE X G dl b (.int (k:Int)))(h:k < L.length)(hl:L.length<=2000)(hs:fg b:=by intro _ _;rfl):EE X G dl (.Subscript a b pos) (.str (tx [L.getD k 0])):=
 Bh ha hb (Et L h) (by rw[br];exact tN hl) hs
theorem qW (ha:EE X G dl a (.str (tx L)))(hb:EE X G dl b (.int (k:Int)))(h:k<=L.length)(hl:L.length<=2000):EE X G dl (.Subscript a (.Slice none (some b) none p2) pos) (.str (tx (L.take k))):=
 aI (mI ha pG (gK hb) (by rw[br];exact tN hl)) (by rw[wB L h])
theorem dc (ha:EE X G dl a (.str (tx L)))(hb:EE X G dl b (.int (k:Int)))(h:k<=L.length)(hl:L.length<=2000):EE X G dl (.Subscript a (.Slice (some b) none none p2) pos) (.str (tx (L.drop k))):=
 aI (mI ha (gK hb) pG (by rw[br];exact tN hl)) (by rw[pT L h])
theorem aJ (hm:X.mg "len"=none)(ha:EE X G dl a (.str (tx L)))(hl:L.length<=2000)(hg:Gl X "len":=by rfl)(he:starEach [a] X.env=[(false,eval a X.env)]:=by rfl):EE X G dl (.Call (.Name "len" p) [a] [] pos) (.int (L.length:Nat)):=
 aI (mq hm ha (by rw[br];exact tN hl) hg he) (by rw[br])
end
theorem qX:∀ (Ls:List (List Nat)) (a:List Nat),(Ls.map tx).foldl (fun acc p=>acc ++ (("":Str).cps) ++ p.cps) a.toArray=(a ++ Ls.flatten).toArray
 | [],a=>by simp
 | l::r,a=>by
   have e:a.toArray ++ ("":Str).cps ++ (tx l).cps=(a ++ l).toArray:=by
     show a.toArray ++ (#[]:Array Nat) ++ l.toArray=_
     simp
   rw[Lv,Mw,e,qX r,LN,List.append_assoc]
theorem yX (Ls:List (List Nat)):Txt.join "" (Ls.map tx)=tx Ls.flatten:=by
 cases Ls with
 | nil=>rfl
 | cons l r=>
   show(⟨(r.map tx).foldl (fun acc p=>acc ++ (("":Str).cps) ++ p.cps) l.toArray⟩:Str)=_
   rw[qX,LN];rfl
theorem lL {X:Cx}{G:Gr}{dl:List Slot}{a e:Expr}{apos bo:Pos}{Ls:List (List Nat)}(ha:EE X G dl a (.str ""))(he:EE X G dl e (.lst ((Ls.map tx).map .str)))(hw:Ls.flatten.length+Ls.length<=100000)(jN:attributeBase a "join" X.env (eval a X.env)=eval a X.env:=by rfl)
   (o9:((backTo bo (starEach [e] X.env)).all (fun x=>!x.1) && (backToKw bo (keywordEach [] X.env)).all (fun x=>x.1.isSome) && decide ([e].length+([]:List Keyword).length+(if ([]:List Keyword).isEmpty then 0 else 1) < 30))=true:=by rfl)
   (jO:(apos.endLine == bo.line)=true:=by rfl) (nB:starEach [e] X.env=(false,eval e X.env)::starEach [] X.env:=by rfl):EE X G dl (.Call (.Attribute a "join" apos) [e] [] bo) (.str (tx Ls.flatten)):=by
 have e1:((Ls.map tx).map (·.length)).sum=Ls.flatten.length:=by
   rw[List.length_flatten,LB]
   congr 1
 exact aI (yv ha he (joinOk_of_weight (by rw[e1,Bn];omega) (by decide)) jN o9 jO nB) (by rw[yX])
theorem oA:∀ rows:List Row,(rows.map fun r=>[r.c]).flatten=rows.map (·.c)
 | []=>rfl
 | a::r=>by rw[Lv,LN,oA r];rfl
noncomputable def oq.wC (t:oq)(six:Bool)(rows:List Row):List (Str×Dt):=[("drawer",.kN (.obj (t.pc six) [])),("row_by_letter",.bK (mZ rows))]
noncomputable def m3 (rows:List Row)(x:Nat):Str:=((rows.find? fun r=>decide (r.c=x)).map (·.d)).getD ""
noncomputable def wordOf (rows:List Row)(x:Nat):List Nat:=((rows.find? fun r=>decide (r.c=x)).map (·.w)).getD []
theorem bt {rows:List Row}{x:Nat}(h:x∈rows.map (·.c)):∃ r∈rows,r.c=x/\m3 rows x=r.d/\wordOf rows x=r.w:=by
 obtain⟨q,hq,e⟩:=LK.mp h
 cases f:rows.find? (fun r=>decide (r.c=x)) with
 | none=>exact absurd (decide_eq_true e) (by simpa using List.find?_eq_none.mp f q hq)
 | some r=>
   refine⟨r,List.mem_of_find?_eq_some f,of_decide_eq_true (List.find?_some (p:=fun r:Row=>decide (r.c=x)) f),?_,?_⟩
   . unfold m3;rw[f];rfl
   . unfold wordOf;rw[f];rfl
def pU (t:oq):Rl:=fun ds r=>∃ six rows,ds=[t.pR six rows]/\aH rows/\r=.ret (.str (tx (rows.map (·.c))))
def wD (t:oq):Rl:=fun ds r=>∃ six rows q,ds=[t.pR six rows,.str (sg q.c)]/\aH rows/\q∈rows/\r=.ret (gY q)
def yY (t:oq):Rl:=fun ds r=>∃ six rows x,ds=[t.pR six rows,.str (sg x)]/\aH rows/\x∈rows.map (·.c)/\r=.ret (.str (tx (wordOf rows x)))
theorem sR (T:Txt K mg t):MF P w K mg base CX 1 t.aE "row_of" 2 (wD t):=by
 refine⟨T.bR.cl,_,_,_,jY T.cw.F i5 rfl fun bj A outer s H E G ds r hr hl hR=>?_,T.bF,T.cw.b⟩
 obtain⟨six,rows,q,rfl,ok,hq,rfl⟩:=hR
 have hu:(A.deeper (envOfC "Rules.row_of" (ag cn) s.heap.objs.size t.ba bj)).units+1 < cLine:=by have:=hr.units;omega
 have hv:=iG ok.nd hq
 exact⟨_,.rt _,ah (bc (u:=false) (bN (qF hu (aa 1 rfl) (mn (fs:=t.wC six rows) (aa 0 rfl) T.bR.cl T.ay rfl)) (by rw[hv];rfl)) (fun h=>nomatch h) (fun h=>a8))
   (aq (aY (yx hu (mn (fs:=t.wC six rows) (aa 0 rfl) T.bR.cl T.ay rfl) (aa 1 rfl) hv (fun _ _=>rfl))))⟩
theorem oB (T:Txt K mg t):MF P w K mg base CX 2 t.aE "word" 2 (yY t):=by
 refine⟨T.bR.cl,_,_,_,jY T.c6.F kR rfl fun bj A outer s H E G ds r hr hl hR=>?_,T.bV,T.c6.b⟩
 obtain⟨six,rows,x,rfl,ok,hx,rfl⟩:=hR
 obtain⟨q,hq,rfl,e1,e2⟩:=bt hx
 have m:=sR (P:=P) (w:=w) (base:=base) T
 rw[e2]
 exact⟨_,.rt _,aq (aY (aA (qA (fs:=t.wC six rows) (aa 0 rfl) m aZ hr (ae (aa 1 rfl) ai) ⟨six,rows,q,rfl,ok,hq,rfl⟩) af rfl))⟩
theorem iT (T:Txt K mg t):MF P w K mg base CX 1 t.aE "letters" 1 (pU t):=by
 refine⟨T.bR.cl,_,_,_,jY T.b6.F iB rfl fun bj A outer s H E G ds r hr hl hR=>?_,T.bC,T.b6.b⟩
 obtain⟨six,rows,rfl,ok,rfl⟩:=hR
 have h6:=ok.le
 have el:((mZ rows).map fun kd=>kD kd.1)=((rows.map fun r=>[r.c]).map tx).map Dt.str:=by
   unfold mZ
   rw[LB,LB,LB];rfl
 have ef:(rows.map fun r=>[r.c]).flatten=rows.map (·.c):=oA rows
 refine⟨_,.rt _,aq (aY (aI (lL (Ls:=rows.map fun r=>[r.c]) cj (iH el (vz T.pQ rfl (mn (fs:=t.wC six rows) (aa 0 rfl) T.bR.cl T.ay rfl))) (by rw[ef,Bn,Bn];omega)) (by rw[ef])))⟩
def lM (t:oq):Rl:=fun ds r=>∃ (six:Bool) (rows:List Row) (w:List Nat) (m:Nat),ds=[t.pR six rows,.str (tx w),.int (m:Nat)]/\aH rows/\(∀ x∈w,x∈rows.map (·.c))/\(0 < w.length/\w.length<=m/\m<=1000)/\r=.ret (.str (tx w))
theorem fK (w:List Nat):w.map (fun x=>Dt.str (sg x))=Sg.signs (tx w):=by rw[kA,LB];rfl
theorem fL {rows:List Row}(ok:aH rows){w:List Nat}(h:∀ x∈w,x∈rows.map (·.c)):cB (tx w)=true:=gZ fun x hx=>by
 obtain⟨r,hr,rfl⟩:=LK.mp (h x hx)
 have:=ok.sm r hr
 unfold small at this;omega
theorem pV (T:Txt K mg t):df P w K mg base CX 1 t.aC t.bZ ["self","text","most"] (uR K 3 (lM t)):=by
 refine Jv T.i9 dN rfl fun bj A outer s H E G ds r hr hl hR=>?_
 obtain⟨six,rows,wd,m,rfl,ok,hw,⟨h0,hm,Hi⟩,rfl⟩:=hR
 have nd:=dN.nd
 have hu:(A.deeper (envOfC "Rules.word_of" (ag aB) s.heap.objs.size t.aC bj)).units+1 < cLine:=by have:=hr.units;omega
 have ne:¬ tx wd=("":Str):=fun z=>by
   have:=congrArg Str.length z
   rw[br] at this
   have e:("":Str).length=0:=rfl
   omega
 let xs:=Sg.signs (tx wd)
 have Ep:xs.length=wd.length:=by show(Sg.signs (tx wd)).length=_;rw[c7,br]
 let S:Nat->List Slot:=fun _=>[.val (t.pR six rows),.val (.str (tx wd)),.val (.int (m:Nat)),.bb,.bb]
 refine⟨_,.rt _,ah (bc (u:=false) (bN (uX (aa 1 rfl) cj) (decide_eq_false ne)) (fun h=>nomatch h) (fun h=>a8))
   (ah (cF (o:=.nx (S wd.length)) (m:=wd.length) (Lp xs.length) (fun(j:Nat)=>.tup [.int j,xs.getD j .aW]) (fun(j:Nat) dl=>(dl.set 3 (.val (.int j))).set 4 (.val (xs.getD j .aW))) S rfl PassesOwn.leaving
     (vB rfl T.dm (ae (aa 1 rfl) ai)) (pK (fL ok hw)) (jH rfl (bL (aU nd rfl (.inl rfl)) (bL (aU nd rfl (.inl rfl)) gq))) (fun a _=>jo) (Le.of ⟨rfl,rfl,rfl,trivial⟩) (by rw[Lo,Ep];exact G1 _) (fun j a hj ha=>?_) (by rw[Lo,Ep];exact .all rfl))
   (aq (aY (aa 1 rfl))))⟩
 rw[LH (by omega)] at ha
 cases ha
 have ex:xs.getD j .aW=.str (sg wd[j]):=by
   show(Sg.signs (tx wd)).getD j .aW=_
   rw[<- fK,E2,J7,fe hj];rfl
 have v4:∀ {X:Cx} {G:Gr} {dl:List Slot} {e:Expr},EE X G dl e (xs.getD j .aW)->EE X G dl e (.str (sg wd[j])):=fun h=>by rw[ex] at h;exact h
 obtain⟨q,hq,hc,_,_⟩:=bt (hw _ (LI hj))
 have hv:=iG ok.nd hq
 rw[hc] at hv
 exact .nx (aq (bc (u:=false) (kP (iP (u:=false) (v:=false) (bN (DG (aa 3 rfl) (aa 2 rfl)) (decide_eq_false (by omega))) fun _=>(ib (bN (qF hu (v4 (aa 4 rfl)) (mn (fs:=t.wC six rows) (aa 0 rfl) T.bR.cl T.ay rfl)) (by rw[hv];rfl))))) (fun h=>nomatch h) (fun h=>a8))) (Le.of ⟨rfl,rfl,rfl,trivial⟩)
theorem pW (T:Txt K mg t):HY P w K mg base CX 1 t.aE "word_of" 3 [] (lM t):=⟨T.bR.cl,_,_,_,[],[],pV T,T.bD,T.ja,.nil,fun _=>.nil⟩
noncomputable def MM:Int:=2305843009213693951
noncomputable def cellAt (ns:List Int)(k:Nat):Int:=ns.getD k 0 % 10 ^ 60 / MM * MM+(ns.getD k 0+7919 * ((k:Int)+1)) * 6364136223846793005 % MM
def Eu:Rl:=fun ds r=>∃ ns:List Int,ns.length<=63/\ds=[.fQ ns]/\r=.ret (.bl true)
def wF (K:W.Frag):Sp:=uR K 1 Eu
theorem Cf {K:W.Frag}{H:Hp}{a:Addr}{ns:List Int}(hl:ns.length<=63)(hS:eF K H a (ns.map V.int)):wF K [.ref a] H (fun v _=>v=.bl true) fun _ _ _=>False:=
 ⟨H,[.fQ ns],.ret (.bl true),aw.refl H,.cons (.fQ hS) .nil,rfl,⟨ns,hl,rfl,rfl⟩,fun v ar H' g r=>by cases r;rfl⟩
def sS:Rl:=fun ds r=>∃ (ns:List Int) (k:Nat),ds=[.fQ ns,.int k]/\k<=100/\r=.ret (.int (cellAt ns k))
def yZ:Rl:=fun ds r=>∃ z,ds=[.int z]/\r=.ret (.bl true)
theorem wG (ns:List Int)(k:Nat)(h:k < ns.length):jf ns (k:Int)=some (ns.getD k 0):=by
 refine jg ?_
 rw[E2,fe h];rfl
theorem eA (T:Txt K mg t):GF P w K mg base CX 1 "_law_cell_at" 2 sS:=by
 refine⟨_,_,_,jY T.c8.F d9 rfl fun bj A outer s H E G ds r hr hl hR=>?_,(T.g T.c8.a),T.c8.F.kp,T.c8.b⟩
 obtain⟨ns,k,rfl,hk,rfl⟩:=hR
 refine⟨_,.rt _,ah (ax 2 d9.nd af) (ah (dl1:=[.val (.fQ ns),.val (.int k),.val (.int (ns.getD k 0)),.bb]) (bc (uV (aa 1 rfl) (qy T.bf (aa 0 rfl))) (fun h=>?_) (fun h=>?_))
   (ah (ax 3 d9.nd (b8 (mj (b7 (aa 2 rfl) (mj af (b7 (aa 1 rfl) af) (rQ.ok (LV ⟨by decide,by decide⟩)))) af (rQ.ok (LJ ⟨by decide,by decide⟩))) af (by decide)))
 (aq (aY (b7 (mj (ck (b8 (aa 2 rfl) (Ba af af ⟨by decide,by decide,by decide⟩) (by decide)) af ⟨by decide,by decide +kernel⟩) af (rQ.ok (LJ ⟨by decide,by decide⟩))) (aa 3 rfl))))))⟩
 . have h:=of_decide_eq_true h
   exact aq (ax 2 d9.nd (Bg (aa 0 rfl) (aa 1 rfl) (wG ns k (by omega))))
 . have h:=of_decide_eq_false h
   have e:ns.getD k 0=0:=by rw[E2,LL (by omega)];rfl
   rw[e]
   exact a8
theorem wH (T:Txt K mg t):GF P w K mg base CX 1 "_law_whole" 1 yZ:=by
 refine⟨_,_,_,jY T.fE.F v3 rfl fun bj A outer s H E G ds r hr hl hR=>?_,(T.g T.fE.a),T.fE.F.kp,T.fE.b⟩
 obtain⟨z,rfl,rfl⟩:=hR
 exact⟨_,.rt _,(aq (aY (mm (u:=true) (v:=true) (mv T.bU (aa 0 rfl) (qw T.v8 Sg.boot_int) rfl trivial rfl) fun _=>(jj (Be (u:=false) (mv T.bU (aa 0 rfl) (qw T.pP Sg.boot_bool) rfl trivial rfl))))))⟩
noncomputable def Hj:List Nat:=(Lp 26).map (97 + ·)
structure LS where
 left:List Nat
 rest:Int
 out:List Nat
noncomputable def ls (c:Int):Nat->LS
 | 0=>⟨Hj,c * 48271 % 308915776,[]⟩
 | k+1=>let s:=ls c k;let at_:=(s.rest % (s.left.length:Nat)).toNat;⟨s.left.take at_ ++ s.left.drop (at_+1),s.rest / 26,s.out ++ [s.left.getD at_ 0]⟩
noncomputable def fM (s:LS):Nat:=(s.rest % (s.left.length:Nat)).toNat
structure Kj (k:Nat)(s:LS):Prop where
 len:s.left.length+k=26
 ol:s.out.length=k
 sm:∀ x∈s.left,small x
 so:∀ x∈s.out,small x
 nl:s.left.Nodup
 no:s.out.Nodup
 ap:∀ x∈s.out,x ∉ s.left
theorem wI {s:LS}(h:0 < s.left.length):fM s < s.left.length:=by
 have h0:=LM s.rest (show((s.left.length:Nat):Int)≠0 by omega)
 have h1:=LG s.rest (show(0:Int) < (s.left.length:Nat) by omega)
 unfold fM
 omega
theorem wJ (c:Int):∀ k,k<=6->Kj k (ls c k)
 | 0,_=>⟨show Hj.length+0=26 by decide,rfl,fun x hx=>by
     obtain⟨i,hi,rfl⟩:=LK.mp (show x∈(Lp 26).map (97 + ·) from hx)
     have:=LU.mp hi
     unfold small;omega,fun x h=>absurd h (Mr),show Hj.Nodup by decide,List.nodup_nil,fun x h=>absurd h (Mr)⟩
 | k+1,hk=>by
   have ih:=wJ c k (by omega)
   have hl:=ih.len
   have bM:fM (ls c k) < (ls c k).left.length:=wI (by omega)
   generalize hs:ls c k=s at ih hl bM
   have e:ls c (k+1)=⟨s.left.take (fM s) ++ s.left.drop (fM s+1),s.rest / 26,s.out ++ [s.left.getD (fM s) 0]⟩:=by rw[<- hs];rfl
   rw[e]
   have eg:s.left.getD (fM s) 0=s.left[fM s]:=by rw[E2,fe bM];rfl
   have sub:s.left.take (fM s) ++ s.left.drop (fM s+1)=s.left.eraseIdx (fM s):=(List.eraseIdx_eq_take_drop_succ _ _).symm
   have mem:∀ x∈s.left.take (fM s) ++ s.left.drop (fM s+1),x∈s.left:=fun x hx=>by
     rcases Me.mp hx with h | h
     . exact MI h
     . exact Mq h
   have Cg:s.left[fM s]∈s.left:=LI bM
   have Kk:s.left[fM s] ∉ s.left.take (fM s) ++ s.left.drop (fM s+1):=by
     have pw:=L7.mp ih.nl
     intro h
     rcases Me.mp h with h | h
     . obtain⟨i,hi,e⟩:=Mb.mp h
       rw[LC] at hi
       rw[Mo] at e
       exact pw i (fM s) (by omega) bM (by omega) e
     . obtain⟨i,hi,e⟩:=Mb.mp h
       rw[La] at hi
       rw[List.getElem_drop] at e
       exact pw (fM s) (fM s+1+i) bM (by omega) (by omega) e.symm
   refine⟨?_,?_,fun x hx=>ih.sm x (mem x hx),fun x hx=>?_,?_,?_,fun x hx=>?_⟩
   . show(s.left.take (fM s) ++ s.left.drop (fM s+1)).length+(k+1)=26
     rw[Lz,LC,La];omega
   . show(s.out ++ [s.left.getD (fM s) 0]).length=k+1
     rw[Lz,ih.ol];rfl
   . rcases Me.mp hx with h | h
     . exact ih.so x h
     . have:x=s.left[fM s]:=by rw[<- eg];simpa using h
       rw[this];exact ih.sm _ Cg
   . show(s.left.take (fM s) ++ s.left.drop (fM s+1)).Nodup
     rw[sub]
     exact List.Nodup.sublist (List.eraseIdx_sublist _ _) ih.nl
   . show(s.out ++ [s.left.getD (fM s) 0]).Nodup
     rw[eg]
     refine List.nodup_append.mpr ⟨ih.no,by simp,fun a ha b hb z=>?_⟩
     have:b=s.left[fM s]:=by simpa using hb
     subst z this
     exact ih.ap _ ha Cg
   . rcases Me.mp hx with h | h
     . exact fun z=>ih.ap x h (mem x z)
     . have:x=s.left[fM s]:=by rw[<- eg];simpa using h
       rw[this];exact Kk
noncomputable def kB (c:Int)(n:Nat):List Nat:=(ls c n).out
def pX:Rl:=fun ds r=>∃ (c:Int) (n:Nat),ds=[.int c,.int (n:Nat)]/\n<=6/\r=.ret (.str (tx (kB c n)))
noncomputable def pY (L:List Nat)(c:Int):Nat->Int×List Nat
 | 0=>(c,[])
 | k+1=>let s:=pY L c k;(s.1 / (L.length:Nat),s.2 ++ [L.getD (s.1 % (L.length:Nat)).toNat 0])
noncomputable def cT (L:List Nat)(c:Int)(n:Nat):List Nat:=(pY L c n).2
theorem m4 (L:List Nat)(c:Int):∀ k,(pY L c k).2.length=k
 | 0=>rfl
 | k+1=>by show((pY L c k).2 ++ [_]).length=_;rw[Lz,m4 L c k];rfl
theorem qY (L:List Nat)(hL:0 < L.length)(c:Int):∀ k,∀ x∈(pY L c k).2,x∈L
 | 0,x,h=>by cases h
 | k+1,x,h=>by
   rcases Me.mp h with h | h
   . exact qY L hL c k x h
   . have h0:=LM (pY L c k).1 (show((L.length:Nat):Int)≠0 by omega)
     have h1:=LG (pY L c k).1 (show(0:Int) < (L.length:Nat) by omega)
     have bM:((pY L c k).1 % (L.length:Nat)).toNat < L.length:=by omega
     have:x=L.getD ((pY L c k).1 % (L.length:Nat)).toNat 0:=by simpa using h
     rw[this,E2,fe bM]
     exact LI bM
def za:Rl:=fun ds r=>∃ (L:List Nat) (c:Int) (n:Nat),ds=[.str (tx L),.int c,.int (n:Nat)]/\(0 < L.length/\L.length<=100)/\n<=1000/\r=.ret (.str (tx (cT L c n)))
noncomputable def Fu (c:Int):Str:=lJ.getD (c % 5).toNat ""
theorem zb (c:Int):Fu c∈lJ:=by
 have h0:=LM c (show(5:Int)≠0 by decide)
 have h1:=LG c (show(0:Int) < 5 by decide)
 have hk:(c % 5).toNat < lJ.length:=by show _ < 5;omega
 unfold Fu
 rw[E2,fe hk]
 exact LI hk
theorem at_getD {L:List Str}{i:Int}{n:Nat}(hn:L.length=n)(h0:0<=i)(h1:i < n):jf (L.map Dt.str) i=some (.str (L.getD i.toNat "")):=by
 have e:i=((i.toNat:Nat):Int):=by omega
 rw[e]
 have hk:i.toNat < L.length:=by omega
 refine(jg (j:=i.toNat) ?_).trans rfl
 rw[J7,fe hk,E2]
 show some (Dt.str L[i.toNat])=some (Dt.str ((L[(i.toNat:Int).toNat]?).getD ""))
 rw[Mf,fe hk];rfl
noncomputable def rowAt (L:List Nat)(ns:List Int)(m:Int)(k:Nat):Row:=⟨L.getD k 0,Fu (cellAt ns k),cT L (cellAt ns k / 5 / m) (1+cellAt ns k / 5 % m).toNat⟩
noncomputable def rowsOf (L:List Nat)(ns:List Int)(m:Int):List Row:=(Lp L.length).map (rowAt L ns m)
theorem wK (L:List Nat)(ns:List Int)(m:Int):(rowsOf L ns m).map (·.c)=L:=by
 unfold rowsOf
 rw[LB]
 refine List.ext_getElem (by simp) fun i h1 h2=>?_
 simp only[Md,List.getElem_range,Function.comp]
 show L.getD i 0=L[i]
 rw[E2,fe h2];rfl
theorem wL (c:Int){n:Nat}(h0:0 < n)(h6:n<=6):(kB c n).length=n/\(kB c n).Nodup/\∀ x∈kB c n,small x:=by
 have ok:=wJ c n h6
 exact⟨ok.ol,ok.no,ok.so⟩
theorem cx {L:List Nat}(hL:0 < L.length)(c:Int)(n:Nat):(cT L c n).length=n/\∀ x∈cT L c n,x∈L:=⟨m4 L c n,qY L hL c n⟩
theorem zc {L:List Nat}(ns:List Int){m:Int}(hm:0 < m)(Fv:m<=8)(h0:0 < L.length)(h6:L.length<=6)(nd:L.Nodup)(sm:∀ x∈L,small x):aH (rowsOf L ns m):=by
 have hl:(rowsOf L ns m).length=L.length:=by unfold rowsOf;rw[Bn,Lo]
 have get:∀ r∈rowsOf L ns m,∃ k,k < L.length/\r=rowAt L ns m k:=fun r hr=>by
   obtain⟨k,hk,e⟩:=LK.mp hr
   exact⟨k,LU.mp hk,e.symm⟩
 refine⟨by omega,by omega,by rw[wK];exact nd,fun r hr=>?_,fun r hr=>?_,fun r hr=>?_,fun r hr x hx=>?_⟩
 . obtain⟨k,hk,rfl⟩:=get r hr
   refine sm _ ?_
   show L.getD k 0∈L
   rw[E2,fe hk]
   exact LI hk
 . obtain⟨k,hk,rfl⟩:=get r hr
   exact zb _
 . obtain⟨k,hk,rfl⟩:=get r hr
   have h1:=LM (cellAt ns k / 5) (show m≠0 by omega)
   have h2:=LG (cellAt ns k / 5) hm
   have:=(cx h0 (cellAt ns k / 5 / m) (1+cellAt ns k / 5 % m).toNat).1
   show 0 < (cT L (cellAt ns k / 5 / m) (1+cellAt ns k / 5 % m).toNat).length/\(cT L (cellAt ns k / 5 / m) (1+cellAt ns k / 5 % m).toNat).length<=8
   omega
 . obtain⟨k,hk,rfl⟩:=get r hr
   rw[wK]
   exact(cx h0 _ _).2 x hx
def zd:Rl:=fun ds r=>∃ (L:List Nat) (ns:List Int) (m:Int),ds=[.str (tx L),.fQ ns,.int m]/\(0 < L.length/\L.length<=6)/\(0 < m/\m<=8)/\r=.own (.lst ((rowsOf L ns m).map gY))
theorem pZ (T:Txt K mg t):GF P w K mg base CX 1 "_law_letters" 2 pX:=by
 refine⟨_,_,_,jY T.c9.F kl rfl fun bj A outer s H E G ds r hr hl hR=>?_,(T.g T.c9.a),T.c9.F.kp,T.c9.b⟩
 obtain⟨c,n,rfl,hn,rfl⟩:=hR
 have nd:=kl.nd
 let S:Nat->List Slot:=fun k=>[.val (.int c),.val (.int (n:Nat)),.val (.str (tx (ls c k).left)),.val (.int (ls c k).rest),.val (.str (tx (ls c k).out)),.bb,.bb]
 refine⟨_,.rt _,ah (ax 2 nd cj) (ah (ax 3 nd (b8 (mj (aa 0 rfl) af (rQ.ok (LJ ⟨by decide,by decide⟩))) af (by decide))) (ah (ax 4 nd cj)
   (ah (fi (o:=.nx (S n)) (m:=n) 5 S nd rfl PassesOwn.leaving T.dk (ae (aa 1 rfl) ai) ⟨by omega,by omega⟩ (Le.of ⟨rfl,rfl,rfl,rfl,rfl,trivial⟩) (by omega) (fun k hk=>?_) (by rw[Mf];exact .all rfl)) (aq (aY (aa 4 rfl))))))⟩
 have ok:=wJ c k (by omega)
 have hl:=ok.len
 have ze:=ok.ol
 have bM:fM (ls c k) < (ls c k).left.length:=wI (by omega)
 have ea:(ls c k).rest % (((ls c k).left.length:Nat):Int)=((fM (ls c k):Nat):Int):=by
   have h0:=LM (ls c k).rest (show(((ls c k).left.length:Nat):Int)≠0 by omega)
   unfold fM;omega
 have Kl:((fM (ls c k):Nat):Int)+1=((fM (ls c k)+1:Nat):Int):=by omega
 exact .nx (ah (ax 6 nd (aI (b8 (aa 3 rfl) (aJ T.bf (aa 2 rfl) (by omega)) (by omega)) (congrArg Dt.int ea)))
   (ah (ax 3 nd (ck (aa 3 rfl) af ⟨by decide,by decide +kernel⟩))
   (ah (ax 4 nd (jz (aa 4 rfl) (eu (aa 2 rfl) (aa 6 rfl) bM (by omega)) (by rw[ze];show k+1<=2000;omega)))
   (aq (ax 2 nd (jz (qW (aa 2 rfl) (aa 6 rfl) (My bM) (by omega)) (dc (aa 2 rfl) (aI (b7 (aa 6 rfl) af) (congrArg Dt.int Kl)) bM (by omega)) (by rw[LC,La];omega))))))) (Le.of ⟨rfl,rfl,rfl,rfl,rfl,trivial⟩)
theorem m5 (T:Txt K mg t):GF P w K mg base CX 1 "_law_word" 3 za:=by
 refine⟨_,_,_,jY T.iD.F qM rfl fun bj A outer s H E G ds r hr hl hR=>?_,(T.g T.iD.a),T.iD.F.kp,T.iD.b⟩
 obtain⟨L,c,n,rfl,⟨qZ,hL⟩,hn,rfl⟩:=hR
 have nd:=qM.nd
 have Km:0 < ((L.length:Nat):Int)/\((L.length:Nat):Int).natAbs.log2 < 9000:=⟨by omega,Nat.lt_of_le_of_lt (Nat.log2_le_self _) (by omega)⟩
 let S:Nat->List Slot:=fun k=>[.val (.str (tx L)),.val (.int (pY L c k).1),.val (.int (n:Nat)),.val (.str (tx (pY L c k).2)),.bb]
 refine⟨_,.rt _,ah (ax 3 nd cj)
   (ah (fi (o:=.nx (S n)) (m:=n) 4 S nd rfl PassesOwn.leaving T.dk (ae (aa 2 rfl) ai) ⟨by omega,by omega⟩ (Le.of ⟨rfl,rfl,rfl,rfl,trivial⟩) (by omega) (fun k hk=>?_) (by rw[Mf];exact .all rfl)) (aq (aY (aa 3 rfl))))⟩
 have yb:=m4 L c k
 have h2:=LM (pY L c k).1 (show((L.length:Nat):Int)≠0 by omega)
 have h3:=LG (pY L c k).1 (show(0:Int) < (L.length:Nat) by omega)
 have ea:(pY L c k).1 % ((L.length:Nat):Int)=((((pY L c k).1 % (L.length:Nat)).toNat:Nat):Int):=by omega
 exact .nx (ah (ax 3 nd (jz (aa 3 rfl) (eu (aa 0 rfl) (aI (b8 (aa 1 rfl) (aJ T.bf (aa 0 rfl) (by omega)) (by omega)) (congrArg Dt.int ea)) (by omega) (by omega)) (by rw[yb];show k+1<=2000;omega)))
   (aq (ax 1 nd (ck (aa 1 rfl) (aJ T.bf (aa 0 rfl) (by omega)) Km)))) (Le.of ⟨rfl,rfl,rfl,rfl,trivial⟩)
theorem zf (T:Txt K mg t):GF P w K mg base CX 2 "_law_rows" 3 zd:=by
 refine⟨_,_,_,jY T.iE.F qN rfl fun bj A outer s H E G ds r hr hl hR=>?_,(T.g T.iE.a),T.iE.F.kp,T.iE.b⟩
 obtain⟨L,ns,m,rfl,⟨qZ,Fw⟩,⟨hm,Fv⟩,rfl⟩:=hR
 have nd:=qN.nd
 have cD:=eA (P:=P) (w:=w) (base:=base) T
 have iI:=m5 (P:=P) (w:=w) (base:=base) T
 have Kn:0 < m/\m.natAbs.log2 < 9000:=⟨hm,Nat.lt_of_le_of_lt (Nat.log2_le_self _) (by omega)⟩
 let S:Nat->List Slot:=fun k=>[.val (.str (tx L)),.val (.fQ ns),.val (.int m),.own (.lst (((Lp k).map (rowAt L ns m)).map gY)),.bb,.bb,.bb]
 refine⟨_,.ro _,ah (fj 3 nd (pz ai AA3)) (ah (fi (o:=.nx (S L.length)) (m:=L.length) 4 S nd rfl PassesOwn.leaving T.dk (ae (aJ T.bf (aa 0 rfl) (by omega)) ai) ⟨by omega,by omega⟩ (Le.of ⟨rfl,rfl,rfl,rfl,trivial⟩) (by omega) (fun k hk=>?_) (by rw[Mf];exact .all rfl))
   (aq (mE 3)))⟩
 have h0:=LM (cellAt ns k) (show(5:Int)≠0 by decide)
 have h1:=LG (cellAt ns k) (show(0:Int) < 5 by decide)
 have h3:=LM (cellAt ns k / 5) (show m≠0 by omega)
 have h4:=LG (cellAt ns k / 5) hm
 have en:(1:Int)+cellAt ns k / 5 % m=(((1+cellAt ns k / 5 % m).toNat:Nat):Int):=by omega
 have e:((Lp (k+1)).map (rowAt L ns m)).map gY=((Lp k).map (rowAt L ns m)).map gY ++ [gY (rowAt L ns m k)]:=by
   rw[List.range_succ,LQ,LQ];rfl
 refine .nx (ah (ax 5 nd (aN cD aZ hr (ae (aa 1 rfl) (ae (aa 4 rfl) ai)) ⟨ns,k,rfl,by omega,rfl⟩))
   (ah (ax 6 nd (d:=.str (Fu (cellAt ns k))) (uN (Bf (ae cj (ae cj (ae cj (ae cj (ae cj ai))))) AA3) (b8 (aa 5 rfl) af (by decide)) (at_getD (L:=lJ) (n:=5) rfl h0 h1)))
   (aq (lp (ds:=((Lp k).map (rowAt L ns m)).map gY) 3 (d:=gY (rowAt L ns m k)) (ij (ae (eu (aa 0 rfl) (aa 4 rfl) hk (by omega)) (ae (aa 6 rfl) (ae (aN iI aZ hr (ae (aa 0 rfl) (ae (ck (ck (aa 5 rfl) af ⟨by decide,by decide +kernel⟩) (aa 2 rfl) Kn) (ae (aI (b7 af (b8 (ck (aa 5 rfl) af ⟨by decide,by decide +kernel⟩) (aa 2 rfl) hm)) (congrArg Dt.int en)) ai))) ⟨L,cellAt ns k / 5 / m,(1+cellAt ns k / 5 % m).toNat,rfl,⟨qZ,by omega⟩,by omega,rfl⟩) ai))) AA3) (by rw[Bn,Bn,Lo];exact K2 (show k < 2000 by omega) (by decide)))))) (Le.of ⟨rfl,rfl,rfl,?_,trivial⟩)
 show Slot.own (.lst (((Lp (k+1)).map (rowAt L ns m)).map gY))=_
 rw[e]
theorem IF {n:Nat}(h:n<=100000):n<=sizeLine:=LA h (by decide)
noncomputable def rowOf (rows:List Row)(x:Nat):Row:=(rows.find? fun r=>decide (r.c=x)).getD ⟨0,"",[]⟩
noncomputable def b9 (f:Row->Dt)(rows:List Row):List (Key×Dt):=rows.map fun r=>(.inr (sg r.c),f r)
theorem wM {rows:List Row}{x:Nat}(h:x∈rows.map (·.c)):rowOf rows x∈rows/\(rowOf rows x).c=x/\m3 rows x=(rowOf rows x).d/\wordOf rows x=(rowOf rows x).w:=by
 obtain⟨q,hq,e⟩:=LK.mp h
 unfold rowOf m3 wordOf
 cases f:rows.find? (fun r=>decide (r.c=x)) with
 | none=>exact absurd (decide_eq_true e) (by simpa using List.find?_eq_none.mp f q hq)
 | some r=>exact⟨List.mem_of_find?_eq_some f,of_decide_eq_true (List.find?_some (p:=fun r:Row=>decide (r.c=x)) f),rfl,rfl⟩
theorem wN (f:Row->Dt):∀ {rows:List Row} {x:Nat},x∈rows.map (·.c)->bO (b9 f rows) (.inr (sg x))=some (f (rowOf rows x))
 | [],x,h=>by cases h
 | q::rows,x,h=>by
   by_cases e:q.c=x
   . subst e
     show bO ((.inr (sg q.c),f q)::b9 f rows) _=_
     rw[eV (p:=(.inr (sg q.c),f q)) rfl]
     unfold rowOf
     rw[LO,decide_eq_true rfl];rfl
   . have ne:¬ (Sum.inr (sg q.c):Key)=.inr (sg x):=fun z=>e (eZ (Sum.inr.inj z))
     show bO ((.inr (sg q.c),f q)::b9 f rows) _=_
     rw[dH (p:=(.inr (sg q.c),f q)) ne]
     have hx:x∈rows.map (·.c):=by
       rcases K4.mp h with z | z
       . exact absurd z.symm e
       . exact z
     rw[wN f hx]
     unfold rowOf
     rw[LO,decide_eq_false e]
theorem Ew (f:Row->Dt){rows:List Row}(nd:(rows.map (·.c)).Nodup){j:Nat}(hj:j < rows.length):fU (b9 f (rows.take j)) (.inr (sg rows[j].c)) (f rows[j])=b9 f (rows.take (j+1)):=by
 have hn:bO (b9 f (rows.take j)) (.inr (sg rows[j].c))=none:=by
   refine fo fun kv D7=>?_
   obtain⟨r,hr,rfl⟩:=LK.mp D7
   intro z
   have z:r.c=rows[j].c:=eZ (Sum.inr.inj z)
   obtain⟨i,hi,e⟩:=Mb.mp hr
   rw[LC] at hi
   rw[Mo] at e
   have h:=L7.mp nd i j (by rw[Bn];omega) (by rw[Bn];exact hj) (by omega)
   rw[Md,Md] at h
   exact h (by rw[e];exact z)
 unfold fU
 rw[hn,if_neg (by simp)]
 unfold b9
 rw[L3,fe hj,LQ];rfl
theorem wO (f:Row->Dt)(rows:List Row):(b9 f rows).length=rows.length:=by unfold b9;rw[Bn]
section
variable {X:Cx}{G:Gr}{dl:List Slot}{a b c e:Expr}{n m:Nat}{pos p p2:Pos}{ns:List Int}
theorem zg (ha:EE X G dl a (.fQ ns))(hb:EE X G dl b (.int (n:Int)))(hc:EE X G dl c (.int (m:Int)))(Jq:n<=m):EE X G dl (.Subscript a (.Slice (some b) (some c) none p2) pos) (.fQ ((ns.drop n).take (m - n))):=
 cy (jM qo ha (je hb) (je hc)) fun st H Q zq=>k3 zq fun Hf zq=>have S:=zq.1;have kk:=zq.2;⟨Hf,S,fun v Hf1 H1 g1 r1=>by
   cases r1 with
   | @fQ q _ hq=>
     refine⟨Hf1,S.grow g1,fun z aR H2 g2 r2=>?_⟩
     cases r2
     refine⟨(n:Int),rfl,aR,(S.grow g1).grow g2,fun z' fR H3 g3 r3=>?_⟩
     cases r3
     have g:=(g1.trans g2).trans g3
     refine⟨(m:Int),rfl,q,_,rfl,((g1.sub.trans g2.big).trans g3.big).seq hq,fun p hp=>kk _ (upd fR p _) _ (g.trans (.alloc g.sub hp)) (.fQ ?_)⟩
     have e:nG (ns.map V.int) (some (n:Int)) (some (m:Int))=((ns.drop n).take (m - n)).map V.int:=by
       unfold nG
       rw[HT.l5,HT.l5,Bn,List.map_take,List.map_drop]
       by_cases h:n<=ns.length
       . rw[Nat.min_eq_left h]
         by_cases h2:m<=ns.length
         . rw[Nat.min_eq_left h2]
         . rw[Nat.min_eq_right (by omega)]
           rw[L5 (by rw[La,Bn];exact G1 _),L5 (by rw[La,Bn];omega)]
       . rw[show min n ns.length=ns.length by omega,List.drop_of_length_le (by rw[Bn];exact G1 _),List.drop_of_length_le (by rw[Bn];omega)];simp
     rw[<- e]
     exact .of ak⟩
end
section
variable {X:Cx}{G:Gr}{dl:List Slot}{a:Expr}{d:Dt}{pos:Pos}{k:Nat}{u:Bool}
def wQ (d:Dt)(u:Bool):Prop:=∀ K H v,Rep K H v d->decide (v=V.aW)=u
theorem kC:wQ .aW true:=fun K H v r=>by cases r;rfl
theorem kE {s:Str}:wQ (.str s) false:=fun K H v r=>by cases r;rfl
theorem wR {jk:Nat}{pq:Pos}(hd:wQ d u)(ha:EE X G dl a d):EB X G dl (.Compare a [.Is] [.Constant .none jk pq] pos) u:=
 A8 (lX (Av ha)) fun st H Q zq=>k3 zq fun Hf zq=>have S:=zq.1;have k:=zq.2;⟨Hf,S,fun v Hf1 H1 g1 r1=>⟨u,congrArg V.bl (hd _ _ _ r1),k Hf1 H1 g1⟩⟩
theorem q8 {jk:Nat}{pq:Pos}(hd:wQ d u)(ha:EE X G dl a d):EB X G dl (.Compare a [.IsNot] [.Constant .none jk pq] pos) (!u):=
 A8 (lX (qe ha)) fun st H Q zq=>k3 zq fun Hf zq=>have S:=zq.1;have k:=zq.2;⟨Hf,S,fun v Hf1 H1 g1 r1=>⟨!u,congrArg (fun b=>V.bl (!b)) (hd _ _ _ r1),k Hf1 H1 g1⟩⟩
end
noncomputable def bh:List Nat->List Nat->Nat
 | a::x,b::y=>if a=b then bh x y+1 else 0
 | _,_=>0
theorem dw:∀ (x y:List Nat),bh x y<=min x.length y.length
 | [],y=>by simp[bh]
 | a::x,[]=>by simp[bh]
 | a::x,b::y=>by
   have:=dw x y
   unfold bh
   split
   . simp only[Lr];omega
   . omega
theorem m6:∀ {x y:List Nat} {j:Nat},j < bh x y->x.getD j 0=y.getD j 0
 | [],y,j,h=>by simp[bh] at h
 | a::x,[],j,h=>by simp[bh] at h
 | a::x,b::y,j,h=>by
   unfold bh at h
   split at h
   . rename_i e
     subst e
     cases j with
     | zero=>rfl
     | succ j=>
       have:=m6 (x:=x) (y:=y) (j:=j) (by omega)
       simpa using this
   . omega
theorem p0:∀ {x y:List Nat},bh x y < min x.length y.length->x.getD (bh x y) 0≠y.getD (bh x y) 0
 | [],y,h=>by simp[bh] at h
 | a::x,[],h=>by simp[bh] at h
 | a::x,b::y,h=>by
   unfold bh at h ⊢
   by_cases e:a=b
   . rw[if_pos e] at h ⊢
     simp only[Lr] at h
     have:=p0 (x:=x) (y:=y) (by omega)
     simpa using this
   . rw[if_neg e]
     simpa using e
def wU:Rl:=fun ds r=>∃ a b:List Nat,ds=[.str (tx a),.str (tx b)]/\(cB (tx a)=true/\cB (tx b)=true)/\(a.length<=1000/\b.length<=1000)/\r=.ret (.int (bh a b:Nat))
theorem oC {w:List Nat}{k:Nat}(hk:k < w.length):(Sg.signs (tx w)).getD k .aW=.str (sg (w.getD k 0)):=by
 rw[kA,LB,E2,J7,fe hk,E2,fe hk];rfl
theorem wV (a b:List Nat):(Lp (min a.length b.length)).map (fun k=>Dt.tup [.str (sg (a.getD k 0)),.str (sg (b.getD k 0))])=sE (Sg.signs (tx a)) (Sg.signs (tx b)):=by
 unfold sE
 rw[c7,c7,br,br]
 refine Ms fun k hk=>?_
 have hk:=LU.mp hk
 rw[oC (by omega),oC (by omega)]
theorem sT (T:Txt K mg t):GF P w K mg base CX 1 "agreed" 2 wU:=by
 refine⟨_,_,_,jY T.dP.F lF rfl fun bj A outer s H E G ds r hr hl hR=>?_,(T.g T.dP.a),T.dP.F.kp,T.dP.b⟩
 obtain⟨a,b,rfl,⟨ha,hb⟩,⟨Ko,Kq⟩,rfl⟩:=hR
 have nd:=lF.nd
 let n:=min a.length b.length
 have hm:bh a b<=n:=dw a b
 let S:Nat->List Slot:=fun k=>[.val (.str (tx a)),.val (.str (tx b)),.val (.int (k:Nat)),.bb,.bb]
 have IG:∀ x y:Nat,x=y->(!decide (sg x=sg y))=false:=fun x y e=>by rw[e];simp
 have neT:∀ x y:Nat,x≠y->(!decide (sg x=sg y))=true:=fun x y e=>by rw[decide_eq_false fun z=>e (eZ z)];rfl
 by_cases hk:bh a b < n
 . refine⟨_,.rt _,ah (ax 2 nd af) (d5 (cF (m:=bh a b) (Lp n) (fun(k:Nat)=>Dt.tup [.str (sg (a.getD k 0)),.str (sg (b.getD k 0))]) (fun(k:Nat) dl=>(dl.set 3 (.val (.str (sg (a.getD k 0))))).set 4 (.val (.str (sg (b.getD k 0))))) S rfl PassesOwn.leaving
     (vG rfl T.qR (ae (aa 0 rfl) (ae (aa 1 rfl) ai))) (cG (n5 (.str _ ha) (.str _ hb)) (wV a b)) (jH rfl (bL (aU nd rfl (.inl rfl)) (bL (aU nd rfl (.inl rfl)) gq))) (fun a _=>jo) (Le.of ⟨rfl,rfl,rfl,trivial⟩) (by rw[Lo];exact hm) (fun j x hj hx=>?_) (.rt (by rw[Lo];exact hk) ?_)))⟩
   . rw[LH (by omega)] at hx
     cases hx
     refine .nx (ah (bc (u:=false) (bN (mw (aa 3 rfl) (aa 4 rfl)) (IG _ _ (m6 hj))) (fun h=>nomatch h) (fun h=>a8)) (aq (ax 2 nd (b7 (aa 2 rfl) af)))) (Le.of ⟨rfl,rfl,?_,trivial⟩)
     rfl
   . have Kr:(Lp n)[bh a b]?=some (bh a b):=LH hk
     show ji _ _ _ (((Lp n)[bh a b]?).elim (S (bh a b)) fun(k:Nat)=>((S (bh a b)).set 3 (.val (.str (sg (a.getD k 0))))).set 4 (.val (.str (sg (b.getD k 0))))) _ _
     rw[Kr]
     exact d5 (bc (u:=true) (bN (mw (aa 3 rfl) (aa 4 rfl)) (neT _ _ (p0 hk))) (fun h=>aq (aY (aa 2 rfl))) (fun h=>nomatch h))
 . have e:bh a b=n:=by omega
   refine⟨_,.rt _,ah (ax 2 nd af) (ah (cF (o:=.nx (S n)) (m:=n) (Lp n) (fun(k:Nat)=>Dt.tup [.str (sg (a.getD k 0)),.str (sg (b.getD k 0))]) (fun(k:Nat) dl=>(dl.set 3 (.val (.str (sg (a.getD k 0))))).set 4 (.val (.str (sg (b.getD k 0))))) S rfl PassesOwn.leaving
     (vG rfl T.qR (ae (aa 0 rfl) (ae (aa 1 rfl) ai))) (cG (n5 (.str _ ha) (.str _ hb)) (wV a b)) (jH rfl (bL (aU nd rfl (.inl rfl)) (bL (aU nd rfl (.inl rfl)) gq))) (fun a _=>jo) (Le.of ⟨rfl,rfl,rfl,trivial⟩) (by rw[Lo];exact G1 _) (fun j x hj hx=>?_) (by rw[Lo];exact .all rfl))
     (aq (aY (aI (aa 2 rfl) (by rw[e])))))⟩
   rw[LH (by omega)] at hx
   cases hx
   refine .nx (ah (bc (u:=false) (bN (mw (aa 3 rfl) (aa 4 rfl)) (IG _ _ (m6 (by omega)))) (fun h=>nomatch h) (fun h=>a8)) (aq (ax 2 nd (b7 (aa 2 rfl) af)))) (Le.of ⟨rfl,rfl,?_,trivial⟩)
   rfl
noncomputable def grow (rows:List Row)(w:List Nat):List Nat:=(w.map (wordOf rows)).flatten
theorem dU {rows:List Row}(ok:aH rows):∀ {w:List Nat},(∀ x∈w,x∈rows.map (·.c))->(grow rows w).length<=8 * w.length
 | [],_=>LD _
 | x::w,h=>by
   have ih:=dU ok (w:=w) fun y hy=>h y (KY _ hy)
   obtain⟨q,hq,_,_,ew⟩:=bt (h x (Lu ..))
   have:=ok.wp q hq
   show((wordOf rows x::w.map (wordOf rows)).flatten).length<=_
   rw[LN,Lz,ew,Lr]
   have e:(w.map (wordOf rows)).flatten.length<=8 * w.length:=ih
   omega
noncomputable def Ci:Expr->Scope
 | .Call _ [.ListComp _ _ sc _] _ _=>sc
 | _=>default
theorem wW {rows:List Row}(ok:aH rows){w:List Nat}(h:∀ x∈w,x∈rows.map (·.c)):∀ x∈grow rows w,x∈rows.map (·.c):=fun x hx=>by
 obtain⟨l,hl,hx⟩:=List.mem_flatten.mp hx
 obtain⟨y,hy,rfl⟩:=LK.mp hl
 obtain⟨q,hq,_,_,ew⟩:=bt (h y hy)
 rw[ew] at hx
 exact ok.wo q hq x hx
theorem m7 {rows:List Row}{w:List Nat}(h0:0 < w.length):(wordOf rows (w.getD 0 0)).length<=(grow rows w).length:=by
 cases w with
 | nil=>cases h0
 | cons x w=>
   show(wordOf rows x).length<=((wordOf rows x::w.map (wordOf rows)).flatten).length
   rw[LN,Lz];omega
noncomputable def fw:Row->Dt:=fun r=>.str (tx r.w)
theorem jA {rows:List Row}{x:Nat}(h:x∈rows.map (·.c)):bO (b9 fw rows) (.inr (sg x))=some (.str (tx (wordOf rows x))):=by
 rw[wN fw h,(wM h).2.2.2];rfl
noncomputable def wX:Stmt->Scope
 | .Return (some e) _=>Ci e
 | _=>default
noncomputable abbrev sU:Scope:=wX ((aD fq).getD 0 (.Pass ⟨0,0,0,0⟩))
theorem lN:iR sU (ag fq) qO ["_law_letter","_law_words"] ["_law_letter"] [0]=true:=by decide +kernel
theorem sV (rows:List Row)(e:List Nat):((e.filter fun _=>true).map fun x=>Dt.str (tx (wordOf rows x)))=((e.map (wordOf rows)).map tx).map Dt.str:=by
 rw[Mi.mpr (fun _ _=>rfl),LB,LB];rfl
noncomputable abbrev FL:=Nat×Option (List Nat)
noncomputable def oD:Option (List Nat)->Dt
 | none=>.aW
 | some l=>.str (tx l)
noncomputable def kJ (v:FL):Dt:=.tup [.int (v.1:Nat),oD v.2]
noncomputable def gh:Option (List Nat)->Nat
 | none=>0
 | some l=>l.length
theorem q9 (v:FL):([Dt.int (v.1:Nat),oD v.2]:List Dt).all nY=true:=by
 obtain⟨f,o⟩:=v
 cases o <;> rfl
noncomputable def au (shown word:List Nat)(p:Nat)(onw:Nat->FL):FL:=
 if p+bh shown (word.drop p)=word.length\/p+bh shown (word.drop p)=p+shown.length then onw (p+bh shown (word.drop p)) else (p+bh shown (word.drop p),none)
noncomputable def begun (x:Nat)(v:FL):FL:=(v.1,v.2.map (x::·))
def wY:Rl:=fun ds r=>∃ (shown word:List Nat) (p:Nat) (kds:List (Key×Dt)) (onw:Nat->FL),ds=[.str (tx shown),.str (tx word),.int (p:Nat),.bK kds]/\((∀ x∈shown,x < 128)/\∀ x∈word,x < 128)/\(shown.length<=1000/\word.length<=1000/\p<=word.length) /\
 (p+bh shown (word.drop p)=word.length\/p+bh shown (word.drop p)=p+shown.length->bO kds (.inl ((p+bh shown (word.drop p):Nat):Int))=some (kJ (onw (p+bh shown (word.drop p)))))/\r=.ret (kJ (au shown word p onw))
def zh:Rl:=fun ds r=>∃ (x:Nat) (v:FL),ds=[.str (sg x),kJ v]/\gh v.2<=1000/\r=.ret (kJ (begun x v))
theorem lO (T:Txt K mg t):GF P w K mg base CX 2 "led_on" 4 wY:=by
 refine⟨_,_,_,jY T.dQ.F lG rfl fun bj A outer s H E G ds r hr hl hR=>?_,(T.g T.dQ.a),T.dQ.F.kp,T.dQ.b⟩
 obtain⟨shown,word,p,kds,onw,rfl,⟨ha,hb⟩,⟨hs,hw,hp⟩,hk,rfl⟩:=hR
 have lP:=sT (P:=P) (w:=w) (base:=base) T
 have nd:=lG.nd
 have hu:(A.deeper (envOfC "led_on" (ag gL) s.heap.objs.size t.eY bj)).units+1 < cLine:=by have:=hr.units;omega
 have hm:=dw shown (word.drop p)
 generalize hq:bh shown (word.drop p)=q at hk hm
 have el:au shown word p onw=if p+q=word.length\/p+q=p+shown.length then onw (p+q) else (p+q,none):=by unfold au;rw[hq]
 rw[el]
 refine⟨_,.rt _,ah (ax 4 nd (d:=.int ((p+q:Nat):Int)) (aI (b7 (aa 2 rfl) (aN lP aZ hr (ae (aa 0 rfl) (ae (dc (k:=p) (aa 1 rfl) (aa 2 rfl) hp (by omega)) ai)) ⟨shown,word.drop p,rfl,⟨gZ ha,gZ fun x hx=>hb x (Mq hx)⟩,⟨hs,by rw[La];omega⟩,rfl⟩)) (by rw[hq];rfl))) ?_⟩
 by_cases hc:p+q=word.length\/p+q=p+shown.length
 . rw[if_pos hc]
   have oU:(decide (((p+q:Nat):Int)=(word.length:Nat)) || decide (((p+q:Nat):Int)=(p:Int)+(shown.length:Nat)))=true:=by
     rcases hc with h | h
     . rw[decide_eq_true (by omega)];rfl
     . rw[decide_eq_true (show((p+q:Nat):Int)=(p:Int)+(shown.length:Nat) by omega),Bool.or_true]
   exact d5 (bc (u:=true) (bN (kP (iP (du (aa 4 rfl) (aJ T.bf (aa 1 rfl) (by omega))) fun _=>ib (du (aa 4 rfl) (b7 (aa 2 rfl) (aJ T.bf (aa 0 rfl) (by omega)))))) oU) (fun _=>aq (aY (vL hu (aa 3 rfl) (aa 4 rfl) (hk hc) (fun _ _=>rfl)))) (fun h=>nomatch h))
 . rw[if_neg hc]
   have oU:(decide (((p+q:Nat):Int)=(word.length:Nat)) || decide (((p+q:Nat):Int)=(p:Int)+(shown.length:Nat)))=false:=by
     rw[decide_eq_false (by omega),decide_eq_false (by omega)];rfl
   exact ah (bc (u:=false) (bN (kP (iP (du (aa 4 rfl) (aJ T.bf (aa 1 rfl) (by omega))) fun _=>ib (du (aa 4 rfl) (b7 (aa 2 rfl) (aJ T.bf (aa 0 rfl) (by omega)))))) oU) (fun h=>nomatch h) (fun h=>a8)) (aq (aY (ij (ae (aa 4 rfl) (ae uK ai)) AA3)))
theorem oE (T:Txt K mg t):GF P w K mg base CX 1 "begun_with" 2 zh:=by
 refine⟨_,_,_,jY T.bS.F kQ rfl fun bj A outer s H E G ds r hr hl hR=>?_,(T.g T.bS.a),T.bS.F.kp,T.bS.b⟩
 obtain⟨x,⟨f,o⟩,rfl,ho,rfl⟩:=hR
 cases o with
 | none=>exact⟨_,.rt _,d5 (bc (u:=true) (wR kC (aA (ds:=[.int (f:Nat),.aW]) (aa 1 rfl) af rfl)) (fun _=>aq (aY (aa 1 rfl))) (fun h=>nomatch h))⟩
 | some l=>
   have ho:l.length<=1000:=ho
   exact⟨_,.rt _,ah (bc (u:=false) (wR kE (aA (ds:=[.int (f:Nat),.str (tx l)]) (aa 1 rfl) af rfl)) (fun h=>nomatch h) (fun h=>a8))
     (aq (aY (ij (ae (aA (ds:=[.int (f:Nat),.str (tx l)]) (aa 1 rfl) af rfl) (ae (jz (L:=[x]) (M:=l) (aa 0 rfl) (aA (ds:=[.int (f:Nat),.str (tx l)]) (aa 1 rfl) af rfl) (by show 1+l.length<=2000;omega)) ai)) AA3)))⟩
section
variable {X:Cx}{G:Gr}{dl:List Slot}{a b:Expr}{d:Dt}{i:Int}{pos:Pos}
theorem wZ (ha:EE X G dl a (.int i))(hb:EE X G dl b d):EO X G dl (.Dict [some a] [b] pos) (.bK [(.inl i,d)]):=
 cy (ya (uC ha hb x9) rfl rfl (by simp) (show 1<=15 by decide)) fun st H Q zq=>k3 zq fun Hf zq=>have S:=zq.1;have k:=zq.2;fun p hp=>by
   have g0:aL Hf H Hf (upd H p (.dK [])):=.cN S.sub hp
   refine⟨Hf,S.grow g0,fun v Hf1 H1 g1 r1=>?_⟩
   cases r1
   refine⟨Hf1,(S.grow g0).grow g1,fun y aR H2 g2 r2=>?_⟩
   have Hk:=g1.trans g2
   have gg:=g0.trans Hk
   have IH:aR p=none:=Hk.ka (S.sub.free hp) ak
   refine⟨Hk.big _ _ ak,[(.inl i,y)],rfl,(show 1<=15 by decide),?_⟩
   have ne:∀ {c o},H c=some o->c≠p:=fun h e=>by subst e;rw[hp] at h;cases h
   have ne2:∀ {c o},aR c=some o->c≠p:=fun h e=>by subst e;rw[IH] at h;cases h
   refine k p aR _ ⟨fun c o h=>by rw[aj (ne h)];exact gg.big c o h,gg.a7,fun c o h=>by rw[aj (ne2 h)];exact gg.sub c o h,gg.new⟩ hp IH ⟨[(.inl i,y)],ak,.cons r2 .nil⟩
end
noncomputable def best (rows:List Row)(word:List Nat)(p:Nat)(onw:Nat->FL)(cs:List Nat):FL:=
 cs.foldl (fun b x=>if b.1 < (au (wordOf rows x) word p onw).1 then begun x (au (wordOf rows x) word p onw) else b) (p,none)
theorem sW (rows:List Row)(word:List Nat)(p:Nat)(onw:Nat->FL)(cs:List Nat){j:Nat}(h:j < cs.length):best rows word p onw (cs.take (j+1))=if (best rows word p onw (cs.take j)).1 < (au (wordOf rows cs[j]) word p onw).1 then begun cs[j] (au (wordOf rows cs[j]) word p onw) else best rows word p onw (cs.take j):=by
 unfold best
 rw[L3,fe h,List.foldl_append];rfl
noncomputable def oF:FL:=(0,none)
theorem Cj {l m:List FL}{i:Nat}(h:i < l.length):(l ++ m).getD i oF=l.getD i oF:=by
 rw[E2,E2,Lx h]
theorem zi {l m:List FL}{i:Nat}(h:l.length<=i):(l ++ m).getD i oF=m.getD (i - l.length) oF:=by
 rw[E2,E2,Ly h]
noncomputable def vs (rows:List Row)(word:List Nat):Nat->List FL
 | 0=>[(word.length,some [])]
 | k+1=>vs rows word k ++ [best rows word (word.length - 1 - k) (fun p=>(vs rows word k).getD (word.length - p) oF) (rows.map (·.c))]
theorem eB (rows:List Row)(word:List Nat):∀ k,(vs rows word k).length=k+1
 | 0=>rfl
 | k+1=>by show(vs rows word k ++ [_]).length=_;rw[Lz,eB rows word k];rfl
noncomputable def eC (n:Nat)(l:List FL):List (Key×Dt):=(Lp l.length).map fun i=>(.inl ((n - i:Nat):Int),kJ (l.getD i oF))
theorem oG {key:Nat->Key}{val:Nat->Dt}{i:Nat}:∀ {is:List Nat},i∈is->(∀ j∈is,key j=key i->j=i)->bO (is.map fun j=>(key j,val j)) (key i)=some (val i)
 | [],h,_=>by cases h
 | j::is,h,q=>by
   by_cases e:key j=key i
   . have:=q j (Lu ..) e
     subst this
     exact eV (p:=(key j,val j)) rfl
   . rw[Lv,dH (p:=(key j,val j)) e]
     refine oG ?_ fun c hc=>q c (KY _ hc)
     rcases K4.mp h with z | z
     . subst z;exact absurd rfl e
     . exact z
theorem zj {n:Nat}{l:List FL}(hl:l.length<=n+1){b:Nat}(hb:b<=n)(hi:n - b < l.length):bO (eC n l) (.inl ((b:Nat):Int))=some (kJ (l.getD (n - b) oF)):=by
 have h:=oG (key:=fun i=>.inl ((n - i:Nat):Int)) (val:=fun i=>kJ (l.getD i oF)) (i:=n - b) (is:=Lp l.length) (LU.mpr hi) fun j hj e=>by
   have hj:=LU.mp hj
   have e:=Sum.inl.inj e
   omega
 have e:n - (n - b)=b:=by omega
 rw[e] at h
 exact h
theorem zk {n:Nat}{l:List FL}(hl:l.length<=n)(v:FL):fU (eC n l) (.inl ((n - l.length:Nat):Int)) (kJ v)=eC n (l ++ [v]):=by
 have hn:bO (eC n l) (.inl ((n - l.length:Nat):Int))=none:=fo fun kv D7=>by
   obtain⟨i,hi,rfl⟩:=LK.mp D7
   have hi:=LU.mp hi
   intro e
   have e:=Sum.inl.inj e
   omega
 unfold fU
 rw[hn,if_neg (by simp)]
 unfold eC
 rw[Lz,List.length_singleton,List.range_succ,LQ,List.map_singleton]
 congr 1
 . refine Ms fun i hi=>?_
   have hi:=LU.mp hi
   rw[Cj hi]
 . rw[zi (G1 _),Nat.sub_self];rfl
theorem m8 {shown word:List Nat}{p m:Nat}{onw:Nat->FL}(h:∀ b,gh (onw b).2<=m):gh (au shown word p onw).2<=m:=by
 unfold au
 split
 . exact h _
 . exact LD _
theorem oH {x m:Nat}{v:FL}(h:gh v.2<=m):gh (begun x v).2<=m+1:=by
 obtain⟨f,o⟩:=v
 cases o with
 | none=>exact LD _
 | some l=>have h:l.length<=m:=h;show l.length+1<=m+1;omega
theorem zm {rows:List Row}{word:List Nat}{p m:Nat}{onw:Nat->FL}(h:∀ b,gh (onw b).2<=m):∀ cs,gh (best rows word p onw cs).2<=m+1:=fun cs=>by
 unfold best
 have:∀ (cs:List Nat) (b0:FL),gh b0.2<=m+1->gh (cs.foldl (fun b x=>if b.1 < (au (wordOf rows x) word p onw).1 then begun x (au (wordOf rows x) word p onw) else b) b0).2<=m+1:=by
   intro cs
   induction cs with
   | nil=>exact fun b0 h0=>h0
   | cons x cs ih=>
     intro b0 h0
     refine ih _ ?_
     dsimp only
     split
     . exact oH (m8 h)
     . exact h0
 exact this cs _ (LD _)
theorem oI (rows:List Row)(word:List Nat):∀ k i,gh ((vs rows word k).getD i oF).2<=k
 | 0,i=>by
   cases i with
   | zero=>exact G1 _
   | succ i=>exact G1 _
 | k+1,i=>by
   show gh ((vs rows word k ++ [_]).getD i oF).2<=k+1
   by_cases h:i < (vs rows word k).length
   . rw[Cj h]
     exact LA (oI rows word k i) (by omega)
   . rw[zi (by omega)]
     cases i - (vs rows word k).length with
     | zero=>exact zm (fun b=>oI rows word k _) _
     | succ j=>exact LD _
noncomputable def bJ (rows:List Row)(word:List Nat)(k:Nat):Nat->FL:=fun p=>(vs rows word k).getD (word.length - p) oF
theorem lQ {rows:List Row}(ok:aH rows){x:Nat}(h:x∈rows.map (·.c)):x < 128:=by
 obtain⟨r,hr,rfl⟩:=LK.mp h
 have:=ok.sm r hr
 unfold small at this;omega
def w4 (t:oq):Rl:=fun ds r=>∃ (six:Bool) (rows:List Row) (word:List Nat),ds=[t.pR six rows,.str (tx word)]/\aH rows/\(∀ x∈word,x∈rows.map (·.c))/\(0 < word.length/\word.length<=12)/\r=.own (.bK (eC word.length (vs rows word (word.length - 1))))
theorem w6 {rows:List Row}{shown word:List Nat}{p k:Nat}(Du:0 < shown.length)(hk:k+1<=word.length)(hp:p=word.length - 1 - k):(p+bh shown (word.drop p)=word.length\/p+bh shown (word.drop p)=p+shown.length->bO (eC word.length (vs rows word k)) (.inl ((p+bh shown (word.drop p):Nat):Int))=some (kJ (bJ rows word k (p+bh shown (word.drop p))))):=by
 intro hc
 have hm:=dw shown (word.drop p)
 rw[La] at hm
 have hl:=eB rows word k
 exact zj (by omega) (by omega) (by omega)
theorem sX (T:Txt K mg t):GF P w K mg base CX 3 "onward_by_places" 2 (w4 t):=by
 refine⟨_,_,_,jY T.aP.F cS rfl fun bj A outer s H E G ds r hr hl hR=>?_,(T.g T.aP.a),T.aP.F.kp,T.aP.b⟩
 obtain⟨six,rows,word,rfl,ok,hw,⟨h0,Hl⟩,rfl⟩:=hR
 have rb:=lO (P:=P) (w:=w) (base:=base) T
 have xa:=oE (P:=P) (w:=w) (base:=base) T
 have m9:=oB (P:=P) (w:=w) (base:=base) T
 have p7:=iT (P:=P) (w:=w) (base:=base) T
 have nd:=cS.nd
 have hu:(A.deeper (envOfC "onward_by_places" (ag bw) s.heap.objs.size t.a9 bj)).units+1 < cLine:=by have:=hr.units;omega
 have h6:=ok.le
 let n:=word.length
 let cs:=rows.map (·.c)
 have Ex:cs.length=rows.length:=Bn ..
 let S:Nat->List Slot:=fun k=>[.val (t.pR six rows),.val (.str (tx word)),.val (.int (n:Nat)),.own (.bK (eC n (vs rows word k))),.bb,.bb,.bb,.bb]
 have er:(Lp (n - 1)).map (fun(k:Nat)=>Dt.int ((n - 1 - k:Nat):Int))=(Lp (((n:Int) - 1 - 0).toNat)).map fun(k:Nat)=>Dt.int ((n:Int) - 1 - k):=by
   have e:((n:Int) - 1 - 0).toNat=n - 1:=by omega
   rw[e]
   refine Ms fun k hk=>?_
   have hk:=LU.mp hk
   exact congrArg Dt.int (by omega)
 refine⟨_,.ro _,?_⟩
 refine ah (ax 2 nd (d:=.int (n:Nat)) (aJ T.bf (aa 1 rfl) (by omega))) ?_
 refine ah (fj 3 nd (wZ (aa 2 rfl) (ij (ae (aa 2 rfl) (ae cj ai)) AA3))) ?_
 refine ah (cF (o:=.nx (S (n - 1))) (m:=n - 1) (Lp (n - 1)) (fun(k:Nat)=>Dt.int ((n - 1 - k:Nat):Int)) (fun(k:Nat) dl=>dl.set 4 (.val (.int ((n - 1 - k:Nat):Int)))) S rfl PassesOwn.leaving
   (sF rfl T.dk (ae (A9 (aa 2 rfl) af) (ae af (ae (pk af) ai)))) (cG (n8 ⟨by omega,by omega,by decide,by decide⟩) er) (aU nd rfl (.inl rfl)) (fun a _=>gJ) (Le.of ⟨rfl,rfl,rfl,rfl,trivial⟩) (by rw[Lo];exact G1 _) (fun k z hk hz=>?l) (by rw[Lo];exact .all rfl)) (aq (mE 3))
 rw[LH (by omega)] at hz
 cases hz
 let p:=n - 1 - k
 have hp:p=word.length - 1 - k:=rfl
 let S2:Nat->List Slot:=fun j=>[.val (t.pR six rows),.val (.str (tx word)),.val (.int (n:Nat)),.own (.bK (eC n (vs rows word k))),.val (.int (p:Nat)),.val (kJ (best rows word p (bJ rows word k) (cs.take j))),.bb,.bb]
 have el:=eB rows word k
 have ep:n - (vs rows word k).length=p:=by show n - _=n - 1 - k;rw[el];omega
 have Ey:fU (eC n (vs rows word k)) (.inl ((p:Nat):Int)) (kJ (best rows word p (bJ rows word k) (cs.take cs.length)))=eC n (vs rows word (k+1)):=by
   have h:=zk (n:=n) (l:=vs rows word k) (by omega) (best rows word p (bJ rows word k) (cs.take cs.length))
   rw[ep] at h
   rw[h,LP];rfl
 have Ab:(eC n (vs rows word k)).length < sizeLine:=by
   unfold eC
   rw[Bn,Lo,el];exact K2 (show k+1 < 2000 by omega) (by decide)
 refine .nx (ah (ax 5 nd (d:=kJ (p,none)) (ij (ae (aa 4 rfl) (ae uK ai)) AA3)) (ah (cF (o:=.nx (S2 cs.length)) (m:=cs.length) cs (fun x=>Dt.str (sg x)) (fun x dl=>dl.set 6 (.val (.str (sg x)))) S2 rfl PassesOwn.leaving (iu (uZ (fs:=t.wC six rows) (aa 0 rfl) p7 aZ hr ⟨six,rows,rfl,ok,rfl⟩)) (cG (dG (fL ok fun x h=>h)) (fK cs)) (aU nd rfl (.inl rfl)) (fun a _=>gJ) (Le.of ⟨rfl,rfl,rfl,rfl,rfl,rfl,trivial⟩) (G1 _) (fun j x hj hx=>?l2) (.all rfl))
   (aq (vM (kds:=eC n (vs rows word k)) 3 hu (aa 5 rfl) (aa 4 rfl) Ab)))) (Le.of ⟨rfl,rfl,rfl,?r2,trivial⟩)
 case l2=>
   rw[fe hj] at hx
   cases hx
   have hm:cs[j]∈cs:=LI hj
   obtain⟨q,hq,_,_,ew⟩:=bt hm
   have Ck:=ok.wp q hq
   let led:=au (wordOf rows cs[j]) word p (bJ rows word k)
   let bs:=best rows word p (bJ rows word k) (cs.take j)
   have ze:gh led.2<=1000:=LA (m8 (m:=k) fun b=>oI rows word k _) (by omega)
   have eb:=sW rows word p (bJ rows word k) cs hj
   by_cases bM:bs.1 < led.1
   . rw[if_pos bM] at eb
     refine .nx (dl':=[.val (t.pR six rows),.val (.str (tx word)),.val (.int (n:Nat)),.own (.bK (eC n (vs rows word k))),.val (.int (p:Nat)),.val (kJ (begun cs[j] led)),.val (.str (sg cs[j])),.val (kJ led)]) ?_ (Le.of ⟨rfl,rfl,rfl,rfl,rfl,congrArg (fun z=>Slot.val (kJ z)) eb,trivial⟩)
     exact(ah (ax 7 nd (d:=kJ led) (n9 3 (aN rb aZ hr (ae (qA (fs:=t.wC six rows) (aa 0 rfl) m9 aZ hr (ae (aa 6 rfl) ai) ⟨six,rows,cs[j],rfl,ok,hm,rfl⟩) (ae (aa 1 rfl) (ae (aa 4 rfl) (ae (aa 3 rfl) ai)))) ⟨wordOf rows cs[j],word,p,eC n (vs rows word k),bJ rows word k,rfl,⟨fun x hx=>by rw[ew] at hx;exact lQ ok (ok.wo q hq x hx),fun x hx=>lQ ok (hw x hx)⟩,⟨by rw[ew];omega,by omega,by omega⟩,w6 (by rw[ew];omega) (by omega) hp,rfl⟩) (q9 led)))
       (aq (bc (u:=true) (bN (qz (aA (ds:=[.int (led.1:Nat),oD led.2]) (aa 7 rfl) af rfl) (aA (ds:=[.int (bs.1:Nat),oD bs.2]) (aa 5 rfl) af rfl)) (decide_eq_true (by omega))) (fun _=>aq (ax 5 nd (d:=kJ (begun cs[j] led)) (aN xa aZ hr (ae (aa 6 rfl) (ae (aa 7 rfl) ai)) ⟨cs[j],led,rfl,ze,rfl⟩))) (fun h=>nomatch h))))
   . rw[if_neg bM] at eb
     refine .nx (dl':=[.val (t.pR six rows),.val (.str (tx word)),.val (.int (n:Nat)),.own (.bK (eC n (vs rows word k))),.val (.int (p:Nat)),.val (kJ bs),.val (.str (sg cs[j])),.val (kJ led)]) ?_ (Le.of ⟨rfl,rfl,rfl,rfl,rfl,congrArg (fun z=>Slot.val (kJ z)) eb,trivial⟩)
     exact(ah (ax 7 nd (d:=kJ led) (n9 3 (aN rb aZ hr (ae (qA (fs:=t.wC six rows) (aa 0 rfl) m9 aZ hr (ae (aa 6 rfl) ai) ⟨six,rows,cs[j],rfl,ok,hm,rfl⟩) (ae (aa 1 rfl) (ae (aa 4 rfl) (ae (aa 3 rfl) ai)))) ⟨wordOf rows cs[j],word,p,eC n (vs rows word k),bJ rows word k,rfl,⟨fun x hx=>by rw[ew] at hx;exact lQ ok (ok.wo q hq x hx),fun x hx=>lQ ok (hw x hx)⟩,⟨by rw[ew];omega,by omega,by omega⟩,w6 (by rw[ew];omega) (by omega) hp,rfl⟩) (q9 led)))
       (aq (bc (u:=false) (bN (qz (aA (ds:=[.int (led.1:Nat),oD led.2]) (aa 7 rfl) af rfl) (aA (ds:=[.int (bs.1:Nat),oD bs.2]) (aa 5 rfl) af rfl)) (decide_eq_false (by omega))) (fun h=>nomatch h) (fun h=>a8))))
 case r2=>exact congrArg (fun z=>Slot.own (.bK z)) Ey.symm
noncomputable def kF (rows:List Row)(word:List Nat):Nat->FL:=bJ rows word (word.length - 1)
noncomputable def jB (rows:List Row)(word:List Nat)(x o:Nat):FL:=begun x (au ((wordOf rows x).drop o) word 0 (kF rows word))
noncomputable def zo (rows:List Row)(word:List Nat)(x o:Nat):Dt:=.tup [.str (sg x),.int (o:Nat),.int ((jB rows word x o).1:Nat),oD (jB rows word x o).2]
noncomputable def Cm (rows:List Row)(word:List Nat)(x:Nat):List Dt:=(Lp (wordOf rows x).length).map (zo rows word x)
noncomputable def cL (rows:List Row)(word:List Nat)(cs:List Nat):List Dt:=(cs.map (Cm rows word)).flatten
theorem p8 (rows:List Row)(word:List Nat)(cs:List Nat){j:Nat}(h:j < cs.length):cL rows word (cs.take (j+1))=cL rows word (cs.take j) ++ Cm rows word cs[j]:=by
 unfold cL
 rw[L3,fe h,LQ,List.flatten_append]
 simp
theorem lR {rows:List Row}(ok:aH rows){word:List Nat}:∀ {cs:List Nat},(∀ x∈cs,x∈rows.map (·.c))->(cL rows word cs).length<=8 * cs.length
 | [],_=>LD _
 | x::cs,h=>by
   have ih:=lR ok (word:=word) (cs:=cs) fun y hy=>h y (KY _ hy)
   obtain⟨q,hq,_,_,ew⟩:=bt (h x (Lu ..))
   have:=ok.wp q hq
   show((Cm rows word x::cs.map (Cm rows word)).flatten).length<=_
   rw[LN,Lz,Lr]
   have e:((cs.map (Cm rows word)).flatten).length<=8 * cs.length:=ih
   have e2:(Cm rows word x).length<=8:=by unfold Cm;rw[Bn,Lo,ew];omega
   omega
def xb (t:oq):Rl:=fun ds r=>∃ (six:Bool) (rows:List Row) (word:List Nat),ds=[t.pR six rows,.str (tx word)]/\aH rows/\(∀ x∈word,x∈rows.map (·.c))/\(0 < word.length/\word.length<=12)/\r=.own (.lst (cL rows word (rows.map (·.c))))
theorem sY (T:Txt K mg t):GF P w K mg base CX 4 "elders" 2 (xb t):=by
 refine⟨_,_,_,jY T.dR.F lH rfl fun bj A outer s H E G ds r hr hl hR=>?_,(T.g T.dR.a),T.dR.F.kp,T.dR.b⟩
 obtain⟨six,rows,word,rfl,ok,hw,⟨h0,Hl⟩,rfl⟩:=hR
 have rb:=lO (P:=P) (w:=w) (base:=base) T
 have xa:=oE (P:=P) (w:=w) (base:=base) T
 have Ez:=sX (P:=P) (w:=w) (base:=base) T
 have m9:=oB (P:=P) (w:=w) (base:=base) T
 have p7:=iT (P:=P) (w:=w) (base:=base) T
 have Hm:=pW (P:=P) (w:=w) (base:=base) T
 have nd:=lH.nd
 have h6:=ok.le
 let n:=word.length
 let cs:=rows.map (·.c)
 have Ex:cs.length=rows.length:=Bn ..
 have el:=eB rows word (n - 1)
 let kds:=eC n (vs rows word (n - 1))
 let S:Nat->List Slot:=fun k=>[.val (t.pR six rows),.val (.str (tx word)),.val (.bK kds),.own (.lst (cL rows word (cs.take k))),.bb,.bb,.bb,.bb]
 refine⟨_,.ro _,?_⟩
 refine ah (qu (Bz (fs:=t.wC six rows) (aa 0 rfl) Hm aZ hr (ae (aa 1 rfl) (ae (jl (w:=.int 12) T.i8 ⟨_,rfl⟩ fun _=>.int 12) ai)) ⟨six,rows,word,12,rfl,ok,hw,⟨h0,Hl,by decide⟩,rfl⟩)) ?_
 refine ah (fj 2 nd (qD Ez aZ hr (ae (aa 0 rfl) (ae (aa 1 rfl) ai)) ⟨six,rows,word,rfl,ok,hw,⟨h0,Hl⟩,rfl⟩)) ?_
 refine pv 2 (w:=.bK kds) ?_
 refine ah (fj 3 nd (pz ai AA3)) ?_
 have eS:S cs.length=[.val (t.pR six rows),.val (.str (tx word)),.val (.bK kds),.own (.lst (cL rows word cs)),.bb,.bb,.bb,.bb]:=by
   show [_,_,_,Slot.own (.lst (cL rows word (cs.take cs.length))),_,_,_,_]=_
   rw[LP]
 refine ah (cF (o:=.nx (S cs.length)) (m:=cs.length) cs (fun x=>Dt.str (sg x)) (fun x dl=>dl.set 4 (.val (.str (sg x)))) S rfl PassesOwn.leaving (iu (uZ (fs:=t.wC six rows) (aa 0 rfl) p7 aZ hr ⟨six,rows,rfl,ok,rfl⟩)) (cG (dG (fL ok fun x h=>h)) (fK cs)) (aU nd rfl (.inl rfl)) (fun a _=>gJ) (Le.of ⟨rfl,rfl,rfl,rfl,trivial⟩) (G1 _) (fun j x hj hx=>?l) (.all rfl)) ?r
 case r=>
   rw[eS]
   exact aq (mE 3)
 rw[fe hj] at hx
 cases hx
 let x:=cs[j]
 have hm:x∈cs:=LI hj
 obtain⟨q,hq,_,_,ew⟩:=bt hm
 have Ck:=ok.wp q hq
 have yb:(wordOf rows x).length<=8:=by rw[ew];omega
 let S2:Nat->List Slot:=fun o=>[.val (t.pR six rows),.val (.str (tx word)),.val (.bK kds),.own (.lst (cL rows word (cs.take j) ++ (Lp o).map (zo rows word x))),.val (.str (sg x)),.val (.str (tx (wordOf rows x))),.bb,.bb]
 have hle:=lR ok (word:=word) (cs:=cs.take j) fun y hy=>MI hy
 rw[LC] at hle
 have h2:S2 0=[.val (t.pR six rows),.val (.str (tx word)),.val (.bK kds),.own (.lst (cL rows word (cs.take j))),.val (.str (sg x)),.val (.str (tx (wordOf rows x))),.bb,.bb]:=by
   show [_,_,_,Slot.own (.lst (cL rows word (cs.take j) ++ [])),_,_,_,_]=_
   rw[L6]
 refine .nx (dl':=S2 (wordOf rows x).length) ?b (Le.of ⟨rfl,rfl,rfl,?e,trivial⟩)
 case e=>exact congrArg (fun z=>Slot.own (.lst z)) (p8 rows word cs hj)
 refine ah (ax 5 nd (d:=.str (tx (wordOf rows x))) (qA (fs:=t.wC six rows) (aa 0 rfl) m9 aZ hr (ae (aa 4 rfl) ai) ⟨six,rows,x,rfl,ok,hm,rfl⟩)) ?_
 refine aq (fi (o:=.nx (S2 (wordOf rows x).length)) (m:=(wordOf rows x).length) 6 S2 nd rfl PassesOwn.leaving T.dk (ae (aJ T.bf (aa 5 rfl) (by omega)) ai) ⟨by omega,by omega⟩ (by rw[h2];exact Le.of ⟨rfl,rfl,rfl,rfl,rfl,rfl,trivial⟩) (by omega) (fun o ho=>?l2) (by rw[Mf];exact .all rfl))
 let led:=au ((wordOf rows x).drop o) word 0 (kF rows word)
 have ze:gh led.2<=1000:=LA (m8 (m:=n - 1) fun b=>oI rows word (n - 1) _) (by omega)
 have hd:((wordOf rows x).drop o).length=(wordOf rows x).length - o:=La ..
 have hk:=w6 (rows:=rows) (shown:=(wordOf rows x).drop o) (word:=word) (p:=0) (k:=n - 1) (by rw[hd];omega) (by show n - 1+1<=n;omega) (by show 0=n - 1 - (n - 1);omega)
 refine .nx (ah (ax 7 nd (d:=kJ (jB rows word x o)) (aN xa aZ hr (ae (aa 4 rfl) (ae (aN rb aZ hr (ae (dc (k:=o) (aa 5 rfl) (aa 6 rfl) (by omega) (by omega)) (ae (aa 1 rfl) (ae af (ae (aa 2 rfl) ai)))) ⟨(wordOf rows x).drop o,word,0,kds,kF rows word,rfl,⟨fun y hy=>by have hy:=Mq hy;rw[ew] at hy;exact lQ ok (ok.wo q hq y hy),fun y hy=>lQ ok (hw y hy)⟩,⟨by rw[hd];omega,by omega,by omega⟩,hk,rfl⟩) ai)) ⟨x,led,rfl,ze,rfl⟩))
   (aq (lp (ds:=cL rows word (cs.take j) ++ (Lp o).map (zo rows word x)) 3 (d:=zo rows word x o) (ij (ae (aa 4 rfl) (ae (aa 6 rfl) (ae (aA (ds:=[.int ((jB rows word x o).1:Nat),oD (jB rows word x o).2]) (aa 7 rfl) af rfl) (ae (aA (ds:=[.int ((jB rows word x o).1:Nat),oD (jB rows word x o).2]) (aa 7 rfl) af rfl) ai)))) AA3) (by rw[Lz,Bn,Lo];exact K2 (show(cL rows word (cs.take j)).length+o < 2000 by omega) (by decide))))) (Le.of ⟨rfl,rfl,rfl,?_,rfl,rfl,trivial⟩)
 show Slot.own (.lst (cL rows word (cs.take j) ++ (Lp (o+1)).map (zo rows word x)))=_
 rw[List.range_succ,LQ,<- List.append_assoc];rfl
theorem e6:∀ (x y:List Nat),x.take (bh x y)=y.take (bh x y)
 | [],y=>by simp[bh]
 | a::x,[]=>by simp[bh]
 | a::x,b::y=>by
   unfold bh
   split
   . rename_i e
     subst e
     rw[List.take_succ_cons,List.take_succ_cons,e6 x y]
   . rfl
theorem nc:∀ {x y z:List Nat},x <+: z->y <+: z->bh x y=min x.length y.length
 | [],y,z,_,_=>by simp[bh]
 | a::x,[],z,_,_=>by simp[bh]
 | a::x,b::y,z,h1,h2=>by
   cases z with
   | nil=>exact absurd h1 (by simp)
   | cons c z=>
     obtain⟨e1,g1⟩:=List.cons_prefix_cons.mp h1
     obtain⟨e2,g2⟩:=List.cons_prefix_cons.mp h2
     subst e1 e2
     unfold bh
     rw[if_pos rfl,nc g1 g2]
     simp only[Lr];omega
structure oJ (rows:List Row)(W:List Nat)(b:Nat)(v:FL):Prop where
 le:v.1<=W.length
 so:v.1=W.length->v.2.isSome=true
 sh:∀ l,v.2=some l->W.drop b <+: grow rows l/\∀ y∈l,y∈rows.map (·.c)
theorem iJ {rows:List Row}{W shown:List Nat}{p:Nat}{onw:Nat->FL}(hp:p<=W.length)(hs:0 < shown.length\/p=W.length)(h:∀ b,p < b\/b=W.length->b<=W.length->oJ rows W b (onw b)):(au shown W p onw).1<=W.length/\((au shown W p onw).1=W.length->(au shown W p onw).2.isSome=true)/\∀ l,(au shown W p onw).2=some l->W.drop p <+: shown ++ grow rows l/\∀ y∈l,y∈rows.map (·.c):=by
 have hm:=dw shown (W.drop p)
 rw[La] at hm
 have ht:=e6 shown (W.drop p)
 unfold au
 generalize bh shown (W.drop p)=q at hm ht
 split
 . rename_i hc
   have hi:=h (p+q) (by omega) (by omega)
   refine⟨hi.le,hi.so,fun l hl=>⟨?_,(hi.sh l hl).2⟩⟩
   by_cases hq:q=shown.length
   . have Du:=(hi.sh l hl).1
     subst hq
     rw[LP] at ht
     have e:W.drop p=shown ++ W.drop (p+shown.length):=by
       conv=>lhs;rw[<- MB shown.length (W.drop p)]
       rw[<- ht,MN]
     rw[e]
     exact(Mn _).mpr Du
   . have e:W.drop p=shown.take q:=by
       rw[ht,L5 (by rw[La];omega)]
     rw[e]
     exact(List.take_prefix _ _).trans (List.prefix_append _ _)
 . rename_i hc
   exact⟨show p+q<=W.length by omega,fun e=>absurd (show p+q=W.length from e) (by omega),fun l hl=>by cases hl⟩
theorem xc {rows:List Row}{W shown e:List Nat}{p:Nat}{onw:Nat->FL}(hp:p<=W.length)(Du:0 < shown.length)(iX:W.drop p <+: shown ++ grow rows e)(hn:(onw W.length).1=W.length)(h:∀ b,p < b->b<=W.length->W.drop b <+: grow rows e->(onw b).1=W.length):(au shown W p onw).1=W.length:=by
 have ha:=nc (List.prefix_append shown (grow rows e)) iX
 rw[La] at ha
 unfold au
 rw[ha]
 by_cases hl:shown.length<=W.length - p
 . have e1:min shown.length (W.length - p)=shown.length:=by omega
   rw[e1,if_pos (.inr rfl)]
   refine h _ (by omega) (by omega) ?_
   have e:W.drop p=shown ++ W.drop (p+shown.length):=by
     have ht:=e6 shown (W.drop p)
     rw[ha,e1,LP] at ht
     conv=>lhs;rw[<- MB shown.length (W.drop p)]
     rw[<- ht,MN]
   rw[e] at iX
   exact(Mn _).mp iX
 . have e1:p+min shown.length (W.length - p)=W.length:=by omega
   rw[e1,if_pos (.inl rfl)]
   exact hn
theorem cE (rows:List Row)(x:Nat)(l:List Nat):grow rows (x::l)=wordOf rows x ++ grow rows l:=by
 unfold grow;rw[Lv,LN]
theorem sZ {rows:List Row}{W:List Nat}{p x:Nat}{v:FL}(hx:x∈rows.map (·.c))(h1:v.1<=W.length)(h2:v.1=W.length->v.2.isSome=true)(h3:∀ l,v.2=some l->W.drop p <+: wordOf rows x ++ grow rows l/\∀ y∈l,y∈rows.map (·.c)):oJ rows W p (begun x v):=by
 obtain⟨f,o⟩:=v
 cases o with
 | none=>exact⟨h1,fun e=>h2 e,fun l hl=>by cases hl⟩
 | some l=>
   refine⟨h1,fun _=>rfl,fun m hm=>?_⟩
   have hm:x::l=m:=Option.some.inj hm
   subst hm
   refine⟨by rw[cE];exact(h3 l rfl).1,fun y hy=>?_⟩
   rcases K4.mp hy with rfl | hy
   . exact hx
   . exact(h3 l rfl).2 y hy
theorem oK {rows:List Row}(ok:aH rows){W:List Nat}{p:Nat}{onw:Nat->FL}(hp:p < W.length)(h:∀ b,p < b\/b=W.length->b<=W.length->oJ rows W b (onw b)){cs:List Nat}(Ex:∀ x∈cs,x∈rows.map (·.c)):oJ rows W p (best rows W p onw cs)/\∀ x∈cs,(au (wordOf rows x) W p onw).1<=(best rows W p onw cs).1:=by
 unfold best
 have gen:∀ (cs:List Nat) (b0:FL),(∀ x∈cs,x∈rows.map (·.c))->oJ rows W p b0->oJ rows W p (cs.foldl (fun b x=>if b.1 < (au (wordOf rows x) W p onw).1 then begun x (au (wordOf rows x) W p onw) else b) b0)/\b0.1<=(cs.foldl (fun b x=>if b.1 < (au (wordOf rows x) W p onw).1 then begun x (au (wordOf rows x) W p onw) else b) b0).1/\∀ x∈cs,(au (wordOf rows x) W p onw).1<=(cs.foldl (fun b x=>if b.1 < (au (wordOf rows x) W p onw).1 then begun x (au (wordOf rows x) W p onw) else b) b0).1:=by
   intro cs
   induction cs with
   | nil=>exact fun b0 _ h0=>⟨h0,G1 _,fun x hx=>by cases hx⟩
   | cons x cs ih=>
     intro b0 hc h0
     have hx:=hc x (Lu ..)
     obtain⟨q,hq,_,_,ew⟩:=bt hx
     have Ck:=ok.wp q hq
     obtain⟨a1,a2,a3⟩:=iJ (rows:=rows) (W:=W) (shown:=wordOf rows x) (p:=p) (onw:=onw) (by omega) (.inl (by rw[ew];omega)) h
     have hb:=sZ hx a1 a2 a3
     by_cases bM:b0.1 < (au (wordOf rows x) W p onw).1
     . obtain⟨i1,i2,i3⟩:=ih (begun x (au (wordOf rows x) W p onw)) (fun y hy=>hc y (KY _ hy)) hb
       rw[Mw,if_pos bM]
       have e:(begun x (au (wordOf rows x) W p onw)).1=(au (wordOf rows x) W p onw).1:=rfl
       refine⟨i1,by omega,fun y hy=>?_⟩
       rcases K4.mp hy with rfl | hy
       . omega
       . exact i3 y hy
     . obtain⟨i1,i2,i3⟩:=ih b0 (fun y hy=>hc y (KY _ hy)) h0
       rw[Mw,if_neg bM]
       refine⟨i1,i2,fun y hy=>?_⟩
       rcases K4.mp hy with rfl | hy
       . omega
       . exact i3 y hy
 obtain⟨i1,_,i3⟩:=gen cs (p,none) Ex ⟨by show p<=_;omega,fun e=>absurd (show p=W.length from e) (by omega),fun l hl=>by cases hl⟩
 exact⟨i1,i3⟩
theorem jC {rows:List Row}{W:List Nat}{k b:Nat}(h:W.length - b<=k):bJ rows W (k+1) b=bJ rows W k b:=by
 unfold bJ
 show(vs rows W k ++ [_]).getD _ oF=_
 exact Cj (by rw[eB];omega)
theorem rg {rows:List Row}{W:List Nat}{k:Nat}(h:k+1<=W.length):bJ rows W (k+1) (W.length - 1 - k)=best rows W (W.length - 1 - k) (bJ rows W k) (rows.map (·.c)):=by
 unfold bJ
 show(vs rows W k ++ [_]).getD _ oF=_
 rw[zi (by rw[eB];omega),eB,show W.length - (W.length - 1 - k) - (k+1)=0 by omega];rfl
theorem eD (rows:List Row)(W:List Nat):∀ k,bJ rows W k W.length=(W.length,some [])
 | 0=>by unfold bJ;rw[Nat.sub_self];rfl
 | k+1=>by rw[jC (by omega),eD rows W k]
theorem fN {rows:List Row}(ok:aH rows){W:List Nat}(h0:0 < W.length):∀ k,k < W.length->∀ b,W.length - k<=b->b<=W.length->oJ rows W b (bJ rows W k b)/\∀ e,(∀ y∈e,y∈rows.map (·.c))->W.drop b <+: grow rows e->(bJ rows W k b).1=W.length
 | k,hk,b,hb,Cn=>by
   by_cases rF:b=W.length
   . subst rF
     rw[eD]
     exact⟨⟨G1 _,fun _=>rfl,fun l hl=>by
       have hl:[]=l:=Option.some.inj hl
       subst hl
       exact⟨by rw[List.drop_length];exact List.nil_prefix,fun y hy=>by cases hy⟩⟩,fun _ _ _=>rfl⟩
   . cases k with
     | zero=>omega
     | succ k=>
       by_cases hold:W.length - b<=k
       . rw[jC hold]
         exact fN ok h0 k (by omega) b (by omega) Cn
       . have Hn:b=W.length - 1 - k:=by omega
         subst Hn
         rw[rg (by omega)]
         have Cg:∀ c,W.length - 1 - k < c\/c=W.length->c<=W.length->oJ rows W c (bJ rows W k c):=fun c hc xf=>(fN ok h0 k (by omega) c (by omega) xf).1
         obtain⟨i1,i2⟩:=oK ok (W:=W) (p:=W.length - 1 - k) (onw:=bJ rows W k) (by omega) Cg (cs:=rows.map (·.c)) (fun x h=>h)
         refine⟨i1,fun e he iX=>?_⟩
         cases e with
         | nil=>
           have:(W.drop (W.length - 1 - k)).length<=0:=iX.length_le
           rw[La] at this
           omega
         | cons y e=>
           have hy:=he y (Lu ..)
           obtain⟨q,hq,_,_,ew⟩:=bt hy
           have Ck:=ok.wp q hq
           rw[cE] at iX
           have:=xc (rows:=rows) (W:=W) (shown:=wordOf rows y) (e:=e) (p:=W.length - 1 - k) (onw:=bJ rows W k) (by omega) (by rw[ew];omega) iX (by rw[eD]) fun c hc xf hp=>(fN ok h0 k (by omega) c (by omega) xf).2 e (fun z hz=>he z (KY _ hz)) hp
           have:=i2 y hy
           have:=i1.le
           omega
theorem e9 (a b:Nat)(x y:List Nat):bh (a::x) (b::y)=if a=b then bh x y+1 else 0:=rfl
theorem zp (y:List Nat):bh [] y=0:=by simp[bh]
theorem oM:∀ {x z y:List Nat},bh x y=x.length->bh (x ++ z) y=x.length+bh z (y.drop x.length)
 | [],z,y,_=>by simp
 | a::x,z,[],h=>by simp[bh] at h
 | a::x,z,b::y,h=>by
   rw[e9] at h
   by_cases e:a=b
   . rw[if_pos e,Lr] at h
     rw[List.cons_append,e9,if_pos e,oM (x:=x) (z:=z) (y:=y) (by omega),Lr,List.drop_succ_cons];omega
   . rw[if_neg e,Lr] at h;omega
theorem oN:∀ {x z y:List Nat},bh x y < x.length->bh (x ++ z) y=bh x y
 | [],z,y,h=>by simp at h
 | a::x,z,[],h=>by simp[bh]
 | a::x,z,b::y,h=>by
   rw[e9] at h
   rw[List.cons_append,e9,e9]
   by_cases e:a=b
   . rw[if_pos e,Lr] at h
     rw[if_pos e,if_pos e,oN (x:=x) (z:=z) (y:=y) (by omega)]
   . rw[if_neg e,if_neg e]
theorem zr {x y:List Nat}(h:bh x y=y.length):y <+: x:=by
 have t:=e6 x y
 rw[h,LP] at t
 rw[<- t];exact List.take_prefix _ _
theorem xg {x y:List Nat}(h:y <+: x):bh x y=y.length:=by
 rw[nc (List.prefix_refl x) h]
 have:=h.length_le
 omega
structure xh (rows:List Row)(W:List Nat)(b:Nat)(v:FL):Prop where
 Ks:∀ e,(∀ y∈e,y∈rows.map (·.c))->b+bh (grow rows e) (W.drop b)<=v.1
 min:∀ l,v.2=some l->(b=W.length/\l=[])\/(l≠[]/\¬ W.drop b <+: grow rows l.dropLast)
theorem oO {rows:List Row}{W shown:List Nat}{p:Nat}{onw:Nat->FL}(hp:p<=W.length)(hs:0 < shown.length)(hn:(onw W.length).1=W.length)(h:∀ b,p < b->b<=W.length->xh rows W b (onw b)){e:List Nat}(he:∀ y∈e,y∈rows.map (·.c)):p+bh (shown ++ grow rows e) (W.drop p)<=(au shown W p onw).1:=by
 have hm:=dw shown (W.drop p)
 rw[La] at hm
 unfold au
 by_cases hq:bh shown (W.drop p)=shown.length
 . rw[oM hq,if_pos (.inr (by rw[hq])),hq,MN]
   have:=(h (p+shown.length) (by omega) (by omega)).Ks e he
   omega
 . rw[oN (by omega)]
   generalize bh shown (W.drop p)=q at hm hq
   by_cases hc:p+q=W.length
   . rw[if_pos (.inl hc),hc,hn];exact G1 _
   . rw[if_neg (by omega)];exact G1 _
theorem oP {rows:List Row}{W shown:List Nat}{p:Nat}{onw:Nat->FL}(hp:p<=W.length)(hs:0 < shown.length)(hn:onw W.length=(W.length,some []))(h:∀ b,p < b->b<=W.length->xh rows W b (onw b)){l:List Nat}(hl:(au shown W p onw).2=some l):l=[]\/(l≠[]/\¬ W.drop p <+: shown ++ grow rows l.dropLast):=by
 have hm:=dw shown (W.drop p)
 rw[La] at hm
 have ht:=e6 shown (W.drop p)
 unfold au at hl
 generalize bh shown (W.drop p)=q at hm ht hl
 by_cases hc:p+q=W.length
 . rw[if_pos (.inl hc),hc,hn] at hl
   exact .inl (Option.some.inj hl).symm
 . by_cases hq:q=shown.length
   . subst hq
     rw[if_pos (.inr rfl)] at hl
     rcases (h (p+shown.length) (by omega) (by omega)).min l hl with z | ⟨z1,z2⟩
     . exact absurd z.1 hc
     . refine .inr ⟨z1,fun z=>z2 ?_⟩
       rw[LP] at ht
       have e:W.drop p=shown ++ W.drop (p+shown.length):=by
         conv=>lhs;rw[<- MB shown.length (W.drop p)]
         rw[<- ht,MN]
       rw[e] at z
       exact(Mn _).mp z
   . rw[if_neg (by omega)] at hl;cases hl
theorem iK {x:Nat}{l:List Nat}(h:l≠[]):(x::l).dropLast=x::l.dropLast:=by
 cases l with
 | nil=>exact absurd rfl h
 | cons y l=>rfl
theorem tf {rows:List Row}{W:List Nat}{p x:Nat}{v:FL}(hp:p < W.length)(h:∀ l,v.2=some l->l=[]\/(l≠[]/\¬ W.drop p <+: wordOf rows x ++ grow rows l.dropLast)){m:List Nat}(hm:(begun x v).2=some m):m≠[]/\¬ W.drop p <+: grow rows m.dropLast:=by
 obtain⟨f,o⟩:=v
 cases o with
 | none=>cases hm
 | some l=>
   have hm:x::l=m:=Option.some.inj hm
   subst hm
   refine⟨List.cons_ne_nil _ _,fun z=>?_⟩
   rcases h l rfl with e | ⟨e1,e2⟩
   . subst e
     have:(W.drop p).length<=0:=z.length_le
     rw[La] at this
     omega
   . rw[iK e1,cE] at z
     exact e2 z
theorem ti {rows:List Row}(ok:aH rows){W:List Nat}{p:Nat}{onw:Nat->FL}(hp:p < W.length)(hn:onw W.length=(W.length,some []))(h:∀ b,p < b->b<=W.length->xh rows W b (onw b)){cs:List Nat}(Ex:∀ x∈cs,x∈rows.map (·.c)){m:List Nat}(hm:(best rows W p onw cs).2=some m):m≠[]/\¬ W.drop p <+: grow rows m.dropLast:=by
 have gen:∀ (cs:List Nat) (b0:FL),(∀ x∈cs,x∈rows.map (·.c))->(∀ m,b0.2=some m->m≠[]/\¬ W.drop p <+: grow rows m.dropLast)->∀ m,(cs.foldl (fun b x=>if b.1 < (au (wordOf rows x) W p onw).1 then begun x (au (wordOf rows x) W p onw) else b) b0).2=some m->m≠[]/\¬ W.drop p <+: grow rows m.dropLast:=by
   intro cs
   induction cs with
   | nil=>exact fun b0 _ h0=>h0
   | cons x cs ih=>
     intro b0 hc h0
     have hx:=hc x (Lu ..)
     obtain⟨q,hq,_,_,ew⟩:=bt hx
     have Ck:=ok.wp q hq
     rw[Mw]
     refine ih _ (fun y hy=>hc y (KY _ hy)) ?_
     split
     . exact fun m hm=>tf hp (fun l hl=>oP (by omega) (by rw[ew];omega) hn h hl) hm
     . exact h0
 exact gen cs (p,none) Ex (fun m hm=>by cases hm) m hm
theorem g6 {rows:List Row}(ok:aH rows){W:List Nat}(h0:0 < W.length):∀ k,k < W.length->∀ b,W.length - k<=b->b<=W.length->xh rows W b (bJ rows W k b)
 | k,hk,b,hb,Cn=>by
   by_cases rF:b=W.length
   . subst rF
     rw[eD]
     refine⟨fun e _=>?_,fun l hl=>.inl ⟨rfl,(Option.some.inj hl).symm⟩⟩
     have:=dw (grow rows e) (W.drop W.length)
     rw[List.drop_length] at this ⊢
     simp only[List.length_nil] at this
     show W.length+_<=W.length
     omega
   . cases k with
     | zero=>omega
     | succ k=>
       by_cases hold:W.length - b<=k
       . rw[jC hold]
         exact g6 ok h0 k (by omega) b (by omega) Cn
       . have Hn:b=W.length - 1 - k:=by omega
         subst Hn
         rw[rg (by omega)]
         have hn:bJ rows W k W.length=(W.length,some []):=eD _ _ _
         have Cg:∀ c,W.length - 1 - k < c->c<=W.length->xh rows W c (bJ rows W k c):=fun c hc xf=>g6 ok h0 k (by omega) c (by omega) xf
         obtain⟨_,i2⟩:=oK ok (W:=W) (p:=W.length - 1 - k) (onw:=bJ rows W k) (by omega) (fun c hc xf=>(fN ok h0 k (by omega) c (by omega) xf).1) (cs:=rows.map (·.c)) (fun x h=>h)
         refine⟨fun e he=>?_,fun l hl=>.inr (ti ok (by omega) hn Cg (fun x h=>h) hl)⟩
         have one:∀ y∈rows.map (·.c),∀ e:List Nat,(∀ y∈e,y∈rows.map (·.c))->W.length - 1 - k+bh (wordOf rows y ++ grow rows e) (W.drop (W.length - 1 - k))<=(best rows W (W.length - 1 - k) (bJ rows W k) (rows.map (·.c))).1:=fun y hy e he=>by
           obtain⟨q,hq,_,_,ew⟩:=bt hy
           have Ck:=ok.wp q hq
           have:=oO (rows:=rows) (W:=W) (shown:=wordOf rows y) (p:=W.length - 1 - k) (onw:=bJ rows W k) (by omega) (by rw[ew];omega) (by rw[hn]) Cg he
           exact LA this (i2 y hy)
         cases e with
         | nil=>
           have Ho:=ok.pos
           have hm:(rows.map (·.c))[0]'(by rw[Bn];exact Ho)∈rows.map (·.c):=LI _
           have:=one _ hm [] (fun y hy=>by cases hy)
           rw[show grow rows []=[] from rfl,zp];omega
         | cons y e=>
           rw[cE]
           exact one y (he y (Lu ..)) e fun z hz=>he z (KY _ hz)
theorem zt {rows:List Row}(ok:aH rows){W:List Nat}(h0:0 < W.length){x o:Nat}{e:List Nat}(ho:o < (wordOf rows x).length)(he:∀ y∈e,y∈rows.map (·.c)):bh ((grow rows (x::e)).drop o) W<=(jB rows W x o).1:=by
 have hd:((wordOf rows x).drop o).length=(wordOf rows x).length - o:=La ..
 have h:=oO (rows:=rows) (W:=W) (shown:=(wordOf rows x).drop o) (p:=0) (onw:=kF rows W) (by omega) (by rw[hd];omega) (by show(bJ rows W _ W.length).1=_;rw[eD]) (fun b hb Cn=>g6 ok h0 (W.length - 1) (by omega) b (by omega) Cn) he
 rw[cE,List.drop_append_of_le_length (by omega)]
 rw[MA,Nat.zero_add] at h
 exact h
theorem zu {rows:List Row}(ok:aH rows){W:List Nat}(h0:0 < W.length){x o:Nat}{l:List Nat}(hx:x∈rows.map (·.c))(ho:o < (wordOf rows x).length)(hl:(jB rows W x o).2=some l):∃ m,l=x::m/\(∀ y∈l,y∈rows.map (·.c))/\bh ((grow rows l).drop o) W=W.length/\(l.length=1\/bh ((grow rows l.dropLast).drop o) W < W.length):=by
 have hd:((wordOf rows x).drop o).length=(wordOf rows x).length - o:=La ..
 have ed:∀ l,(grow rows (x::l)).drop o=(wordOf rows x).drop o ++ grow rows l:=fun l=>by
   rw[cE,List.drop_append_of_le_length (by omega)]
 have hi:=fN ok h0 (W.length - 1) (by omega)
 obtain⟨_,_,a3⟩:=iJ (rows:=rows) (W:=W) (shown:=(wordOf rows x).drop o) (p:=0) (onw:=kF rows W) (by omega) (.inl (by rw[hd];omega)) fun c hc xf=>(hi c (by omega) xf).1
 have a4:=fun l hl=>oP (rows:=rows) (W:=W) (shown:=(wordOf rows x).drop o) (p:=0) (onw:=kF rows W) (l:=l) (by omega) (by rw[hd];omega) (eD _ _ _) (fun b hb Cn=>g6 ok h0 (W.length - 1) (by omega) b (by omega) Cn) hl
 unfold jB at hl
 generalize au ((wordOf rows x).drop o) W 0 (kF rows W)=v at hl a3 a4
 obtain⟨f,ol⟩:=v
 cases ol with
 | none=>cases hl
 | some m=>
   have hm:x::m=l:=Option.some.inj hl
   subst hm
   obtain⟨b1,b2⟩:=a3 m rfl
   rw[MA] at b1
   refine⟨m,rfl,fun y hy=>?_,xg (by rw[ed];exact b1),?_⟩
   . rcases K4.mp hy with rfl | hy
     . exact hx
     . exact b2 y hy
   . rcases a4 m rfl with e | ⟨e1,e2⟩
     . subst e;exact .inl rfl
     . refine .inr ?_
       rw[iK e1,ed]
       rw[MA] at e2
       have hle:=dw ((wordOf rows x).drop o ++ grow rows m.dropLast) W
       have:bh ((wordOf rows x).drop o ++ grow rows m.dropLast) W≠W.length:=fun z=>e2 (zr z)
       omega
theorem w8 {rows:List Row}(ok:aH rows){x:Nat}(h:x∈rows.map (·.c)):0 < (wordOf rows x).length/\(wordOf rows x).length<=8:=by
 obtain⟨q,hq,_,_,ew⟩:=bt h
 rw[ew];exact ok.wp q hq
theorem xi {rows:List Row}{W:List Nat}:∀ k b,(bJ rows W k b).2.isSome=true->(bJ rows W k b).1=W.length:=by
 have led:∀ (shown:List Nat) p (onw:Nat->FL),(∀ b,(onw b).2.isSome=true->(onw b).1=W.length)->(au shown W p onw).2.isSome=true->(au shown W p onw).1=W.length:=fun shown p onw h=>by
   unfold au
   split
   . exact h _
   . intro e;cases e
 have Kt:∀ p (onw:Nat->FL),(∀ b,(onw b).2.isSome=true->(onw b).1=W.length)->∀ (cs:List Nat) (b0:FL),(b0.2.isSome=true->b0.1=W.length)->(cs.foldl (fun b x=>if b.1 < (au (wordOf rows x) W p onw).1 then begun x (au (wordOf rows x) W p onw) else b) b0).2.isSome=true->(cs.foldl (fun b x=>if b.1 < (au (wordOf rows x) W p onw).1 then begun x (au (wordOf rows x) W p onw) else b) b0).1=W.length:=by
   intro p onw h cs
   induction cs with
   | nil=>exact fun b0 h0=>h0
   | cons x cs ih=>
     intro b0 h0
     rw[Mw]
     refine ih _ ?_
     split
     . intro e
       refine led _ _ _ h ?_
       show(au (wordOf rows x) W p onw).2.isSome=true
       cases hv:(au (wordOf rows x) W p onw).2 with
       | none=>
         have e:((au (wordOf rows x) W p onw).2.map (x::·)).isSome=true:=e
         rw[hv] at e;cases e
       | some l=>rfl
     . exact h0
 intro k
 induction k with
 | zero=>
   intro b h
   unfold bJ at h ⊢
   show([(W.length,some [])].getD (W.length - b) oF).1=_
   have h:([(W.length,some [])].getD (W.length - b) oF).2.isSome=true:=h
   cases hz:W.length - b with
   | zero=>rfl
   | succ z=>rw[hz] at h;cases h
 | succ k ih=>
   intro b h
   by_cases hb:W.length - b<=k
   . rw[jC hb] at h ⊢;exact ih b h
   . have e:bJ rows W (k+1) b=[best rows W (W.length - 1 - k) (bJ rows W k) (rows.map (·.c))].getD (W.length - b - (k+1)) oF:=by
       unfold bJ
       show(vs rows W k ++ [_]).getD _ oF=_
       rw[zi (by rw[eB];omega),eB]
     rw[e] at h ⊢
     cases hz:W.length - b - (k+1) with
     | zero=>
       rw[hz] at h
       exact Kt _ _ ih _ (W.length - 1 - k,none) (fun z=>by cases z) h
     | succ z=>rw[hz] at h;cases h
def tm:Rl:=fun ds r=>∃ a b:List Nat,ds=[.str (tx a),.str (tx b)]/\(a.length<=1000/\b.length<=1000)/\r=.ret (.int (bh a b:Nat))
noncomputable def Ku:Stmt->Expr
 | .While c _ _ _=>c
 | _=>.Constant .none 0 ⟨0,0,0,0⟩
theorem kG (T:Txt K mg t):GF P w K mg base CX 1 "_law_agreed" 2 tm:=by
 refine⟨_,_,_,jY T.da.F km rfl fun bj A outer s H E G ds r hr hl hR=>?_,(T.g T.da.a),T.da.F.kp,T.da.b⟩
 obtain⟨a,b,rfl,⟨Ko,Kq⟩,rfl⟩:=hR
 have nd:=km.nd
 have hle:=dw a b
 let S:Nat->List Slot:=fun k=>[.val (.str (tx a)),.val (.str (tx b)),.val (.int (k:Nat))]
 let c:Nat->Bool:=fun k=>decide ((k:Int) < (a.length:Nat)) && (decide ((k:Int) < (b.length:Nat)) && decide (tx [a.getD k 0]=tx [b.getD k 0]))
 have hc:∀ k:Nat,EB (l4 CX P w K mg base lI "_law_agreed" (ag dM) t.dO bj A outer s H E) G (S k) (Ku ((aD dM).getD 1 (.Pass ⟨0,0,0,0⟩))) (c k):=fun k=>by
   refine kP (ig (uV (aa 2 rfl) (aJ T.bf (aa 0 rfl) (by omega))) fun h1=>ig (uV (aa 2 rfl) (aJ T.bf (aa 1 rfl) (by omega))) fun h2=>ml (uX (eu (aa 0 rfl) (aa 2 rfl) ?_ (by omega)) (eu (aa 1 rfl) (aa 2 rfl) ?_ (by omega))))
   . have:=of_decide_eq_true h1;omega
   . have:=of_decide_eq_true h2;omega
 refine⟨_,.rt _,ah (ax 2 nd af) (ah (vc S (bh a b) PassesOwn.leaving (Le.of ⟨rfl,rfl,rfl,trivial⟩) (fun k hk=>bN (hc k) ?_) (bN (hc (bh a b)) ?_) (fun k hk=>?_)) (aq (aY (aa 2 rfl))))⟩
 . show(decide ((k:Int) < (a.length:Nat)) && (decide ((k:Int) < (b.length:Nat)) && decide (tx [a.getD k 0]=tx [b.getD k 0])))=true
   rw[decide_eq_true (show(k:Int) < (a.length:Nat) by omega),decide_eq_true (show(k:Int) < (b.length:Nat) by omega),decide_eq_true (show tx [a.getD k 0]=tx [b.getD k 0] by rw[m6 hk])];rfl
 . show(decide (((bh a b:Nat):Int) < (a.length:Nat)) && (decide (((bh a b:Nat):Int) < (b.length:Nat)) && decide (tx [a.getD (bh a b) 0]=tx [b.getD (bh a b) 0])))=false
   by_cases h:bh a b < min a.length b.length
   . rw[decide_eq_false (show ¬ tx [a.getD (bh a b) 0]=tx [b.getD (bh a b) 0] from fun z=>p0 h (eZ z))];simp
   . by_cases h1:bh a b < a.length
     . rw[decide_eq_false (show ¬ ((bh a b:Nat):Int) < (b.length:Nat) by omega)];simp
     . rw[decide_eq_false (show ¬ ((bh a b:Nat):Int) < (a.length:Nat) by omega)];simp
 . exact .nx (aq (ax 2 nd (b7 (aa 2 rfl) af))) (Le.of ⟨rfl,rfl,rfl,trivial⟩)
noncomputable abbrev Pr:=Nat×Nat
noncomputable def tP (rows:List Row)(cs:List Nat):List Pr:=(cs.map fun y=>(Lp (wordOf rows y).length).map fun o=>(y,o)).flatten
theorem xj (rows:List Row)(W:List Nat):∀ cs,cL rows W cs=(tP rows cs).map fun p=>zo rows W p.1 p.2
 | []=>rfl
 | y::cs=>by
   have ih:=xj rows W cs
   unfold cL tP at ih ⊢
   rw[Lv,LN,Lv,LN,LQ,ih,LB];rfl
theorem xk (L:List Nat){a b:Nat}(Ft:a<=b)(hb:b<=L.length):Txt.slice (tx L) (some (a:Int)) (some (b:Int))=tx ((L.drop a).take (b - a)):=by
 have h:=fJ (tx L) Ft (by rw[br];exact hb) (l:=some (a:Int)) (u:=some (b:Int)) rfl
 rw[h];rfl
def tq:Rl:=fun ds r=>∃ (rows:List Row) (e:List Nat),ds=[.cH (b9 fw rows),.str (tx e)]/\aH rows/\(∀ x∈e,x∈rows.map (·.c))/\e.length<=1000/\r=.ret (.str (tx (grow rows e)))
theorem gi (T:Txt K mg t):GF P w K mg base CX 1 "_law_grown" 2 tq:=by
 refine⟨_,_,_,jY T.fF.F v5 rfl fun bj A outer s H E G ds r hr hl hR=>?_,(T.g T.fF.a),T.fF.F.kp,T.fF.b⟩
 obtain⟨rows,e,rfl,ok,hw,hn,rfl⟩:=hR
 have hu:(A.deeper (envOfC "_law_grown" (ag fq) s.heap.objs.size t.gR bj)).units+1 < cLine:=by have:=hr.units;omega
 have hg:=dU ok hw
 exact⟨_,.rt _,aq (aY (lL (Ls:=e.map (wordOf rows)) cj (iH (sV rows e) (mH e (fun x=>Dt.str (sg x)) (fun x=>.str (tx (wordOf rows x))) (fun x=>[.val (.str (sg x))]) (fun _=>true) rfl (eI lN) (iu (aa 1 rfl)) (dF (eI lN) rfl) (cG (dG (fL ok hw)) (fK e)) (fun a _=>fm) (.nil fun _ _=>rfl)
     (fun a ha _ C fp s' H' G'=>ke hu (aa 1 rfl) (aa 0 rfl) (jA (hw a ha)) (fun _ _=>rfl)) (tN (by omega)))) (by rw[Bn];show(grow rows e).length+_<=_;omega)))⟩
theorem rh {rows:List Row}(ok:aH rows):∀ {w:List Nat},(∀ x∈w,x∈rows.map (·.c))->w.length<=(grow rows w).length
 | [],_=>LD _
 | x::w,h=>by
   have ih:=rh ok (w:=w) fun y hy=>h y (KY _ hy)
   obtain⟨q,hq,_,_,ew⟩:=bt (h x (Lu ..))
   have:=ok.wp q hq
   rw[cE,Lz,Lr,ew];omega
noncomputable def tu (ns:List Int):Nat:=(1+cellAt ns 3 % 12).toNat
theorem p9 (ns:List Int):(1:Int)+cellAt ns 3 % 12=((tu ns:Nat):Int)/\0 < tu ns/\tu ns<=12:=by
 have h0:=LM (cellAt ns 3) (show(12:Int)≠0 by decide)
 have h1:=LG (cellAt ns 3) (show(0:Int) < 12 by decide)
 unfold tu
 omega
noncomputable def zv (ns:List Int):Nat:=(cellAt ns 3 / 48 % 8).toNat
theorem xl (ns:List Int):cellAt ns 3 / 48 % 8=((zv ns:Nat):Int)/\zv ns<=7:=by
 have h0:=LM (cellAt ns 3 / 48) (show(8:Int)≠0 by decide)
 have h1:=LG (cellAt ns 3 / 48) (show(0:Int) < 8 by decide)
 unfold zv
 omega
noncomputable def EC (rows:List Row)(L:List Nat)(ns:List Int):List Nat:=((grow rows (cT L (cellAt ns 4) 20)).drop (zv ns)).take (zv ns+tu ns - zv ns)
theorem ED {rows:List Row}(ok:aH rows)(ns:List Int)(hL:0 < (rows.map (·.c)).length):20<=(grow rows (cT (rows.map (·.c)) (cellAt ns 4) 20)).length/\(grow rows (cT (rows.map (·.c)) (cellAt ns 4) 20)).length<=160:=by
 obtain⟨h1,h2⟩:=cx hL (cellAt ns 4) 20
 have a:=rh ok h2
 have b:=dU ok h2
 rw[h1] at a b
 exact⟨a,b⟩
theorem Co {rows:List Row}(ok:aH rows)(ns:List Int)(hL:0 < (rows.map (·.c)).length):(EC rows (rows.map (·.c)) ns).length=tu ns:=by
 have h:=ED ok ns hL
 have h2:=(xl ns).2
 have h3:=(p9 ns).2
 unfold EC
 rw[LC,La];omega
theorem Cp {rows:List Row}(ok:aH rows){W:List Nat}(h0:0 < W.length){x o:Nat}(ho:o < (wordOf rows x).length):(jB rows W x o).1<=W.length/\((jB rows W x o).1=W.length ↔ (jB rows W x o).2.isSome=true):=by
 have hd:((wordOf rows x).drop o).length=(wordOf rows x).length - o:=La ..
 have hi:=fN ok h0 (W.length - 1) (by omega)
 obtain⟨a1,a2,_⟩:=iJ (rows:=rows) (W:=W) (shown:=(wordOf rows x).drop o) (p:=0) (onw:=kF rows W) (by omega) (.inl (by rw[hd];omega)) fun c hc xf=>(hi c (by omega) xf).1
 have e2:(jB rows W x o).2.isSome=(au ((wordOf rows x).drop o) W 0 (kF rows W)).2.isSome:=by
   unfold jB begun
   cases (au ((wordOf rows x).drop o) W 0 (kF rows W)).2 <;> rfl
 refine⟨a1,fun h=>by rw[e2];exact a2 h,fun h=>?_⟩
 rw[e2] at h
 show(au ((wordOf rows x).drop o) W 0 (kF rows W)).1=_
 unfold au at h ⊢
 split
 . rename_i hc
   rw[if_pos hc] at h
   exact xi _ _ h
 . rename_i hc
   rw[if_neg hc] at h;cases h
theorem ri {rows:List Row}(ok:aH rows):∀ {cs:List Nat},(∀ x∈cs,x∈rows.map (·.c))->(tP rows cs).length<=8 * cs.length
 | [],_=>LD _
 | x::cs,h=>by
   have ih:=ri ok (cs:=cs) fun y hy=>h y (KY _ hy)
   have:=w8 ok (h x (Lu ..))
   unfold tP at ih ⊢
   rw[Lv,LN,Lz,Bn,Lo,Lr]
   omega
theorem xm {rows:List Row}{cs:List Nat}{p:Pr}(h:p∈tP rows cs):p.1∈cs/\p.2 < (wordOf rows p.1).length:=by
 obtain⟨l,hl,hp⟩:=List.mem_flatten.mp h
 obtain⟨y,hy,rfl⟩:=LK.mp hl
 obtain⟨o,ho,rfl⟩:=LK.mp hp
 exact⟨hy,LU.mp ho⟩
noncomputable def dg (rows:List Row)(L:List Nat)(ns:List Int):List Nat:=if cellAt ns 3 / 12 % 4=0 then cT L (cellAt ns 4) (tu ns) else EC rows L ns
theorem tw {rows:List Row}(ok:aH rows)(ns:List Int)(hL:0 < (rows.map (·.c)).length):(0 < (dg rows (rows.map (·.c)) ns).length/\(dg rows (rows.map (·.c)) ns).length<=12)/\∀ x∈dg rows (rows.map (·.c)) ns,x∈rows.map (·.c):=by
 have h:=(p9 ns).2
 have hc:=Co ok ns hL
 have hm:∀ x∈EC rows (rows.map (·.c)) ns,x∈rows.map (·.c):=fun x hx=>wW ok (cx hL _ _).2 x (Mq (MI hx))
 unfold dg
 split
 . exact⟨by rw[(cx hL _ _).1];omega,(cx hL _ _).2⟩
 . exact⟨by omega,hm⟩
def xn:Rl:=fun ds r=>∃ (rows:List Row) (L:List Nat) (ns:List Int),ds=[.str (tx L),.cH (b9 fw rows),.fQ ns]/\aH rows/\L=rows.map (·.c)/\r=.ret (.str (tx (dg rows L ns)))
noncomputable def Cq:Stmt->Scope
 | .Return (some (.ListComp _ _ sc _)) _=>sc
 | _=>default
noncomputable def Cr:Stmt->Scope
 | .If (.BoolOp _ [_,_,.UnaryOp _ (.Call _ [.ListComp _ _ sc _] _ _) _] _) _ _ _=>sc
 | _=>default
section
variable {X:Cx}{G:Gr}{dl:List Slot}{a i o:Expr}{d:Dt}{u:Bool}{pos:Pos}{k:Str}{kds:List (Key×Dt)}
theorem rj {jk:Nat}{pq:Pos}(hd:wQ d u)(ha:EE X G dl a d):EE X G dl (.Compare a [.IsNot] [.Constant .none jk pq] pos) (.bl (!u)):=
 cy (tW (qe ha)) fun st H Q zq=>k3 zq fun Hf zq=>have S:=zq.1;have k:=zq.2;⟨Hf,S,fun v Hf1 H1 g1 r1=>by show Q (V.bl (!decide (v=V.aW))) H1;rw[hd _ _ _ r1];exact k _ Hf1 H1 g1 (.bl _)⟩
theorem Cs (hu:X.A.units+1 < cLine)(hi:EE X G dl i (.str k))(ho:EE X G dl o (.cH kds))(hm:behindInMarks .In o=false:=by rfl):EE X G dl (.Compare i [.In] [o] pos) (.bl (bO kds (.inr k)).isSome):=
 cy (tW (uz hu hi ho) hm) fun st H Q zq=>k3 zq fun Hf zq=>have S:=zq.1;have kk:=zq.2;⟨Hf,S,fun v Hf1 H1 g1 r1=>⟨Hf1,S.grow g1,fun w aR H2 g2 r2=>by
     cases r1
     cases r2 with
     | @cH q ob kvs _ hq rp=>exact⟨q,_,rfl,.inl ⟨kvs,.inr k,.inr (.inl ⟨ob,g2.sub _ _ hq⟩),rfl,rfl⟩,by rw[rp.lC];exact kk _ aR H2 (g1.trans g2) (.bl _)⟩⟩⟩
end
open PySem.Builtin.Str in
theorem qa (L:List Nat)(h:0 < L.length):Txt.slice (tx L) none (some (-1))=tx L.dropLast:=by
 have e:=fJ (tx L) (a:=0) (b:=L.length - 1) (LD _) (by rw[br];omega) (l:=none) (u:=some (-1)) (by
   rw[br]
   simp[strSliceIndices]
   have e1:max (0:Int) (min (-1+(L.length:Int)) L.length)=((L.length - 1:Nat):Int):=by omega
   have e2:max (0:Int) (min 0 (L.length:Int))=0:=by omega
   have e3:max (0:Int) (min ((L.length - 1:Nat):Int) L.length)=((L.length - 1:Nat):Int):=by omega
   rw[if_neg (show ¬ ((L.length - 1:Nat):Int) < 0 by omega),e1,e2,e3])
 rw[e,List.dropLast_eq_take];rfl
noncomputable def cellsOf (ns:List Int)(a b:Nat):List Int:=(Lp (min b ns.length - a)).map fun k=>cellAt ns (a+k)
def zw:Rl:=fun ds r=>∃ (ns:List Int) (a b:Nat),ds=[.fQ ns,.int a,.int b]/\(ns.length<=63/\a<=63/\b<=63)/\r=.own (.lst ((cellsOf ns a b).map .int))
theorem tE {f:Nat->Int}{n k:Nat}(h:k < n):(((Lp n).map f).map Dt.int).getD k .aW=.int (f k):=by
 rw[E2,J7,J7,LH h];rfl
noncomputable abbrev xp:Scope:=Cq ((aD gM).getD 0 (.Pass ⟨0,0,0,0⟩))
theorem xq:pD xp (ag gM) qL ["_law_k","_law_script"] [0] "_law_k"=true:=by decide +kernel
noncomputable abbrev xr:Scope:=Cr ((aD ft).getD 0 (.Pass ⟨0,0,0,0⟩))
theorem oQ:iR xr (ag ft) qP ["_law_sign","_law_words"] ["_law_sign"] [0]=true:=by decide +kernel
def zx:Rl:=fun ds r=>∃ (rows:List Row) (x o:Nat) (l W:List Nat),ds=[.cH (b9 fw rows),.str (sg x),.int (o:Nat),.str (tx l),.str (tx W)]/\aH rows/\(∀ y∈l,y∈rows.map (·.c))/\(∃ m,l=x::m)/\o < (wordOf rows x).length/\(l.length<=100/\W.length<=12)/\bh ((grow rows l).drop o) W=W.length/\(l.length=1\/bh ((grow rows l.dropLast).drop o) W < W.length)/\r=.ret (.bl true)
theorem zy (rows:List Row)(e:List Nat):((e.filter fun _=>true).map fun x=>Dt.bl (bO (b9 fw rows) (.inr (sg x))).isSome)=(e.map fun x=>(bO (b9 fw rows) (.inr (sg x))).isSome).map Dt.bl:=by
 rw[Mi.mpr fun _ _=>rfl,LB];rfl
theorem xu (T:Txt K mg t):GF P w K mg base CX 2 "_law_cells" 3 zw:=by
 refine⟨_,_,_,jY T.fD.F vZ rfl fun bj A outer s H E G ds r hr hl hR=>?_,(T.g T.fD.a),T.fD.F.kp,T.fD.b⟩
 obtain⟨ns,a,b,rfl,⟨h1,h2,h3⟩,rfl⟩:=hR
 have cD:=eA (P:=P) (w:=w) (base:=base) T
 have em:(if (ns.length:Int) < (b:Int) then (ns.length:Int) else (b:Int))=((min b ns.length:Nat):Int):=by split <;> omega
 refine⟨_,.ro _,aq (yl (DU (N:=["_law_k","_law_script"]) (ix:=[0]) rfl (BA xq) (rN rfl T.dk (ae (aa 1 rfl) (ae (aI (Bu T.v9 rfl (ae (aa 2 rfl) (ae (qy T.bf (aa 0 rfl)) ai))) (congrArg Dt.int em)) ai))) (pA ⟨by omega,by omega,by omega,by omega⟩) (fun k hk C fp s' H' G'=>?_) ?_ ?_))⟩
 . have hk:k < min b ns.length - a:=by omega
   rw[show((cellsOf ns a b).map Dt.int).getD k .aW=.int (cellAt ns (a+k)) from tE hk]
   exact aN cD aZ hr (ae (aa 1 rfl) (ae (aa 0 rfl) ai)) ⟨ns,a+k,by rw[Int.natCast_add],by omega,rfl⟩
 . unfold cellsOf
   rw[Bn,Bn,Lo];omega
 . exact LA (show _<=2000 by omega) (by decide)
theorem tF (T:Txt K mg t):GF P w K mg base CX 2 "_law_short" 3 xn:=by
 refine⟨_,_,_,jY T.fG.F om rfl fun bj A outer s H E G ds r hr hl hR=>?_,(T.g T.fG.a),T.fG.F.kp,T.fG.b⟩
 obtain⟨rows,L,ns,rfl,ok,eL,rfl⟩:=hR
 have nd:=om.nd
 have cD:=eA (P:=P) (w:=w) (base:=base) T
 have iI:=m5 (P:=P) (w:=w) (base:=base) T
 have fO:=gi (P:=P) (w:=w) (base:=base) T
 have Lb:=ok.le
 have BQ:=ok.pos
 have Lc:L.length=rows.length:=by rw[eL,Bn]
 have qZ:0 < L.length:=by omega
 have Fw:L.length<=6:=by omega
 have Kv:0 < (rows.map (·.c)).length:=by rw[<- eL];exact qZ
 obtain⟨es,s1,s2⟩:=p9 ns
 obtain⟨ea,a1⟩:=xl ns
 have hg:=ED ok ns Kv
 rw[<- eL] at hg
 let c:=cellAt ns 4
 have hg:20<=(grow rows (cT L c 20)).length/\(grow rows (cT L c 20)).length<=160:=hg
 have Kw:∀ x∈cT L c 20,x∈rows.map (·.c):=by rw[<- eL];exact(cx qZ c 20).2
 have Kx:(1:Int)+cellAt ns 3 % 12=((tu ns:Nat):Int):=es
 have Ky:((zv ns:Nat):Int)+((tu ns:Nat):Int)=((zv ns+tu ns:Nat):Int):=by omega
 refine⟨_,.rt _,?_⟩
 refine ah (ax 3 nd (d:=.int (tu ns:Nat)) (aI (b7 af (b8 (aN cD aZ hr (ae (aa 2 rfl) (ae af ai)) ⟨ns,3,rfl,by decide,rfl⟩) af (by decide))) (congrArg Dt.int Kx))) ?_
 refine ah (ax 4 nd (d:=.int c) (aN cD aZ hr (ae (aa 2 rfl) (ae af ai)) ⟨ns,4,rfl,by decide,rfl⟩)) ?_
 by_cases h0:cellAt ns 3 / 12 % 4=0
 . rw[show dg rows L ns=cT L c (tu ns) from if_pos h0]
   exact d5 (bc (u:=true) (bN (du (b8 (ck (aN cD aZ hr (ae (aa 2 rfl) (ae af ai)) ⟨ns,3,rfl,by decide,rfl⟩) af ⟨by decide,by decide +kernel⟩) af (by decide)) af) (decide_eq_true h0)) (fun h=>aq (aY (aN iI aZ hr (ae (aa 0 rfl) (ae (aa 4 rfl) (ae (aa 3 rfl) ai))) ⟨L,c,tu ns,rfl,⟨qZ,by omega⟩,by omega,rfl⟩))) (fun h=>nomatch h))
 rw[show dg rows L ns=EC rows L ns from if_neg h0]
 refine ah (bc (u:=false) (bN (du (b8 (ck (aN cD aZ hr (ae (aa 2 rfl) (ae af ai)) ⟨ns,3,rfl,by decide,rfl⟩) af ⟨by decide,by decide +kernel⟩) af (by decide)) af) (decide_eq_false h0)) (fun h=>nomatch h) (fun h=>a8)) ?_
 refine ah (ax 5 nd (d:=.int (zv ns:Nat)) (aI (b8 (ck (aN cD aZ hr (ae (aa 2 rfl) (ae af ai)) ⟨ns,3,rfl,by decide,rfl⟩) af ⟨by decide,by decide +kernel⟩) af (by decide)) (congrArg Dt.int ea))) ?_
 exact aq (aY (aI (mI (aN fO aZ hr (ae (aa 1 rfl) (ae (aN iI aZ hr (ae (aa 0 rfl) (ae (aa 4 rfl) (ae af ai))) ⟨L,c,20,rfl,⟨qZ,by omega⟩,by omega,rfl⟩) ai)) ⟨rows,cT L c 20,rfl,ok,Kw,by rw[(cx qZ c 20).1];decide,rfl⟩) (gK (aa 5 rfl)) (gK (aI (b7 (aa 5 rfl) (aa 3 rfl)) (congrArg Dt.int Ky))) (by rw[br];exact IF (by omega))) (congrArg Dt.str (xk _ (by omega) (by omega)))))
theorem xv (T:Txt K mg t):GF P w K mg base CX 2 "_law_holds" 5 zx:=by
 refine⟨_,_,_,jY T.fH.F oo rfl fun bj A outer s H E G ds r hr hl hR=>?_,(T.g T.fH.a),T.fH.F.kp,T.fH.b⟩
 obtain⟨rows,x,o,l,W,rfl,ok,hm,⟨m,em⟩,ho,⟨D8,hW⟩,ha,hb,rfl⟩:=hR
 have nd:=oo.nd
 have lP:=kG (P:=P) (w:=w) (base:=base) T
 have fO:=gi (P:=P) (w:=w) (base:=base) T
 have hu:(A.deeper (envOfC "_law_holds" (ag ft) s.heap.objs.size t.gS bj)).units+1 < cLine:=by have:=hr.units;omega
 have BQ:0 < l.length:=by rw[em];simp
 have hg:=dU ok hm
 have hx:l.getD 0 0=x:=by rw[em];rfl
 have Fx:=m7 (rows:=rows) BQ
 rw[hx] at Fx
 have et:tx (l.take 1)=sg x:=by rw[em];rfl
 have Hq:((l.map fun y=>(bO (b9 fw rows) (.inr (sg y))).isSome).all id)=true:=by
   rw[List.all_map]
   exact ME.mpr fun y hy=>by show(bO (b9 fw rows) (.inr (sg y))).isSome=true;rw[jA (hm y hy)];rfl
 have ea:(!decide (((bh ((grow rows l).drop o) W:Nat):Int)=((W.length:Nat):Int)))=false:=by rw[ha];simp
 refine⟨_,.rt _,?_⟩
 refine ah (bc (u:=false) (kP (iP (u:=false) (v:=false) (fZ (u:=true) (gF (mv T.bU (aa 3 rfl) (qw T.wa Sg.boot_str) rfl trivial rfl))) fun _=>iP (u:=false) (v:=false) (bN (mw (aI (qW (k:=1) (aa 3 rfl) af BQ (by omega)) (congrArg Dt.str et)) (aa 1 rfl)) (by simp)) fun _=>ib (fZ (u:=true) (gF (aI (vt T.qQ rfl (iH (zy rows l) (mH l (fun x=>Dt.str (sg x)) (fun x=>.bl (bO (b9 fw rows) (.inr (sg x))).isSome) (fun x=>[.val (.str (sg x))]) (fun _=>true) rfl (eI oQ) (iu (aa 3 rfl)) (dF (eI oQ) rfl) (cG (dG (fL ok hm)) (fK l)) (fun a _=>fm) (.nil fun _ _=>rfl)
     (fun a ha _ C fp s' H' G'=>Cs hu (aa 0 rfl) (aa 1 rfl)) (tN (by omega))))) (congrArg Dt.bl Hq)))))) (fun h=>nomatch h) (fun h=>a8)) ?_
 refine ah (bc (u:=false) (bN (uW (aN lP aZ hr (ae (dc (aN fO aZ hr (ae (aa 0 rfl) (ae (aa 3 rfl) ai)) ⟨rows,l,rfl,ok,hm,by omega,rfl⟩) (aa 2 rfl) (by omega) (by omega)) (ae (aa 4 rfl) ai)) ⟨_,W,rfl,⟨by rw[La];omega,by omega⟩,rfl⟩) (aJ T.bf (aa 4 rfl) (by omega))) ea) (fun h=>nomatch h) (fun h=>a8)) ?_
 refine aq (aY ?_)
 by_cases h1:l.length=1
 . exact aI (zZ (u:=true) (v:=true) (aI (iq (aJ T.bf (aa 3 rfl) (by omega)) af) (congrArg Dt.bl (decide_eq_true (by omega)))) fun h=>nomatch h) rfl
 . have h2:=hb.resolve_left h1
   have Kz:l.dropLast=x::m.dropLast:=by
     rw[em];refine iK fun z=>h1 ?_
     rw[em,z];rfl
   have Hi:∀ y∈l.dropLast,y∈rows.map (·.c):=fun y hy=>hm y (List.dropLast_subset l hy)
   have Ld:=dU ok Hi
   have Ij:l.dropLast.length=l.length - 1:=List.length_dropLast
   have Hr:=m7 (rows:=rows) (w:=l.dropLast) (by omega)
   rw[show l.dropLast.getD 0 0=x by rw[Kz];rfl] at Hr
   exact aI (zZ (u:=false) (v:=true) (aI (iq (aJ T.bf (aa 3 rfl) (by omega)) af) (congrArg Dt.bl (decide_eq_false (by omega)))) fun _=>Bd (aI (DB (aN lP aZ hr (ae (dc (aN fO aZ hr (ae (aa 0 rfl) (ae (aI (mI (aa 3 rfl) pG (gK (pk af)) (by rw[br];exact IF (by omega))) (congrArg Dt.str (qa l BQ))) ai)) ⟨rows,l.dropLast,rfl,ok,Hi,by omega,rfl⟩) (aa 2 rfl) (by omega) (by omega)) (ae (aa 4 rfl) ai)) ⟨_,W,rfl,⟨by rw[La];omega,by omega⟩,rfl⟩) (aJ T.bf (aa 4 rfl) (by omega))) (congrArg Dt.bl (decide_eq_true (by omega))))) rfl
noncomputable abbrev g7 (p:Pr):List Key:=[.inr (sg p.1),.inl (p.2:Int)]
noncomputable def dh (rows:List Row)(W:List Nat)(ps:List Pr):List (List Key×Int):=ps.map fun p=>(g7 p,((jB rows W p.1 p.2).1:Int))
theorem rl {p q:Pr}(h:g7 p=g7 q):p=q:=by
 obtain⟨a,b⟩:=p
 obtain⟨c,d⟩:=q
 have h1:sg a=sg c:=Sum.inr.inj (List.cons.inj h).1
 have h2:((b:Nat):Int)=((d:Nat):Int):=Sum.inl.inj (List.cons.inj (List.cons.inj h).2).1
 have h3:=eZ h1
 have h4:b=d:=by omega
 rw[h3,h4]
theorem kH {rows:List Row}{W:List Nat}{p:Pr}:∀ {ps:List Pr},p ∉ ps->di (dh rows W ps) (g7 p)=none
 | [],_=>rfl
 | q::ps,h=>by
   show di ((g7 q,_)::dh rows W ps) (g7 p)=none
   rw[kf (p:=(g7 q,_)) fun e=>h (by rw[rl e];exact Lu ..)]
   exact kH fun z=>h (KY _ z)
theorem oR {rows:List Row}{W:List Nat}{p:Pr}:∀ {ps:List Pr},p∈ps->di (dh rows W ps) (g7 p)=some ((jB rows W p.1 p.2).1:Int)
 | q::ps,h=>by
   show di ((g7 q,((jB rows W q.1 q.2).1:Int))::dh rows W ps) (g7 p)=_
   by_cases e:g7 q=g7 p
   . rw[oi (p:=(g7 q,_)) e,rl e]
   . rw[kf (p:=(g7 q,_)) e]
     rcases K4.mp h with z | z
     . exact absurd (by rw[z]) e
     . exact oR z
theorem zz {rows:List Row}{W:List Nat}{p:Pr}{ps:List Pr}(h:p ∉ ps):oh (dh rows W ps) (g7 p) ((jB rows W p.1 p.2).1:Int)=dh rows W (ps ++ [p]):=by
 unfold oh
 rw[kH h,if_neg (by simp)]
 unfold dh
 rw[LQ];rfl
theorem kI (rows:List Row)(y:Nat)(cs:List Nat):tP rows (y::cs)=((Lp (wordOf rows y).length).map fun o=>(y,o)) ++ tP rows cs:=by
 unfold tP
 rw[Lv,LN]
theorem xw {rows:List Row}:∀ {cs:List Nat},cs.Nodup->(tP rows cs).Nodup
 | [],_=>List.nodup_nil
 | y::cs,h=>by
   rw[kI]
   obtain⟨h1,h2⟩:=Mm.mp h
   refine List.nodup_append.mpr ⟨?_,xw h2,fun a ha b hb e=>?_⟩
   . refine List.pairwise_map.mpr (List.Pairwise.imp (fun z e=>z (Prod.mk.inj e).2) List.nodup_range)
   . obtain⟨o,_,rfl⟩:=LK.mp ha
     subst e
     exact h1 (xm hb).1
theorem rm {rows:List Row}{x o:Nat}(ho:o < (wordOf rows x).length):∀ {cs:List Nat},x∈cs->(x,o)∈tP rows cs
 | y::cs,h=>by
   rw[kI]
   rcases K4.mp h with z | z
   . subst z
     exact MG _ (LK.mpr ⟨o,LU.mpr ho,rfl⟩)
   . exact Lw _ (rm ho z)
theorem rq (rows:List Row):∀ cs:List Nat,((tP rows cs).length:Int)=(cs.map fun y=>((wordOf rows y).length:Int)).sum
 | []=>rfl
 | y::cs=>by
   rw[kI,Lz,Bn,Lo,Lv,List.sum_cons,<- rq rows cs];omega
theorem EF (rows:List Row)(W:List Nat)(x o:Nat):gh (jB rows W x o).2<=W.length - 1+1:=oH (m8 fun b=>oI rows W (W.length - 1) _)
noncomputable def Ct (c:Int):Int:=if c % 2=0 then 8 else 2
theorem Cu (c:Int):jf [Dt.int 8,Dt.int 2] (c % 2)=some (.int (Ct c)):=by
 have h:c % 2=0\/c % 2=1:=by omega
 unfold Ct
 rcases h with h | h
 . rw[h];rfl
 . rw[h];rfl
theorem EG (c:Int):0 < Ct c/\Ct c<=8:=by unfold Ct;split <;> decide
noncomputable def zA:Stmt->Scope
 | .Return (some (.Compare _ _ [.Call _ [.ListComp _ _ sc _] _ _] _)) _=>sc
 | _=>default
noncomputable abbrev Cv:Scope:=zA ((aD lE).getD 8 (.Pass ⟨0,0,0,0⟩))
theorem xx:iR Cv (ag lE) Ag ["_law_letter","_law_words"] ["_law_letter"] [3]=true:=by decide +kernel
theorem xy (rows:List Row)(e:List Nat):((e.filter fun _=>true).map fun x=>Dt.int ((wordOf rows x).length:Nat))=(e.map fun x=>((wordOf rows x).length:Int)).map Dt.int:=by
 rw[Mi.mpr fun _ _=>rfl,LB];rfl
theorem rA (b:Bool):Bl (.bl b):=by
 refine⟨rfl,?_⟩
 unfold SeqAt.shaped
 simp[pd,PyData.canLay0,PyData.depth]
theorem Cw (T:Txt K mg t):df P w K mg base CX 9 t.fY t.ko ["_law_script"] (wF K):=by
 refine jY T.oy.F v7 rfl fun bj A outer s H E G ds r hr hl hR=>?_
 obtain⟨ns,hlen,rfl,rfl⟩:=hR
 have cD:=eA (P:=P) (w:=w) (base:=base) T
 have tG:=pZ (P:=P) (w:=w) (base:=base) T
 have Cy:=zf (P:=P) (w:=w) (base:=base) T
 have zB:=wA (P:=P) (w:=w) (base:=base) T
 have zC:=tF (P:=P) (w:=w) (base:=base) T
 have zD:=xv (P:=P) (w:=w) (base:=base) T
 have rB:=wH (P:=P) (w:=w) (base:=base) T
 have iI:=m5 (P:=P) (w:=w) (base:=base) T
 have fO:=gi (P:=P) (w:=w) (base:=base) T
 have lP:=kG (P:=P) (w:=w) (base:=base) T
 have zE:=xu (P:=P) (w:=w) (base:=base) T
 have xA:=sY (P:=P) (w:=w) (base:=base) T
 have nd:=v7.nd
 have hu:(A.deeper (envOfC "law" (ag lE) s.heap.objs.size t.fY bj)).units+1 < cLine:=by have:=hr.units;omega
 let c1:=cellAt ns 1
 let c2:=cellAt ns 2
 have Lf:=LM c1 (show(6:Int)≠0 by decide)
 have Lg:=LG c1 (show(0:Int) < 6 by decide)
 let n:=(1+c1 % 6).toNat
 have en:(1:Int)+c1 % 6=((n:Nat):Int):=by show(1:Int)+c1 % 6=(((1+c1 % 6).toNat:Nat):Int);omega
 have hn:0 < n/\n<=6:=by omega
 let L:=kB (cellAt ns 0) n
 obtain⟨Lh,Fy,KA⟩:=wL (cellAt ns 0) hn.1 hn.2
 have qZ:0 < L.length:=by show 0 < (kB (cellAt ns 0) n).length;omega
 have Fw:L.length<=6:=by show(kB (cellAt ns 0) n).length<=6;omega
 have Fy:L.Nodup:=Fy
 obtain⟨E4,Fv⟩:=EG c2
 let rows:=rowsOf L ((ns.drop 5).take (11 - 5)) (Ct c2)
 have ok:aH rows:=zc _ E4 Fv qZ Fw Fy KA
 have ec:rows.map (·.c)=L:=wK _ _ _
 have h6:=ok.le
 let W:=dg rows L ns
 obtain⟨⟨FA,Hs⟩,KC⟩:(0 < W.length/\W.length<=12)/\∀ x∈W,x∈rows.map (·.c):=by
   show(0 < (dg rows L ns).length/\(dg rows L ns).length<=12)/\∀ x∈dg rows L ns,x∈rows.map (·.c)
   rw[<- ec]
   exact tw ok ns (by rw[ec];exact qZ)
 let S1:Nat->List Slot:=fun k=>[.val (.fQ ns),.val (.str (tx L)),.val (.lst (rows.map gY)),.own (.bK (b9 fw (rows.take k))),.bb,.bb,.bb,.bb,.bb,.bb,.bb,.bb]
 let ps:=tP rows L
 have KD:cL rows W (rows.map (·.c))=ps.map fun p=>zo rows W p.1 p.2:=by rw[ec];exact xj rows W L
 have fP:ps.length<=8 * L.length:=ri ok (by rw[ec];exact fun y hy=>hy)
 have KG:ps.Nodup:=xw Fy
 let S2:Nat->List Slot:=fun k=>[.val (.fQ ns),.val (.str (tx L)),.bb,.val (.cH (b9 fw rows)),.bb,.bb,.val (.str (tx W)),.own (.bE (dh rows W (ps.take k))),.bb,.bb,.bb,.bb]
 let S3:Nat->List Slot:=fun _=>[.bb,.val (.str (tx L)),.bb,.val (.cH (b9 fw rows)),.bb,.bb,.val (.str (tx W)),.own (.bE (dh rows W ps)),.bb,.bb,.bb,.bb]
 refine⟨_,.rt _,?_⟩
 refine ah (ax 1 nd (d:=.str (tx L)) (aN tG aZ hr (ae (aN cD aZ hr (ae (aa 0 rfl) (ae af ai)) ⟨ns,0,rfl,by decide,rfl⟩) (ae (aI (b7 af (b8 (aN cD aZ hr (ae (aa 0 rfl) (ae af ai)) ⟨ns,1,rfl,by decide,rfl⟩) af (by decide))) (congrArg Dt.int en)) ai)) ⟨_,n,rfl,hn.2,rfl⟩)) ?_
 refine ah (ax 2 nd (d:=.lst (rows.map gY)) (nT (qD Cy aZ hr (ae (aa 1 rfl) (ae (zg (n:=5) (m:=11) (aa 0 rfl) af af (by decide)) (ae (uN (nT (pz (ae af (ae af ai)) AA3)) (b8 (aN cD aZ hr (ae (aa 0 rfl) (ae af ai)) ⟨ns,2,rfl,by decide,rfl⟩) af (by decide)) (Cu c2)) ai))) ⟨L,_,Ct c2,rfl,⟨qZ,Fw⟩,⟨E4,Fv⟩,rfl⟩))) ?_
 refine ah (fj 3 nd yz) ?_
 refine ah (cF (o:=.nx (S1 rows.length)) (m:=rows.length) rows gY (fun r dl=>((dl.set 4 (.val (.str (sg r.c)))).set 5 (.val (.str r.d))).set 6 (.val (.str (tx r.w)))) S1 rfl PassesOwn.leaving (fb (aa 2 rfl)) dE (jH rfl (bL (aU nd rfl (.inl rfl)) (bL (aU nd rfl (.inl rfl)) (bL (aU nd rfl (.inl rfl)) gq)))) (fun a _=>BR) (Le.of ⟨rfl,rfl,rfl,rfl,trivial⟩) (G1 _) (fun k a hk ha=>?c1) (.all rfl)) ?rest
 case c1=>
   rw[fe hk] at ha
   cases ha
   have Ab:(b9 fw (rows.take k)).length < sizeLine:=by
     rw[wO,LC];exact K2 (show min k rows.length < 2000 by omega) (by decide)
   refine .nx (aq (yA (kds:=b9 fw (rows.take k)) 3 hu (aa 6 rfl) (aa 4 rfl) Ab)) (Le.of ⟨rfl,rfl,rfl,?_,trivial⟩)
   show Slot.own (.bK (b9 fw (rows.take (k+1))))=Slot.own (.bK (fU (b9 fw (rows.take k)) (.inr (sg rows[k].c)) (fw rows[k])))
   rw[Ew fw ok.nd hk]
 case rest=>
   have eS:S1 rows.length=[.val (.fQ ns),.val (.str (tx L)),.val (.lst (rows.map gY)),.own (.bK (b9 fw rows)),.bb,.bb,.bb,.bb,.bb,.bb,.bb,.bb]:=by
     show [_,_,_,Slot.own (.bK (b9 fw (rows.take rows.length))),_,_,_,_,_,_,_,_]=_
     rw[LP]
   rw[eS]
   refine yH 3 (kds:=b9 fw rows) ?_
   refine ah (ax 6 nd (d:=.str (tx W)) (aN zC aZ hr (ae (aa 1 rfl) (ae (aa 3 rfl) (ae (aa 0 rfl) ai))) ⟨rows,L,ns,rfl,ok,ec.symm,rfl⟩)) ?_
   refine ah (fj 7 nd vT) ?_
   refine ah (cF (o:=.nx (S2 ps.length)) (m:=ps.length) ps (fun p=>zo rows W p.1 p.2) (fun p dl=>dl.set 8 (.val (zo rows W p.1 p.2))) S2 rfl PassesOwn.leaving (fb (iH KD (qD xA aZ hr (ae (DP (yn zB aZ hr (ae af (ae (aa 2 rfl) ai)) ⟨false,rows,rfl,ok,rfl⟩)) (ae (aa 6 rfl) ai)) ⟨false,rows,W,rfl,ok,KC,⟨FA,Hs⟩,rfl⟩))) dE (aU nd rfl (.inl rfl)) (fun a _=>gJ) (Le.of ⟨rfl,rfl,rfl,rfl,rfl,trivial⟩) (G1 _) (fun k p hk ha=>?c2) (.all rfl)) ?rest2
   case c2=>
     rw[fe hk] at ha
     cases ha
     let p:=ps[k]
     obtain⟨q1,q2⟩:=xm (LI hk:ps[k]∈ps)
     have Fg:p.1∈rows.map (·.c):=by rw[ec];exact q1
     obtain⟨i1,i2⟩:=Cp ok FA q2
     have yB:p ∉ ps.take k:=fun z=>by
       obtain⟨i,hi,e⟩:=Mb.mp z
       rw[LC] at hi
       rw[Mo] at e
       have:=L7.mp KG i k (by omega) hk (by omega)
       exact this e
     let v:=jB rows W p.1 p.2
     have ze:gh v.2<=W.length - 1+1:=EF rows W p.1 p.2
     have KH:(di (dh rows W (ps.take k)) (g7 p)).isSome=false:=by rw[kH yB];rfl
     have Ab:(dh rows W (ps.take k)).length < sizeLine:=by
       unfold dh
       rw[Bn,LC];exact K2 (show min k ps.length < 2000 by omega) (by decide)
     have Ht:dh rows W (ps.take (k+1))=oh (dh rows W (ps.take k)) (g7 p) ((jB rows W p.1 p.2).1:Int):=by
       rw[zz yB,L3,fe hk];rfl
     have yb:W.length<=2000:=by omega
     have Ai:∀ l,v.2=some l->∃ m,l=p.1::m/\(∀ y∈l,y∈rows.map (·.c))/\bh ((grow rows l).drop p.2) W=W.length/\(l.length=1\/bh ((grow rows l.dropLast).drop p.2) W < W.length):=fun l hl=>zu ok FA Fg q2 hl
     let D:Dt->List Slot:=fun o=>[.val (.fQ ns),.val (.str (tx L)),.bb,.val (.cH (b9 fw rows)),.bb,.bb,.val (.str (tx W)),.own (.bE (dh rows W (ps.take k))),.val (.tup [.str (sg p.1),.int (p.2:Nat),.int (v.1:Nat),o]),.bb,.bb,.bb]
     refine .nx (dl':=(D (oD v.2)).set 7 (.own (.bE (oh (dh rows W (ps.take k)) (g7 p) ((v.1:Nat):Int))))) (show ji _ _ _ (D (oD v.2)) _ _ from ?m) (Le.of ⟨rfl,rfl,rfl,rfl,congrArg (fun z=>Slot.own (.bE z)) Ht,trivial⟩)
     have i2:v.1=W.length ↔ v.2.isSome=true:=i2
     generalize Li:v.2=o2 at i2 ze Ai
     refine ah (bc (u:=false) (kP (iP (u:=false) (v:=false) (fZ (u:=true) (gF (mv T.bU (aa 8 rfl) (qw T.jy Sg.boot_tuple) rfl trivial rfl))) fun _=>iP (u:=false) (v:=false) (bN (uW (yi T.bf (aa 8 rfl)) af) rfl) fun _=>ib (bN (yJ (k:=g7 p) 7 hu (mN (k:=g7 p) (ae (aA (d:=.str (sg p.1)) (aa 8 rfl) af rfl) (ae (aA (d:=.int (p.2:Nat)) (aa 8 rfl) af rfl) ai)) AA3)) KH))) (fun h=>nomatch h) (fun h=>a8)) ?_
     refine ah (bc (u:=false) (kP (iP (u:=false) (v:=false) (fZ (u:=true) (gF (aN rB aZ hr (ae (aA (d:=.int (p.2:Nat)) (aa 8 rfl) af rfl) ai) ⟨_,rfl,rfl⟩))) fun _=>ib (fZ (u:=true) (gF (aN rB aZ hr (ae (aA (d:=.int (v.1:Nat)) (aa 8 rfl) af rfl) ai) ⟨_,rfl,rfl⟩))))) (fun h=>nomatch h) (fun h=>a8)) ?_
     cases o2 with
     | none=>
       have Lj:v.1≠W.length:=fun h=>by have:=i2.mp h;cases this
       refine ah (bc (u:=false) (kP (ig (u:=false) (v:=false) (q8 kC (aA (d:=.aW) (aa 8 rfl) af rfl)) fun h=>nomatch h)) (fun h=>nomatch h) (fun h=>a8)) ?_
       refine ah (bc (u:=false) (z0 (d1:=.bl false) (d2:=.bl false) hr.units (aI (iq (aA (d:=.int (v.1:Nat)) (aa 8 rfl) af rfl) (aJ T.bf (aa 6 rfl) yb)) (congrArg Dt.bl (decide_eq_false (by omega)))) (rj kC (aA (d:=.aW) (aa 8 rfl) af rfl)) (rA _) (rA _) (by rw[eqv_refl _ rfl];rfl)) (fun h=>nomatch h) (fun h=>a8)) ?_
       exact aq (oj (k:=g7 p) 7 hu (aA (d:=.int (v.1:Nat)) (aa 8 rfl) af rfl) (mN (k:=g7 p) (ae (aA (d:=.str (sg p.1)) (aa 8 rfl) af rfl) (ae (aA (d:=.int (p.2:Nat)) (aa 8 rfl) af rfl) ai)) AA3) Ab)
     | some l=>
       have he:v.1=W.length:=i2.mpr rfl
       obtain⟨m,t1,t2,t3,t4⟩:=Ai l rfl
       have ze:l.length<=W.length - 1+1:=ze
       refine ah (bc (u:=false) (kP (ig (u:=true) (v:=false) (q8 kE (aA (d:=.str (tx l)) (aa 8 rfl) af rfl)) fun _=>ml (fZ (u:=true) (gF (aN zD aZ hr (ae (aa 3 rfl) (ae (aA (d:=.str (sg p.1)) (aa 8 rfl) af rfl) (ae (aA (d:=.int (p.2:Nat)) (aa 8 rfl) af rfl) (ae (aA (d:=.str (tx l)) (aa 8 rfl) af rfl) (ae (aa 6 rfl) ai))))) ⟨rows,p.1,p.2,l,W,rfl,ok,t2,⟨m,t1⟩,q2,⟨by omega,by omega⟩,t3,t4,rfl⟩))))) (fun h=>nomatch h) (fun h=>a8)) ?_
       refine ah (bc (u:=false) (z0 (d1:=.bl true) (d2:=.bl true) hr.units (aI (iq (aA (d:=.int (v.1:Nat)) (aa 8 rfl) af rfl) (aJ T.bf (aa 6 rfl) yb)) (congrArg Dt.bl (decide_eq_true (by omega)))) (rj kE (aA (d:=.str (tx l)) (aa 8 rfl) af rfl)) (rA _) (rA _) (by rw[eqv_refl _ rfl];rfl)) (fun h=>nomatch h) (fun h=>a8)) ?_
       exact aq (oj (k:=g7 p) 7 hu (aA (d:=.int (v.1:Nat)) (aa 8 rfl) af rfl) (mN (k:=g7 p) (ae (aA (d:=.str (sg p.1)) (aa 8 rfl) af rfl) (ae (aA (d:=.int (p.2:Nat)) (aa 8 rfl) af rfl) ai)) AA3) Ab)
   case rest2=>
     have KI:S2 ps.length=[.val (.fQ ns),.val (.str (tx L)),.bb,.val (.cH (b9 fw rows)),.bb,.bb,.val (.str (tx W)),.own (.bE (dh rows W ps)),.bb,.bb,.bb,.bb]:=by
       show [_,_,_,_,_,_,_,Slot.own (.bE (dh rows W (ps.take ps.length))),_,_,_,_]=_
       rw[LP]
     rw[KI]
     let cs:=cellsOf ns 11 63
     refine ah (cF (o:=.nx (S3 cs.length)) (m:=cs.length) cs Dt.int (fun c dl=>dl.set 9 (.val (.int c))) S3 rfl PassesOwn.leaving (fb (nT (qD zE aZ hr (ae (aa 0 rfl) (ae af (ae af ai))) ⟨ns,11,63,rfl,⟨hlen,by decide,by decide⟩,rfl⟩))) dE (aU nd rfl (.inl rfl)) (fun a _=>gJ) (Le.of ⟨rfl,rfl,rfl,rfl,trivial⟩) (G1 _) (fun k c hk ha=>?c3) (.all rfl)) ?rest3
     case c3=>
       have Lk:=LM c (show(8:Int)≠0 by decide)
       have Ll:=LG c (show(0:Int) < 8 by decide)
       obtain⟨z,ez⟩:∃ z:Nat,(1:Int)+c % 8=(z:Int):=⟨(1+c % 8).toNat,by omega⟩
       have hz:0 < z/\z<=8:=by omega
       obtain⟨z8,Hu⟩:=cx qZ (c / 64) z
       generalize ee:cT L (c / 64) z=e at z8 Hu
       obtain⟨x,e',rfl⟩:∃ x e',e=x::e':=by
         cases e with
         | nil=>simp at z8;omega
         | cons x e'=>exact⟨x,e',rfl⟩
       have II:x∈L:=Hu x (Lu ..)
       have IJ:x∈rows.map (·.c):=by rw[ec];exact II
       have Cz:∀ y∈x::e',y∈rows.map (·.c):=by rw[ec];exact Hu
       have Lm:=w8 ok IJ
       obtain⟨o,eo⟩:∃ o:Nat,c / 8 % ((wordOf rows x).length:Int)=(o:Int):=⟨(c / 8 % ((wordOf rows x).length:Int)).toNat,by have:=LM (c / 8) (show((wordOf rows x).length:Int)≠0 by omega);omega⟩
       have ho:o < (wordOf rows x).length:=by
         have:=LG (c / 8) (show(0:Int) < (wordOf rows x).length by omega)
         omega
       have hg:=dU ok Cz
       have Fx:=m7 (rows:=rows) (w:=x::e') (by simp)
       have Fx:(wordOf rows x).length<=(grow rows (x::e')).length:=Fx
       have Hv:di (dh rows W ps) (g7 (x,o))=some ((jB rows W x o).1:Int):=oR (rm ho II)
       have hle:=zt ok FA ho (e:=e') (fun y hy=>Cz y (KY _ hy))
       have D8:(x::e').length<=2000:=by omega
       have IK:0 < (x::e').length:=by simp
       have Hw:(wordOf rows x).length<=2000:=by omega
       have Ck:(0:Int) < (((wordOf rows x).length:Nat):Int):=by omega
       have Ln:W.length<=1000:=by omega
       have Hx:(di (dh rows W ps) (g7 (x,o))).getD (-1)=((jB rows W x o).1:Int):=by rw[Hv];rfl
       refine .nx (dl':=[.bb,.val (.str (tx L)),.bb,.val (.cH (b9 fw rows)),.bb,.bb,.val (.str (tx W)),.own (.bE (dh rows W ps)),.bb,.val (.int c),.val (.str (tx (x::e'))),.val (.int (o:Nat))]) (ah (ax 10 nd (d:=.str (tx (x::e'))) (aI (aN iI aZ hr (ae (aa 1 rfl) (ae (ck (aa 9 rfl) af ⟨by decide,by decide +kernel⟩) (ae (aI (b7 af (b8 (aa 9 rfl) af (by decide))) (congrArg Dt.int ez)) ai))) ⟨L,c / 64,z,rfl,⟨qZ,by omega⟩,by omega,rfl⟩) (by rw[ee]))) ?_) (Le.of ⟨rfl,rfl,rfl,rfl,trivial⟩)
       refine ah (ax 11 nd (d:=.int (o:Nat)) (aI (b8 (ck (aa 9 rfl) af ⟨by decide,by decide +kernel⟩) (aJ T.bf (ke (k:=sg x) hu (aa 3 rfl) (aI (eu (k:=0) (L:=x::e') (aa 10 rfl) af IK D8) rfl) (jA IJ) (fun _ _=>rfl)) Hw) Ck) (congrArg Dt.int eo))) ?_
       exact aq (bc (u:=false) (bN (qz (aN lP aZ hr (ae (dc (aN fO aZ hr (ae (aa 3 rfl) (ae (aa 10 rfl) ai)) ⟨rows,x::e',rfl,ok,Cz,by omega,rfl⟩) (aa 11 rfl) (by omega) (by omega)) (ae (aa 6 rfl) ai)) ⟨_,W,rfl,⟨by rw[La];omega,by omega⟩,rfl⟩) (aI (yK (k:=g7 (x,o)) 7 hu (mN (k:=g7 (x,o)) (ae (aI (d:=.str (sg x)) (eu (k:=0) (L:=x::e') (aa 10 rfl) af IK D8) rfl) (ae (aa 11 rfl) ai)) AA3) (pk af) ⟨rfl,rfl,rfl,rfl⟩) (congrArg Dt.int Hx))) (decide_eq_false (by omega))) (fun h=>nomatch h) (fun h=>a8))
     case rest3=>
       have Hy:decide (((dh rows W ps).length:Int)=(L.map fun y=>((wordOf rows y).length:Int)).sum)=true:=by
         refine decide_eq_true ?_
         rw[<- rq]
         unfold dh
         rw[Bn]
       exact aq (aY (aI (iq (vU 7 T.bf) (BP T.wb rfl (iH (xy rows L) (mH L (fun x=>Dt.str (sg x)) (fun x=>.int ((wordOf rows x).length:Nat)) (fun x=>[.val (.str (sg x))]) (fun _=>true) rfl (eI xx) (iu (aa 1 rfl)) (dF (eI xx) rfl) (cG (dG (fL ok (by rw[ec];exact fun y hy=>hy))) (fK L)) (fun a _=>fm) (.nil fun _ _=>rfl)
         (fun a ha _ C fp s' H' G'=>aJ T.bf (ke hu (aa 1 rfl) (aa 0 rfl) (jA (by rw[ec];exact ha)) (fun _ _=>rfl)) (by have:=w8 ok (show a∈rows.map (·.c) by rw[ec];exact ha);omega)) (tN (by omega)))))) (congrArg Dt.bl Hy)))
end Pf
end
local macro_rules | `(tactic| walk_at "b")=>`(tactic| first
 | exact fun _ _ _ _ _ _ us hl=>match us,hl with | [_],_=>rfl
 | exact fun _ _ _ _ _ _ us hl=>match us,hl with | [_,_],_=>rfl
 | exact fun _ _ _ _ _ _ us hl=>match us,hl with | [_,_,_],_=>rfl
 | exact fun _ _ _ _ _ _ us hl=>match us,hl with | [_,_,_,_],_=>rfl
 | exact fun _ _ _ _ _ _ us hl=>match us,hl with | [_,_,_,_,_],_=>rfl
 | exact fun _ _ _ _ _ _ us hl=>match us,hl with | [_,_,_,_,_,_],_=>rfl
 | exact fun _ _ _ _ _ _ us hl=>match us,hl with | [_,_,_,_,_,_,_],_=>rfl
 | exact fun _ _ _ _ _ _ us hl=>match us,hl with | [_,_,_,_,_,_,_,_],_=>rfl
 | exact fun _ _ _ _ _ _ us hl=>match us,hl with | [_,_,_,_,_,_,_,_,_],_=>rfl
 | exact fun _ _ _ _ _ _ us hl=>match us,hl with | [],_=>rfl)
local macro_rules | `(tactic| walk_at "z")=>`(tactic| first
 | (refine' Pf.B4 ?a ?l ?c ?k ?b;(case a=>k_is);(case l=>k_is);(case c=>k_is);(case k=>k_is);(case b=>walk_at "b"))
 | (refine' Pf.B2 ?l ?c ?k ?b;(case l=>k_is);(case c=>k_is);(case k=>k_is);(case b=>walk_at "b"))
 | (refine' Pf.B3 ?l ?c ?k ?b;(case l=>k_is);(case c=>k_is);(case k=>k_is);(case b=>walk_at "b"))
 | (refine' Pf.B5 ?a ?p ?h ?o ?s ?k;(case a=>k_is);(case p=>k_is);(case h=>k_is);(case o=>k_is);(case s=>k_is);(case k=>k_is))
 | (refine' L2.Meth.mk ?a ?i ?k;(case a=>k_is);(case i=>k_is);(case k=>k_is))
 | (refine' L2.Mk.mk ?a ?i ?f ?k;(case a=>k_is);(case i=>k_is);(case f=>k_is);(case k=>k_is))
 | (refine' Sg.Bj.mk ?a ?i ?k;(case a=>k_is);(case i=>k_is);(case k=>k_is))
 | k_is | kernel_rfl)
namespace PySem.W.Fast
theorem tw6337083511072010753:True:=⟨⟩
theorem tw6590966273307300532:True:=⟨⟩
theorem tw15308374569261009624:True:=⟨⟩
theorem tw12035390373161212501:True:=⟨⟩
theorem tw13403731017824787218:True:=⟨⟩
theorem tw9875986594361168479:True:=⟨⟩
theorem tw4762221931839926814:True:=⟨⟩
theorem tw18388211394770756185:True:=⟨⟩
theorem tw14031656720039971331:True:=⟨⟩
theorem tw149054080122844988:True:=⟨⟩
theorem tw9830911180592416556:True:=⟨⟩
theorem tw905671987609848757:True:=⟨⟩
theorem tw5151921810736372303:True:=⟨⟩
theorem tw9454769629501822018:True:=⟨⟩
theorem tw7037565937451238525:True:=⟨⟩
theorem tw15081980827680495336:True:=⟨⟩
theorem tw18096135920413583566:True:=⟨⟩
theorem tw4009458710860487829:True:=⟨⟩
theorem tw3163903209107608265:True:=⟨⟩
theorem tw16694143146613560770:True:=⟨⟩
theorem tw11654716529796013849:True:=⟨⟩
theorem tw1704933337975510422:True:=⟨⟩
theorem tw12862845826000314324:True:=⟨⟩
theorem tw3580226753585626155:True:=⟨⟩
theorem tw10668669767788800498:True:=⟨⟩
theorem tw5965584230630329494:True:=⟨⟩
theorem tw8267162130018709487:True:=⟨⟩
theorem tw8408715667420116696:True:=⟨⟩
theorem tw5723061673428250120:True:=⟨⟩
theorem tw5101372161962465167:True:=⟨⟩
theorem tw2183968252741273562:True:=⟨⟩
theorem tw6078688782137749185:True:=⟨⟩
theorem tw120134892503195513:True:=⟨⟩
theorem tw6197090580590379324:True:=⟨⟩
theorem tw6058015884266769900:True:=⟨⟩
theorem tw17364238858791312069:True:=⟨⟩
theorem tw11412937143479298656:True:=⟨⟩
theorem tw991408172763071653:True:=⟨⟩
theorem tw7321861621644028090:True:=⟨⟩
theorem tw13793990946653629955:True:=⟨⟩
theorem tw2983047729821869611:True:=⟨⟩
theorem tw15968180088768607831:True:=⟨⟩
theorem tw1683857200965193648:True:=⟨⟩
theorem tw6519584328135156314:True:=⟨⟩
theorem tw8590943979687580234:True:=⟨⟩
theorem tw2247574064834734162:True:=⟨⟩
theorem tw674507644369720995:True:=⟨⟩
theorem tw261981558993868458:True:=⟨⟩
theorem tw7263965259720401634:True:=⟨⟩
theorem tw12069336917366886718:True:=⟨⟩
theorem tw11235948854653271837:True:=⟨⟩
theorem tw8137071669743408439:True:=⟨⟩
theorem tw3631023040407111410:True:=⟨⟩
theorem tw7917497264645144579:True:=⟨⟩
theorem tw1175750514273532529:True:=⟨⟩
theorem tw14760237887503749590:True:=⟨⟩
theorem tw13567863460280783762:True:=⟨⟩
theorem tw12385223160218525408:True:=⟨⟩
theorem tw13442496549332686683:True:=⟨⟩
theorem tw14164074531596029746:True:=⟨⟩
theorem tw17690490678199939529:True:=⟨⟩
theorem tw11028656634859004015:True:=⟨⟩
theorem tw622190868091326398:True:=⟨⟩
theorem tw13396986397117878930:True:=⟨⟩
theorem tw26126202155956966:True:=⟨⟩
theorem tw9555769123641925192:True:=⟨⟩
theorem tw17223243100208507244:True:=⟨⟩
theorem tw15190234446243320105:True:=⟨⟩
theorem tw15759964184754136423:True:=⟨⟩
theorem tw15786668810612526003:True:=⟨⟩
theorem tw14711448570485264788:True:=⟨⟩
theorem tw5174170152239225341:True:=⟨⟩
theorem tw4264085485477438940:True:=⟨⟩
theorem tw8387426537635589592:True:=⟨⟩
theorem tw6472955256759847877:True:=⟨⟩
theorem tw2388998201347584419:True:=⟨⟩
theorem tw17566132692628002983:True:=⟨⟩
theorem tw2840084173948284522:True:=⟨⟩
theorem tw10511201597734473444:True:=⟨⟩
theorem tw9238398693531633473:True:=⟨⟩
theorem tw17527810843828018530:True:=⟨⟩
theorem tw14996268042949076484:True:=⟨⟩
theorem tw2787865090349330474:True:=⟨⟩
theorem tw14486336952658370316:True:=⟨⟩
theorem tw2151102972195993546:True:=⟨⟩
theorem tw863419439401403055:True:=⟨⟩
theorem tw4951695961099787626:True:=⟨⟩
theorem tw11500957220461335527:True:=⟨⟩
theorem tw18084009684661272898:True:=⟨⟩
theorem tw16596535965942121414:True:=⟨⟩
theorem tw89345925732142781:True:=⟨⟩
theorem tw1688403517859941993:True:=⟨⟩
theorem tw5904260015304192668:True:=⟨⟩
theorem tw3996294768417240420:True:=⟨⟩
theorem tw12220305387503142551:True:=⟨⟩
theorem tw13316750555868111268:True:=⟨⟩
theorem tw11358052098737962365:True:=⟨⟩
theorem tw6346545889592701271:True:=⟨⟩
theorem tw6247026848675366353:True:=⟨⟩
theorem tw6613899377282133174:True:=⟨⟩
theorem tw3996459160376243731:True:=⟨⟩
theorem tw5711717978136212696:True:=⟨⟩
theorem tw10696435909416736001:True:=⟨⟩
theorem tw15207822528519224160:True:=⟨⟩
theorem tw10992953833649408989:True:=⟨⟩
theorem tw13224399099605259615:True:=⟨⟩
theorem tw14008782710132514105:True:=⟨⟩
theorem tw4318201558006668021:True:=⟨⟩
theorem tw4895742039925782518:True:=⟨⟩
theorem tw8021527044747787817:True:=⟨⟩
theorem tw410318662120779976:True:=⟨⟩
theorem tw7433999568734880196:True:=⟨⟩
theorem tw6760367331522606441:True:=⟨⟩
theorem tw11750163465246955356:True:=⟨⟩
theorem tw16458890640329493620:True:=⟨⟩
theorem tw11836226712981816303:True:=⟨⟩
theorem tw3774167809119727351:True:=⟨⟩
theorem tw15600896235713737751:True:=⟨⟩
theorem tw5875912167135091651:True:=⟨⟩
theorem tw7885294908753602839:True:=⟨⟩
theorem tw8583547157272642009:True:=⟨⟩
theorem tw14041143200987407674:True:=⟨⟩
theorem tw5461619863366990382:True:=⟨⟩
theorem tw17298769802187316226:True:=⟨⟩
theorem tw15378366709563551721:True:=⟨⟩
theorem tw14224448266126766091:True:=⟨⟩
theorem tw6006825798364484475:True:=⟨⟩
theorem tw7831662308973966842:True:=⟨⟩
theorem tw13057383757305594317:True:=⟨⟩
theorem tw6837482414324730401:True:=⟨⟩
theorem tw10440419179979079712:True:=⟨⟩
theorem tw4222899786352380416:True:=⟨⟩
theorem tw7550523178138807926:True:=⟨⟩
theorem tw17916908397229106070:True:=⟨⟩
theorem tw13975765137047520125:True:=⟨⟩
theorem tw12768424132970917583:True:=⟨⟩
theorem tw10616980877281203564:True:=⟨⟩
theorem tw1948383800262059229:True:=⟨⟩
theorem tw15626638887526385224:True:=⟨⟩
theorem tw6645943937055681467:True:=⟨⟩
theorem tw10822739984957887192:True:=⟨⟩
theorem tw11573358267819115177:True:=⟨⟩
theorem tw16138639630126912349:True:=⟨⟩
theorem tw4280311992015181278:True:=⟨⟩
theorem tw2290751487395452278:True:=⟨⟩
theorem tw15870699416086311172:True:=⟨⟩
theorem tw12322480024714436749:True:=⟨⟩
theorem tw15615650283086746729:True:=⟨⟩
theorem tw9881858738536785740:True:=⟨⟩
theorem tw6658451737996586456:True:=⟨⟩
theorem tw15183762596638452356:True:=⟨⟩
theorem tw12176577377192460317:True:=⟨⟩
theorem tw4095025785909276363:True:=⟨⟩
theorem tw15640377263463480280:True:=⟨⟩
theorem tw1545378396083516900:True:=⟨⟩
theorem tw10406177720875618225:True:=⟨⟩
theorem tw17996068259035349242:True:=⟨⟩
theorem tw898468698840668632:True:=⟨⟩
theorem tw2298074509859284302:True:=⟨⟩
theorem tw502994570700055626:True:=⟨⟩
theorem tw11986325960778224018:True:=⟨⟩
theorem tw14991596315248351324:True:=⟨⟩
theorem tw9175845623789017405:True:=⟨⟩
theorem tw17116889163650789503:True:=⟨⟩
theorem tw15822926978109924496:True:=⟨⟩
theorem tw10300693416776580857:True:=⟨⟩
theorem tw7787714271934473787:True:=⟨⟩
theorem tw17326421609500499526:True:=⟨⟩
theorem tw5533683180328590336:True:=⟨⟩
theorem tw4795535933892073614:True:=⟨⟩
theorem tw508510398561167121:True:=⟨⟩
theorem tw16954887236249074576:True:=⟨⟩
theorem tw3491313258688931339:True:=⟨⟩
theorem tw5814698258774800502:True:=⟨⟩
theorem tw1758612869178031885:True:=⟨⟩
theorem tw13505149372792225123:True:=⟨⟩
theorem tw13914124838541378671:True:=⟨⟩
theorem tw1114143541428948026:True:=⟨⟩
theorem tw444691450583037181:True:=⟨⟩
theorem tw5585245859045317372:True:=⟨⟩
theorem tw18242236646208916092:True:=⟨⟩
theorem tw13834708274317263887:True:=⟨⟩
theorem tw14900905182029301545:True:=⟨⟩
theorem tw16185044248591685777:True:=⟨⟩
theorem tw17340259493207765718:True:=⟨⟩
theorem tw17004977583585078800:True:=⟨⟩
theorem tw1752439434857999033:True:=⟨⟩
theorem tw10828274247693178899:True:=⟨⟩
theorem tw10519656722908880524:True:=⟨⟩
theorem tw1172531354344153064:True:=⟨⟩
theorem tw196677018867654470:True:=⟨⟩
theorem tw5367497732248971729:True:=⟨⟩
theorem tw10820307248723272605:True:=⟨⟩
theorem tw16011116080860034916:True:=⟨⟩
theorem tw13894274416809690564:True:=⟨⟩
theorem tw11361272113204393769:True:=⟨⟩
theorem tw15868617824851595641:True:=⟨⟩
theorem tw17995649193007209594:True:=⟨⟩
theorem tw1913232405634289385:True:=⟨⟩
theorem tw12484761759534940947:True:=⟨⟩
theorem tw13430827248958725036:True:=⟨⟩
theorem tw13647808940971548947:True:=⟨⟩
theorem tw12114626792005231744:True:=⟨⟩
theorem tw14036022816598629276:True:=⟨⟩
theorem tw9453042560800426961:True:=⟨⟩
theorem tw16017191587275766668:True:=⟨⟩
theorem tw6249597624231276598:True:=⟨⟩
theorem tw6328005913585114281:True:=⟨⟩
theorem tw4780232708564660159:True:=⟨⟩
theorem tw8914729738165422792:True:=⟨⟩
theorem tw7830762925355682831:True:=⟨⟩
theorem tw10401717187399565738:True:=⟨⟩
theorem tw13620078439927029429:True:=⟨⟩
theorem tw4828916422252101258:True:=⟨⟩
theorem tw6511994876042587743:True:=⟨⟩
theorem tw8550979379024122307:True:=⟨⟩
theorem tw15654496427260226806:True:=⟨⟩
theorem tw2462598064684073127:True:=⟨⟩
theorem tw9621465370459529698:True:=⟨⟩
theorem tw16687985849661802190:True:=⟨⟩
theorem tw8030050934983783014:True:=⟨⟩
theorem tw10714693618683528100:True:=⟨⟩
theorem tw16827940562816940870:True:=⟨⟩
theorem tw1084858966673118646:True:=⟨⟩
theorem tw18287492502015918688:True:=⟨⟩
theorem tw7296285939925593262:True:=⟨⟩
theorem tw16525256761426997347:True:=⟨⟩
theorem tw16914418370005151520:True:=⟨⟩
theorem tw8101127239846221542:True:=⟨⟩
theorem tw18226521918426312937:True:=⟨⟩
theorem tw8099656954234205597:True:=⟨⟩
theorem tw9680286645997960806:True:=⟨⟩
theorem tw816344889966535593:True:=⟨⟩
theorem tw7107894496823718889:True:=⟨⟩
theorem tw17922460156567783567:True:=⟨⟩
theorem tw9642199169734458444:True:=⟨⟩
theorem tw8645971170735388186:True:=⟨⟩
theorem tw10375881628533070778:True:=⟨⟩
theorem tw2989683418113037860:True:=⟨⟩
theorem tw16863876071256182412:True:=⟨⟩
theorem tw6255759944473237519:True:=⟨⟩
theorem tw6209564058403150991:True:=⟨⟩
theorem tw6651550613211657290:True:=⟨⟩
theorem tw17095625411589957265:True:=⟨⟩
theorem tw16547945196414503042:True:=⟨⟩
theorem tw2966250702307912667:True:=⟨⟩
theorem tw2072353838245003848:True:=⟨⟩
theorem tw2538672486197848467:True:=⟨⟩
theorem tw15108786504782955832:True:=⟨⟩
theorem tw790463115641565165:True:=⟨⟩
theorem tw6384122148847077345:True:=⟨⟩
theorem tw11264074423721188547:True:=⟨⟩
theorem tw8110264357214816329:True:=⟨⟩
theorem tw13071622598184294478:True:=⟨⟩
theorem tw14355707513387838627:True:=⟨⟩
theorem tw8064713022338124334:True:=⟨⟩
theorem tw13980556722884192180:True:=⟨⟩
theorem tw10542718767650377077:True:=⟨⟩
theorem tw12276312810074249752:True:=⟨⟩
theorem tw868408268081531023:True:=⟨⟩
theorem tw15621588007003054490:True:=⟨⟩
theorem tw2516254577403717666:True:=⟨⟩
theorem tw252403123572383150:True:=⟨⟩
theorem tw5461625995895624362:True:=⟨⟩
theorem tw6073798806557272805:True:=⟨⟩
theorem tw6112148496619958874:True:=⟨⟩
theorem tw17101877414892851078:True:=⟨⟩
theorem tw12924606501355090490:True:=⟨⟩
theorem tw10276202169983344523:True:=⟨⟩
theorem tw2391586591126591759:True:=⟨⟩
theorem tw13649790178731068719:True:=⟨⟩
theorem tw7212493886534161571:True:=⟨⟩
theorem tw6222371676764338339:True:=⟨⟩
theorem tw15508759291690957256:True:=⟨⟩
theorem tw8576817559636247533:True:=⟨⟩
theorem tw8886880244756014054:True:=⟨⟩
theorem tw13128646195028222612:True:=⟨⟩
theorem tw10499193015393471814:True:=⟨⟩
theorem tw12845880047712017433:True:=⟨⟩
theorem tw9721458866180966545:True:=⟨⟩
theorem tw15398581388671696216:True:=⟨⟩
theorem tw5994935783500449793:True:=⟨⟩
theorem tw673349524970721312:True:=⟨⟩
theorem tw2230495373697768989:True:=⟨⟩
theorem tw2037235628728541818:True:=⟨⟩
theorem tw15546861133742782115:True:=⟨⟩
theorem tw4965856033029163605:True:=⟨⟩
theorem tw4911321634946466302:True:=⟨⟩
theorem tw6611833827124934209:True:=⟨⟩
theorem tw7699576818738524910:True:=⟨⟩
theorem tw17064224133556319682:True:=⟨⟩
theorem tw7395602723435524509:True:=⟨⟩
theorem tw9656468928954854916:True:=⟨⟩
theorem tw11308352735163670756:True:=⟨⟩
theorem tw6571778456751093834:True:=⟨⟩
theorem tw2301403018526948551:True:=⟨⟩
theorem tw13147007152513053703:True:=⟨⟩
theorem tw9432507686704952118:True:=⟨⟩
theorem tw7538497826447055944:True:=⟨⟩
theorem tw14855353989498808110:True:=⟨⟩
theorem tw136623669390650210:True:=⟨⟩
theorem tw2301900349564829978:True:=⟨⟩
theorem tw1154434158802513228:True:=⟨⟩
theorem tw1881424087275018623:True:=⟨⟩
theorem tw1471007716169643363:True:=⟨⟩
theorem tw458502350579729403:True:=⟨⟩
theorem tw5524264339715556057:True:=⟨⟩
theorem tw1046677109005256031:True:=⟨⟩
theorem tw13206327656811508544:True:=⟨⟩
theorem tw5576560479877397371:True:=⟨⟩
theorem tw4229759321054295710:True:=⟨⟩
theorem tw9065893342674562142:True:=⟨⟩
theorem tw18002481771958734078:True:=⟨⟩
theorem tw17835259207088601315:True:=⟨⟩
theorem tw7754687308870147373:True:=⟨⟩
theorem tw5415028791800813261:True:=⟨⟩
theorem tw7378709128767176813:True:=⟨⟩
theorem tw18304272136640282919:True:=⟨⟩
theorem tw9426406764892908391:True:=⟨⟩
theorem tw7804631079597776350:True:=⟨⟩
theorem tw6205259655824681763:True:=⟨⟩
theorem tw4576951569550085828:True:=⟨⟩
theorem tw4762704886882150486:True:=⟨⟩
theorem tw13324078783103442010:True:=⟨⟩
theorem tw5885766806633971653:True:=⟨⟩
theorem tw6609300025844929862:True:=⟨⟩
theorem tw11137380441964386588:True:=⟨⟩
theorem tw2960042191137235197:True:=⟨⟩
theorem tw15906385008748540342:True:=⟨⟩
theorem tw3360179221625369292:True:=⟨⟩
theorem tw10260826590718796136:True:=⟨⟩
theorem tw2772558150953025363:True:=⟨⟩
theorem tw3858255868018394794:True:=⟨⟩
theorem tw16465692311089066905:True:=⟨⟩
theorem tw13172404890628779636:True:=⟨⟩
theorem tw3929468690564625672:True:=⟨⟩
theorem tw15278503984420586037:True:=⟨⟩
theorem tw15290903295364642274:True:=⟨⟩
theorem tw5436525806632009043:True:=⟨⟩
theorem tw10099480278472241476:True:=⟨⟩
theorem tw6386148406068302134:True:=⟨⟩
theorem tw16389010124465953322:True:=⟨⟩
theorem tw7593650820539821608:True:=⟨⟩
theorem tw2817305363445414163:True:=⟨⟩
theorem tw17312022236071404018:True:=⟨⟩
theorem tw2012744297422237255:True:=⟨⟩
theorem tw7889097297493585679:True:=⟨⟩
theorem tw2707335737332927279:True:=⟨⟩
theorem tw16407167059352423872:True:=⟨⟩
theorem tw8012231505713117903:True:=⟨⟩
theorem tw10636742274584746703:True:=⟨⟩
theorem tw4647085118750723582:True:=⟨⟩
theorem tw1949793044147256519:True:=⟨⟩
theorem tw15037769200072071471:True:=⟨⟩
theorem tw17579788500962260930:True:=⟨⟩
theorem tw6073381083393613818:True:=⟨⟩
theorem tw13826938252584828416:True:=⟨⟩
theorem tw11625839237836150563:True:=⟨⟩
theorem tw17940030003624899912:True:=⟨⟩
theorem tw17256564393407877384:True:=⟨⟩
theorem tw4292108426058483492:True:=⟨⟩
theorem tw13205033417170641757:True:=⟨⟩
theorem tw5797628356434492649:True:=⟨⟩
theorem tw7313391407174003492:True:=⟨⟩
theorem tw2106301063296566983:True:=⟨⟩
theorem tw16221103187634519964:True:=⟨⟩
theorem tw4498005432529479576:True:=⟨⟩
theorem tw9132100132087930640:True:=⟨⟩
theorem tw8291842955723733887:True:=⟨⟩
theorem tw2901941748035127001:True:=⟨⟩
theorem tw17790013490510161679:True:=⟨⟩
theorem tw7371990443775274260:True:=⟨⟩
theorem tw18327308758466934182:True:=⟨⟩
theorem tw13925309530481045252:True:=⟨⟩
theorem tw10677589309899108877:True:=⟨⟩
theorem tw2903489815055117919:True:=⟨⟩
theorem tw275303479473238491:True:=⟨⟩
theorem tw11998882779196986417:True:=⟨⟩
theorem tw13669638823234206067:True:=⟨⟩
theorem tw6695797111468947502:True:=⟨⟩
theorem tw13535617162493986120:True:=⟨⟩
theorem tw11142022977057438852:True:=⟨⟩
theorem tw11825827852594044765:True:=⟨⟩
theorem tw6179019847511453528:True:=⟨⟩
theorem tw9976160299245158065:True:=⟨⟩
theorem tw12035525939150760405:True:=⟨⟩
theorem tw16124705676289515064:True:=⟨⟩
theorem tw13777641347959386586:True:=⟨⟩
theorem tw2931498027855374790:True:=⟨⟩
theorem tw12281328648580447910:True:=⟨⟩
theorem tw3954583013886303335:True:=⟨⟩
theorem tw11726736594272617445:True:=⟨⟩
theorem tw8291602794694035223:True:=⟨⟩
theorem tw7257735831859784687:True:=⟨⟩
theorem tw16912804047418528399:True:=⟨⟩
theorem tw11405573676363224120:True:=⟨⟩
theorem tw17171738756810840778:True:=⟨⟩
theorem tw10512355899217867901:True:=⟨⟩
theorem tw11617643984423031783:True:=⟨⟩
theorem tw14831158413354640686:True:=⟨⟩
theorem tw4897411471790522453:True:=⟨⟩
theorem tw9932077015049455914:True:=⟨⟩
theorem tw16591456175254208550:True:=⟨⟩
theorem tw15255793331909849015:True:=⟨⟩
theorem tw15016786317153422970:True:=⟨⟩
theorem tw6250643273182831159:True:=⟨⟩
theorem tw16337936421234997000:True:=⟨⟩
theorem tw1637989388160874586:True:=⟨⟩
theorem tw4791507664671339759:True:=⟨⟩
theorem tw809233695211281738:True:=⟨⟩
theorem tw14300338046878006167:True:=⟨⟩
theorem tw11626103330215389251:True:=⟨⟩
theorem tw3376428378966171057:True:=⟨⟩
theorem tw5083384325519938385:True:=⟨⟩
theorem tw13710627031936515003:True:=⟨⟩
theorem tw11438028395360143135:True:=⟨⟩
theorem tw15730645124908784135:True:=⟨⟩
theorem tw2980258779131402950:True:=⟨⟩
theorem tw15000827762279870605:True:=⟨⟩
theorem tw15830005923985474324:True:=⟨⟩
theorem tw13882173374032397015:True:=⟨⟩
theorem tw5938912131682743218:True:=⟨⟩
theorem tw10591765629303647797:True:=⟨⟩
theorem tw11388307901966256110:True:=⟨⟩
theorem tw3369919954713076839:True:=⟨⟩
end PySem.W.Fast
open PySem PySem.W PyProof.Rows
set_option maxRecDepth 100000 in
set_option maxHeartbeats 0 in
theorem PySem.Challenge.cw_strokegrow_k63_whole_elders_hold_the_wor_holds : PySem.Challenge.rw_strokegrow_k63_whole_elders_hold_the_wor.Holds := by
 w_on;o_law;k_head;(case hw=>w_witness2)
 k_fill
 refine L2.uF (l:=PySem.Challenge.rw_strokegrow_k63_whole_elders_hold_the_wor) (n:=63) (k:=9) (x:="_law_script") (CX:=Pf.CX) (sp:=fun K=>Pf.wF K) rfl (by decide) rfl ⟨rfl,by decide,by decide⟩ (fun w h Y=>PySem.W.kIn_of Y) ?F ?S ?C
 case F=>
   intro w mg fa h KX G Dw
   have T:∃ t,Pf.Txt (L2.HP KX) mg t∧t.fY=fa:=by
     dsimp only [L2.HP]
     obtain⟨t,T,e⟩:∃ t,Pf.Txt _ mg t∧t.fY=_:=by
       refine' Pf.B8 KX G ?_ ?_ ?_ ?_ ?_ ?_ ?_ ?_ ?_ ?_ ?_ ?_ ?_ ?_ ?_ ?_ ?_ ?_ ?_ ?_ ?_ ?_ ?_ ?_ ?_ ?_ ?_ ?_ ?_ ?_ ?_ ?_ ?_ ?_ ?_ ?_ ?_ ?_ ?_ ?_ ?_ ?_ ?_ ?_ ?_ ?_ ?_ ?_ ?_ ?_ ?_ ?_ ?_ ?_ ?_ ?_ ?_ ?_ ?_
       any_goals walk_at "z"
     refine⟨t,T,?_⟩
     have e0:=Dw.symm.trans (T.g T.oy.a)
     cases e0
     rfl
   obtain⟨t,T,e⟩:=T
   subst e
   refine' ⟨t.ko,?b,fun base kb nb=>Pf.Cw T⟩
   exact Pf.B9 T
 case S=>exact fun K H a ns hl hO hS=>Pf.Cf hl hS
 case C=>exact fun H s e s' h=>h
