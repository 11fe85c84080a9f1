import PyProof.Rows.All
import Wide.All
import OpenK.AllK
import Wide.FinOn
import Lean
import PyProof.EqAt
import PyProof.EqKinds
import PyProof.TupleCall
import PyProof.WalksEnum
import PyProof.EnumMake
import PyProof.ZipIter
import PyProof.ReprStr
import PyProof.StrBlockG
import PyProof.StrWalks
import PyProof.FString5
import PyProof.ConsumeWalk
import PyProof.SumAny
import PyProof.StrCalls2
import KE.KDictList
import PyProof.Draws
import PyProof.StrBlock2
import PyProof.DictIter
import PyProof.ExcInit
import PyProof.ExcClass3
import PyProof.FString
import PyProof.FitsInt
import PyProof.StrLawsRepr
import PyProof.Rows.Range3
import PyProof.StrCalls
import PyProof.ListRange
import PyProof.AttrMissHeap
import KE.KDictOf
import PyProof.StrCalls3
import PyProof.FactsAll.dict_2
import PyProof.MeetsIn
import PyProof.Cells
import KE.KDictSum
import PyProof.DictWalks
import KE.KRevIter
import PyProof.FactsAll.subtypes_3
import PyProof.Rows.SortWalk
import KE.KSortedM
import PyProof.Rows.SortStr
import PyProof.MinMaxWalk
import PyProof.WalkInts
import PyProof.SeqI3
import PyProof.Rows.CallKwBuiltin
import KE.KUnpack
import PyProof.Rows.SeqMore2
import PyProof.LongRange
import PyProof.FactsAll.range_2
import PyProof.StrCalls6
import KE.KSortTup
import PyProof.Rows.SortRunK
import PyProof.SetScanFacts
import PyProof.TupleKey
import PyProof.SetKind
import PyProof.DictKinds
import PyProof.FactsAll.tuple
import PyProof.FactsAll.tuple_2
import PyProof.Rows.SetFrom
import PyProof.SetRoads
import KE.KIntText
import PyProof.CallStr
import PyProof.MeetsStr
import PyProof.Rows.StrJoin2
import PyProof.StrBlockL
import PySem.Challenge.RW_strokegrow_k84_shared_lines
theorem qcp (h:True:=by rfl):True:=h
def qc:Lean.Syntax:=qcp._auto_1
theorem qdp (h:True:=by decide):True:=h
def qd:Lean.Syntax:=qdp._auto_1
theorem qep (h:True:=by first | exact .inl rfl | exact .inr rfl | assumption):True:=h
def qe:Lean.Syntax:=qep._auto_1
theorem qfp (h:True:=by intro _;rfl):True:=h
def qf:Lean.Syntax:=qfp._auto_1
theorem qgp (h:True:=by first | exact bF rfl | exact bp rfl):True:=h
def qg:Lean.Syntax:=qgp._auto_1
theorem qhp (h:True:=by intro _ _;rfl):True:=h
def qh:Lean.Syntax:=qhp._auto_1
theorem qip (h:True:=by first | exact .inl rfl | exact .inr rfl):True:=h
def qi:Lean.Syntax:=qip._auto_1
theorem qjp (h:True:=by first | exact bF rfl | exact bp (bF rfl) | exact bp (bp rfl)):True:=h
def qj:Lean.Syntax:=qjp._auto_1
theorem AA3 {a b:Nat}(h:autoParam (Nat.ble a b=true) qc):a<=b:=Nat.le_of_ble_eq_true h
set_option Elab.async false
set_option linter.all false
set_option maxRecDepth 100000
section
open PySem.Heap renaming get?_push_of_some→aa, lt_size→ah, get?_push_size→ax, SameBut→aM, get?_update_self→bA, size_push→bD, get?_update_ne→b0
open List renaming length_map→ae, getD_eq_getElem?_getD→af, getElem?_eq_getElem→ak, getElem?_set_self→ao, getElem?_set_ne→ar, getElem?_map→av, size_toArray→aw, mem_append_right→aA, getElem?_eq_some_iff→aC, getElem?_eq_none→aE, mem_cons_of_mem→aF, getElem?_append_right→aG, getElem?_append_left→aH, length_append→aI, mem_cons→aK, map_cons→aL, mem_cons_self→aP, mem_range→aQ, range→aR, append_nil→aU, getElem?_cons_succ→aW, length_range→aX, length_singleton→aY, length_take→bb, lookup_cons→bc, length_cons→bf, mem_map→bh, eraseIdx_eq_take_drop_succ→bj, getElem?_replicate→bo, mem_singleton→bq, mem_append→br, nodup_cons→bt, length_filter_le→bw, replicate→bC, mem_of_getElem?→bE, perm_ext_iff_of_nodup→bG, getElem_mem→bL, getElem?_take_of_lt→bP, map_append→bQ, take_add_one→bS, pairwise_map→bT, filterMap_cons→bX, mem_map_of_mem→bZ, Pairwise→b7
open Nat renaming le_refl→ag, ne_of_lt→au, lt_of_lt_of_le→ay, zero_le→aJ, le_trans→aO, lt_succ_of_lt→a9, lt_irrefl→bu, lt_trichotomy→bB, le_of_lt→bH, lt_succ_self→bI, le_of_not_lt→bJ, lt_of_le_of_lt→bR, lt_succ_iff→bW, succ_pos→b5, le_succ→b6
open Bool renaming false_eq_true→ai, false_ne_true→aD, not_true→aN, and_eq_true→bK, eq_iff_iff→bV
open Exists renaming elim→aj
open Array renaming getD_eq_getD_getElem?→aB, forIn_toList→aV, toList_inj→aZ, length_toList→ba, perm_iff_toList_perm→bg, getElem?_toList→bx, getElem?_eq_getElem→bM, getD→bU
open Or renaming inr→bp, inl→bF
open Classical renaming byContradiction→bN
open Option renaming isSome_iff_exists→bO
theorem zc {α:Sort u}{p q r:α->Prop}(h:∃ x,p x∧q x)(f:∀ x,p x->q x->r x):∃ x,p x∧r x:=Exists.elim h fun x h=>⟨x,h.1,f x h.1 h.2⟩
namespace L2
open PySem PySem.Spec PyProof.Rows
noncomputable abbrev Key:=Sum Int Str
noncomputable def keyIs:Key->Value->Bool
 | .inl k,v=>Value.isInt k v
 | .inr x,v=>Value.isStrOf x v
noncomputable def keyH (w:World):Key->Int
 | .inl k=>hashInt k
 | .inr x=>hashStr w x
theorem keyIs_shape:∀ {k:Key} {v:Value},keyIs k v=true->(∃ i t,k=Sum.inl i/\v=Value.int i t)\/(∃ x t,k=Sum.inr x/\v=Value.str x t)
 | .inl i,v,h=>by
   obtain⟨t,e⟩:=Value.isInt_shape (k:=i) (v:=v) h;exact .inl ⟨i,t,rfl,e⟩
 | .inr x,v,h=>by
   obtain⟨t,e⟩:=Value.isStrOf_shape (x:=x) (v:=v) h;exact .inr ⟨x,t,rfl,e⟩
theorem key_ll (a b:Int):decide ((Sum.inl a:Key)=Sum.inl b)=(a == b):=by
 by_cases e:a=b
 . subst e;simp
 . have h:¬ (Sum.inl a:Key)=Sum.inl b:=fun q=>e (Sum.inl.inj q)
   rw[decide_eq_false h];exact(beq_eq_false_iff_ne.mpr e).symm
theorem key_rr (a b:Str):decide ((Sum.inr a:Key)=Sum.inr b)=decide (a=b):=by
 by_cases e:a=b
 . subst e;simp
 . have h:¬ (Sum.inr a:Key)=Sum.inr b:=fun q=>e (Sum.inr.inj q)
   rw[decide_eq_false h,decide_eq_false e]
theorem key_lr (a:Int)(b:Str):decide ((Sum.inl a:Key)=Sum.inr b)=false:=decide_eq_false (fun q=>nomatch q)
theorem key_rl (a:Str)(b:Int):decide ((Sum.inr a:Key)=Sum.inl b)=false:=decide_eq_false (fun q=>nomatch q)
noncomputable def mixKind (prog:Program)(w:World):PySem.KeyKind prog w Key where
 is:=keyIs
 hash:=keyH w
 inj:=fun v a b ha hb=>by
   rcases keyIs_shape ha with⟨i,t,rfl,rfl⟩ | ⟨x,t,rfl,rfl⟩
   . rcases keyIs_shape hb with⟨j,u,rfl,e⟩ | ⟨y,u,rfl,e⟩
     . injection e with e1 _;rw[e1]
     . exact nomatch e
   . rcases keyIs_shape hb with⟨j,u,rfl,e⟩ | ⟨y,u,rfl,e⟩
     . exact nomatch e
     . injection e with e1 _;rw[e1]
 byValue:=fun k v h=>by
   rcases keyIs_shape h with⟨i,t,rfl,rfl⟩ | ⟨x,t,rfl,rfl⟩ <;> rfl
 pyHash:=fun hv h=>by
   rcases keyIs_shape hv with⟨i,t,rfl,rfl⟩ | ⟨x,t,rfl,rfl⟩
   . exact wpAny_pyHash_int h
   . exact wpAny_pyHash_str h
 eqBool:=fun hu hv h=>by
   rcases keyIs_shape hu with⟨i,t,rfl,rfl⟩ | ⟨x,t,rfl,rfl⟩
   . rcases keyIs_shape hv with⟨j,u,rfl,rfl⟩ | ⟨y,u,rfl,rfl⟩
     . rw[key_ll] at h;exact wpAny_eqBool_int h
     . rw[key_lr] at h;exact SeqAt.EqAt.int_str i t y u _ _ _ _ h
   . rcases keyIs_shape hv with⟨j,u,rfl,rfl⟩ | ⟨y,u,rfl,rfl⟩
     . rw[key_rl] at h;exact SeqAt.EqAt.str_int x t j u _ _ _ _ h
     . rw[key_rr] at h;exact wpAny_eqBool_str h
 «strs»:=fun k x t v h=>by
   rcases keyIs_shape h with⟨i,u,rfl,e⟩ | ⟨y,u,rfl,e⟩
   . exact nomatch e
   . injection e with e1 _
     subst e1;cases v <;> rfl
inductive V where
 | non | bl (b:Bool) | int (i:Int) | str (x:Str) | byt (b:Array UInt8) | flt (b:UInt64) | ref (a:Addr) | ty (n:String)
 deriving DecidableEq
def RelV:V->Value->Prop
 | .non,u=>u=Value.none
 | .bl b,u=>u=Value.bool b
 | .int i,u=>∃ t,u=Value.int i t
 | .str x,u=>∃ t,u=Value.str x t
 | .byt b,u=>∃ t,u=Value.bytes b t
 | .flt b,u=>∃ t,u=Value.float b t
 | .ref a,u=>u=Value.ref a
 | .ty n,u=>u=Value.type n
abbrev Vals:List V->List Value->Prop:=Paired RelV
theorem Vals.length {xs:List V}{us:List Value}(r:Vals xs us):xs.length=us.length:=Paired.length r
theorem Vals.get:∀ {xs:List V} {us:List Value} {i:Nat} {x:V},Vals xs us->xs[i]?=some x->∃ u,us[i]?=some u/\RelV x u
 | _,_,_,_,.nil,e=>by simp at e
 | _,_,0,_,.cons r _,e=>by simp at e;subst e;exact⟨_,rfl,r⟩
 | _,_,i+1,x,.cons _ t,e=>by
   obtain⟨u,h1,h2⟩:=Vals.get (i:=i) (x:=x) t (by simpa using e);exact⟨u,by simpa using h1,h2⟩
theorem Vals.append:∀ {xs ys:List V} {us ws:List Value},Vals xs us->Vals ys ws->Vals (xs ++ ys) (us ++ ws)
 | _,_,_,_,.nil,s=>s
 | _,_,_,_,.cons r t,s=>.cons r (Vals.append t s)
def RelO:Option V->Option Value->Prop
 | some v,some u=>RelV v u
 | none,none=>True
 | _,_=>False
def KV {κ:Type}:List (κ×V)->List (κ×Value)->Prop:=Paired fun(p:κ×V) (q:κ×Value)=>p.1=q.1/\RelV p.2 q.2
noncomputable def kV:Key->V
 | .inl i=>.int i
 | .inr x=>.str x
inductive FD where
 | int (i:Int)
 | dic (kds:List (Key×Int))
 | lst (ns:List Int)
 | tup (K:W.Frag) (ns:List Int)
 | obj (C:Addr) (fs:List (Str×FD))
noncomputable abbrev MLs:=List (Addr×(Nat->List (Key×FD)))
inductive HO where
   | lst (xs:List V)
   | tup (xs:List V)
   | dK (kvs:List (Key×V)) | dT (kvs:List (List Key×V))
   | set (S:Int->Bool) (n:Nat)
   | ins (C dx:Addr) (fs:List (Str×V))
   | own (x:Addr)
   | xd (fs:List (Str×V))
   | met (f x:Addr)
   | rng (lo hi:Int)
   | frz (o:Obj) (u:HO)
   | tbl (ps:Array Value)
   | ext (φ:Heap->Prop)
   | memo (ls:MLs)
 | memoX (ls:MLs) (ns:List Nat)
   | part (p:Addr)
   | kd (tg:Option (Addr×Nat)) (o:Obj) (kvs:List (Key×V))
   | kx (o:Obj) (u:HO)
noncomputable abbrev Hp:=Addr->Option HO
noncomputable def upd (H:Hp)(a:Addr)(o:HO):Hp:=fun b=>if b=a then some o else H b
theorem upd_same {H:Hp}{a:Addr}{o:HO}:upd H a o a=some o:=by unfold upd;rw[if_pos rfl]
theorem upd_ne {H:Hp}{a b:Addr}{o:HO}(h:b≠a):upd H a o b=H b:=by unfold upd;rw[if_neg h]
theorem ne_of_none {H:Hp}{a b:Addr}{o:HO}(h:H a=some o)(h':H b=none):a≠b:=by
 intro e;subst e;rw[h] at h';cases h'
def IsMemo:Option HO->Prop
 | some (.memo _)=>True
 | some (.memoX _ _)=>True
 | some (.part _)=>True
 | _=>False
def Kept:HO->Prop
 | .kd _ _ _=>True
 | .kx _ _=>True
 | .tup _=>True
 | _=>False
def TupAt (K:W.Frag)(H:Hp)(a:Addr)(xs:List V):Prop:=
 H a=some (.tup xs) \/
   ∃ (o:Obj) (its:Array Value) (n:Nat),K.lookup a=some o/\o.cls=.type "tuple"/\o.data=.seq its n/\its.size<=sizeLine/\Vals xs its.toList
mutual
inductive Fz (H:Hp):V->FD->Prop
 | int (i:Int):Fz H (.int i) (.int i)
 | dic {a:Addr} {tg:Option (Addr×Nat)} {o:Obj} {kds:List (Key×Int)}:H a=some (.kd tg o (kds.map fun kd=>(kd.1,V.int kd.2)))->Fz H (.ref a) (.dic kds)
 | lst {a:Addr} {o:Obj} {ns:List Int}:H a=some (.kx o (.lst (ns.map V.int)))->Fz H (.ref a) (.lst ns)
 | tup {a:Addr} {K:W.Frag} {ns:List Int}:TupAt K H a (ns.map V.int)->Fz H (.ref a) (.tup K ns)
 | obj {a C dx:Addr} {o:Obj} {fv:List (Str×V)} {fs:List (Str×FD)}:H a=some (.kx o (.ins C dx fv))->FzF H fv fs->Fz H (.ref a) (.obj C fs)
inductive FzF (H:Hp):List (Str×V)->List (Str×FD)->Prop
 | nil:FzF H [] []
 | cons {k:Str} {v:V} {d:FD} {vs:List (Str×V)} {ds:List (Str×FD)}:Fz H v d->FzF H vs ds->FzF H ((k,v)::vs) ((k,d)::ds)
end
inductive FzK (H:Hp):List (Key×V)->List (Key×FD)->Prop
 | nil:FzK H [] []
 | cons {k:Key} {v:V} {d:FD} {kvs:List (Key×V)} {kds:List (Key×FD)}:Fz H v d->FzK H kvs kds->FzK H ((k,v)::kvs) ((k,d)::kds)
def ItemOk (H:Hp)(p:Addr)(i:Nat)(its:List Value)(fd:List (Key×FD)):Prop:=∃ q o kvs,its[i]?=some (.ref q)/\H q=some (.kd (some (p,i)) o kvs)/\FzK H kvs fd
def LstOk (H:Hp)(h:Heap)(p:Addr)(f:Nat->List (Key×FD))(n:Nat):Prop:=∃ its c,h.get? p=some { cls:=.type "list",data:=.seq (its:List Value).toArray c}/\its.length=n/\∀ i,i < n->ItemOk H p i its (f i)
def MemoOk (H:Hp)(h:Heap)(a:Addr)(ls:MLs)(ns:List Nat):Prop:=(∃ f,ls[0]?=some (a,f))/\ls.length=ns.length/\(∀ (j:Nat) (p:Addr) (f:Nat->List (Key×FD)),ls[j]?=some (p,f)->(p=a\/H p=some (.part a)))/\(ls.map (·.1)).Nodup/\(∀ n∈ns,n<=10000)/\∀ (j:Nat) (p:Addr) (f:Nat->List (Key×FD)) (n:Nat),ls[j]?=some (p,f)->ns[j]?=some n->LstOk H h p f n
section
variable (P:Program)(w:World)
def ObjOk (H:Hp)(h:Heap)(a:Addr):HO->Prop
 | .lst xs=>xs.length<=sizeLine/\∃ (its:List Value) (n:Nat),Vals xs its/\h.get? a=some { cls:=.type "list",data:=.seq its.toArray n}
 | .tup xs=>xs.length<=sizeLine/\∃ its:List Value,Vals xs its/\IsTup h a its.toArray
 | .dK kvs=>kvs.length<=sizeLine/\(a == sysModules)=false/\∃ vs,KV kvs vs/\h.DictOf (mixKind P w) a vs
 | .dT kvs=>kvs.length<=sizeLine/\(a == sysModules)=false/\∃ xs:List (List Key×Addr×Value),
     Paired (fun(p:List Key×V) (q:List Key×Addr×Value)=>p.1=q.1/\H q.2.1=some (.tup (p.1.map kV))/\RelV p.2 q.2.2) kvs xs /\
     ∃ o es ep,h.get? a=some o/\o.ExactDict/\o.data=.dict es ep/\es.toList=xs.map (entryOfKey (tupleKind (mixKind P w)))/\(xs.map (·.1)).Nodup
 | .set S n=>h.SetOf (intKind P w) a S n
 | .ins C dx fs=>H dx=some (.own a)/\fs.length<=1000/\dx≠a/\h.get? a=some (W.instObj C dx) /\
     ∃ mA,h.Ns1 dx mA/\(∀ f,RelO (fs.lookup f) (mA f))/\PySem.Within mA (fs.map (·.1))
 | .own _=>∃ o,h.get? a=some o
 | .xd fs=>∃ mA,h.Ns1 a mA/\∀ f,RelO (fs.lookup f) (mA f)
 | .rng lo hi=>∃ t u v,h.get? a=some { cls:=.type "range",data:=.fields #[.int lo t,.int hi u,.int 1 v]}
 | .frz o u=>h.get? a=some o/\ObjOk H h a u
 | .tbl ps=>h.get? a=some { cls:=.none,data:=.fields ps}
 | .met f x=>h.get? a=some (W.methodObj (.ref f) (.ref x))
 | .ext φ=>φ h/\(∃ o,h.get? a=some o)/\∀ h1 h2:Heap,φ h1->(∀ o,h1.get? a=some o->h2.get? a=some o)->φ h2
 | .memo ls=>(∃ o,h.get? a=some o)/\∃ n,0 < n/\MemoOk H h a ls (bC ls.length n)
 | .memoX ls ns=>(∃ o,h.get? a=some o)/\MemoOk H h a ls ns
 | .part _=>∃ o,h.get? a=some o
 | .kd tg o kvs=>h.get? a=some o/\(kvs.length<=sizeLine/\(a == sysModules)=false/\∃ vs,KV kvs vs/\h.DictOf (mixKind P w) a vs) /\
     ∀ p i,tg=some (p,i)->IsMemo (H p)/\∃ its c,h.get? p=some { cls:=.type "list",data:=.seq (its:List Value).toArray c}/\its[i]?=some (.ref a)
 | .kx o u=>h.get? a=some o/\ObjOk H h a u
def HOk (H:Hp)(h:Heap):Prop:=∀ a o,H a=some o->ObjOk P w H h a o
end
section
variable {P:Program}{w:World}{H H':Hp}{h h':Heap}{a:Addr}{o:HO}
theorem ObjOk.lt (x:ObjOk P w H h a o):a < h.objs.size:=by
 cases o with
 | lst xs=>obtain⟨_,_,_,_,e⟩:=x;exact ah e
 | tup xs=>obtain⟨_,_,_,p⟩:=x;exact p.lt
 | dK kvs=>obtain⟨_,_,_,_,o,_,_,e,_⟩:=x;exact ah e
 | dT kvs=>obtain⟨_,_,_,_,o,_,_,e,_⟩:=x;exact ah e
 | set S n=>obtain⟨o,_,_,_,e,_⟩:=x;exact ah e
 | ins C dx fs=>obtain⟨_,_,_,e,_⟩:=x;exact ah e
 | own y=>obtain⟨_,e⟩:=x;exact ah e
 | xd fs=>obtain⟨_,⟨_,_,_,e,_⟩,_⟩:=x;exact ah e
 | rng lo hi=>obtain⟨_,_,_,e⟩:=x;exact ah e
 | frz ob u=>obtain⟨e,_⟩:=x;exact ah e
 | tbl ps=>exact ah (show h.get? a=some _ from x)
 | met f y=>exact ah (show h.get? a=some _ from x)
 | ext φ=>obtain⟨_,⟨_,e⟩,_⟩:=x;exact ah e
 | memo ls=>obtain⟨⟨_,e⟩,_⟩:=x;exact ah e
 | memoX ls ns=>obtain⟨⟨_,e⟩,_⟩:=x;exact ah e
 | part y=>obtain⟨_,e⟩:=x;exact ah e
 | kd tg ob kvs=>exact ah x.1
 | kx ob u=>exact ah x.1
theorem Paired.mapP {α β:Type}{F G:α->β->Prop}:∀ {l₁:List α} {l₂:List β},Paired F l₁ l₂->(∀ a b,F a b->G a b)->Paired G l₁ l₂
 | _,_,.nil,_=>.nil
 | _,_,.cons r t,f=>.cons (f _ _ r) (Paired.mapP t f)
structure Kp (H H':Hp):Prop where
 st:∀ b u,H b=some u->Kept u->H' b=some u
 mem:∀ b,IsMemo (H b)->IsMemo (H' b)
 part:∀ b x,H b=some (.part x)->H' b=some (.part x)
theorem Kp.kd (kp:Kp H H')(b:Addr)(tg:Option (Addr×Nat))(o:Obj)(kvs:List (Key×V))(e:H b=some (.kd tg o kvs)):H' b=some (.kd tg o kvs):=kp.st b _ e trivial
theorem Kp.refl:Kp H H:=⟨fun _ _ e _=>e,fun _ e=>e,fun _ _ e=>e⟩
theorem Kp.of (s:∀ b u,H b=some u->H' b=some u):Kp H H':=⟨fun _ _ e _=>s _ _ e,fun b e=>by
 cases q:H b with
 | none=>rw[q] at e;exact e.elim
 | some u=>rw[s b u q,<- q];exact e,fun _ _ e=>s _ _ e⟩
theorem TupAt.kp {K:W.Frag}{xs:List V}(k:∀ b u,H b=some u->Kept u->H' b=some u)(h:TupAt K H a xs):TupAt K H' a xs:=h.imp (fun e=>k _ _ e trivial) id
mutual
theorem Fz.st (k:∀ b u,H b=some u->Kept u->H' b=some u):∀ {v:V} {d:FD},Fz H v d->Fz H' v d
 | _,_,.int i=>.int i
 | _,_,.dic e=>.dic (k _ _ e trivial)
 | _,_,.lst e=>.lst (k _ _ e trivial)
 | _,_,.tup e=>.tup (e.kp k)
 | _,_,.obj e f=>.obj (k _ _ e trivial) (FzF.st k f)
theorem FzF.st (k:∀ b u,H b=some u->Kept u->H' b=some u):∀ {v:List (Str×V)} {d:List (Str×FD)},FzF H v d->FzF H' v d
 | _,_,.nil=>.nil
 | _,_,.cons h t=>.cons (Fz.st k h) (FzF.st k t)
end
theorem Fz.kp (kp:Kp H H'){v:V}{d:FD}(h:Fz H v d):Fz H' v d:=h.st kp.st
theorem FzK.kp (kp:Kp H H'):∀ {kvs:List (Key×V)} {kds:List (Key×FD)},FzK H kvs kds->FzK H' kvs kds
 | _,_,.nil=>.nil
 | _,_,.cons h t=>.cons (h.kp kp) (FzK.kp kp t)
theorem LstOk.kp {p:Addr}{f:Nat->List (Key×FD)}{n:Nat}(kp:Kp H H')(x:LstOk H h p f n)(k:∀ u,h.get? p=some u->h'.get? p=some u):LstOk H' h' p f n:=by
 obtain⟨its,c,e,hl,hi⟩:=x;exact⟨its,c,k _ e,hl,fun i hn=>let ⟨q,o,kvs,h1,h2,h3⟩:=hi i hn;⟨q,o,kvs,h1,kp.kd _ _ _ _ h2,h3.kp kp⟩⟩
theorem MemoOk.kp {ls:MLs}{ns:List Nat}(kp:Kp H H')(x:MemoOk H h a ls ns)(k:∀ b u,b=a\/H b=some (.part a)->h.get? b=some u->h'.get? b=some u):MemoOk H' h' a ls ns:=by
 obtain⟨h1,h2,h3,h4,h5,h6⟩:=x;exact⟨h1,h2,fun j p f e=>(h3 j p f e).imp id fun z=>kp.part _ _ z,h4,h5,fun j p f n e1 e2=>(h6 j p f n e1 e2).kp kp fun u e=>k p u (h3 j p f e1) e⟩
def LAt (h:Heap)(p:Addr)(i:Nat)(c:Addr):Prop:=∃ its n,h.get? p=some { cls:=.type "list",data:=.seq (its:List Value).toArray n}/\its[i]?=some (.ref c)
theorem ObjOk.stayG (x:ObjOk P w H h a o)(k:∀ b u,(b=a\/H b=some (.own a)\/H b=some (.part a))->h.get? b=some u->h'.get? b=some u)(ho:∀ b,H b=some (.own a)->H' b=some (.own a))(ht:∀ b xs,H b=some (.tup xs)->H' b=some (.tup xs))(kp:Kp H H')(hl:∀ p i c,IsMemo (H p)->LAt h p i c->LAt h' p i c):ObjOk P w H' h' a o:=by
 induction o with
 | lst xs=>obtain⟨z,its,n,r,e⟩:=x;exact⟨z,its,n,r,k _ _ (.inl rfl) e⟩
 | tup xs=>obtain⟨z,its,r,ob,e,c⟩:=x;exact⟨z,its,r,ob,k _ _ (.inl rfl) e,c⟩
 | dK kvs=>obtain⟨z,y,vs,r,ob,es,ep,e,c⟩:=x;exact⟨z,y,vs,r,ob,es,ep,k _ _ (.inl rfl) e,c⟩
 | dT kvs=>
   obtain⟨z,y,xs,r,ob,es,ep,e,c⟩:=x;exact⟨z,y,xs,Paired.mapP r fun p q z=>⟨z.1,ht _ _ z.2.1,z.2.2⟩,ob,es,ep,k _ _ (.inl rfl) e,c⟩
 | set S n=>obtain⟨ob,es,ep,t,e,c⟩:=x;exact⟨ob,es,ep,t,k _ _ (.inl rfl) e,c⟩
 | ins C dx fs=>
   obtain⟨d,z,ne,e,mA,⟨od,es,ep,e2,c⟩,r⟩:=x;exact⟨ho _ d,z,ne,k _ _ (.inl rfl) e,mA,⟨od,es,ep,k _ _ (.inr (.inl d)) e2,c⟩,r⟩
 | own y=>obtain⟨ob,e⟩:=x;exact⟨ob,k _ _ (.inl rfl) e⟩
 | xd fs=>obtain⟨mA,⟨od,es,ep,e,c⟩,r⟩:=x;exact⟨mA,⟨od,es,ep,k _ _ (.inl rfl) e,c⟩,r⟩
 | rng lo hi=>obtain⟨t,u,v,e⟩:=x;exact⟨t,u,v,k _ _ (.inl rfl) e⟩
 | frz ob u ih=>obtain⟨e,q⟩:=x;exact⟨k _ _ (.inl rfl) e,ih q⟩
 | tbl ps=>
   have e:h.get? a=some { cls:=.none,data:=.fields ps}:=x;show h'.get? a=some { cls:=.none,data:=.fields ps};exact k a _ (.inl rfl) e
 | met f y=>
   have e:h.get? a=some (W.methodObj (.ref f) (.ref y)):=x;show h'.get? a=some (W.methodObj (.ref f) (.ref y));exact k a _ (.inl rfl) e
 | ext φ=>obtain⟨p,⟨o,e⟩,st⟩:=x;exact⟨st _ _ p fun o q=>k _ _ (.inl rfl) q,⟨o,k _ _ (.inl rfl) e⟩,st⟩
 | memo ls=>
   obtain⟨⟨o,e⟩,n,hn,q⟩:=x;refine⟨⟨o,k _ _ (.inl rfl) e⟩,n,hn,q.kp kp fun b u hb=>k b u ?_⟩;rcases hb with z | z
   . exact .inl z
   . exact .inr (.inr z)
 | memoX ls ns=>
   obtain⟨⟨o,e⟩,q⟩:=x;refine⟨⟨o,k _ _ (.inl rfl) e⟩,q.kp kp fun b u hb=>k b u ?_⟩;rcases hb with z | z
   . exact .inl z
   . exact .inr (.inr z)
 | part y=>obtain⟨o,e⟩:=x;exact⟨o,k _ _ (.inl rfl) e⟩
 | kd tg ob kvs=>
   obtain⟨e,⟨z,y,vs,r,ob',es,ep,e',c⟩,q⟩:=x;refine⟨k _ _ (.inl rfl) e,⟨z,y,vs,r,ob',es,ep,k _ _ (.inl rfl) e',c⟩,fun p i ht=>?_⟩;obtain⟨q1,q2⟩:=q p i ht;exact⟨kp.mem _ q1,hl p i _ q1 q2⟩
 | kx ob u ih=>obtain⟨e,q⟩:=x;exact⟨k _ _ (.inl rfl) e,ih q⟩
theorem ObjOk.stay (x:ObjOk P w H h a o)(k:∀ b u,(b=a\/H b=some (.own a)\/IsMemo (H b))->h.get? b=some u->h'.get? b=some u)(ho:∀ b,H b=some (.own a)->H' b=some (.own a))(ht:∀ b xs,H b=some (.tup xs)->H' b=some (.tup xs))(kp:Kp H H'):ObjOk P w H' h' a o:=
 x.stayG (fun b u hb=>k b u (by
   rcases hb with z | z | z
   . exact .inl z
   . exact .inr (.inl z)
   . exact .inr (.inr (by rw[z];trivial)))) ho ht kp fun p i c hm ⟨its,n,e,q⟩=>⟨its,n,k p _ (.inr (.inr hm)) e,q⟩
theorem HOk.lt (x:HOk P w H h)(e:H a=some o):a < h.objs.size:=(x a o e).lt
theorem HOk.fresh (x:HOk P w H h)(e:h.objs.size<=a):H a=none:=by
 cases q:H a with
 | none=>rfl
 | some u=>exact absurd (ay (x.lt q) e) (bu _)
theorem HOk.kept (x:HOk P w H h)(k:∀ b u,h.get? b=some u->h'.get? b=some u):HOk P w H h':=fun a o e=>
 (x a o e).stay (fun b u _ q=>k b u q) (fun _ q=>q) (fun _ _ q=>q) .refl
theorem HOk.laid (x:HOk P w H h)(k:∀ b u,h.get? b=some u->h'.get? b=some u)(hp:h.objs.size<=a)(new:ObjOk P w (upd H a o) h' a o):HOk P w (upd H a o) h':=fun b u e=>by
 have hn:=x.fresh hp;by_cases hb:b=a
 . subst hb;rw[upd_same] at e;cases e;exact new
 . rw[upd_ne hb] at e
   exact(x b u e).stay (fun c v _ q=>k c v q) (fun c q=>by rw[upd_ne (ne_of_none q hn)];exact q) (fun c xs q=>by rw[upd_ne (ne_of_none q hn)];exact q) (.of fun c u q=>by rw[upd_ne (ne_of_none q hn)];exact q)
end
def Rd (H:Hp)(a:Addr)(u:HO):Prop:=H a=some u\/(∃ o,H a=some (.frz o u))\/(∃ tg o kvs,H a=some (.kd tg o kvs)/\u=.dK kvs)\/∃ o,H a=some (.kx o u)
theorem Rd.of {H:Hp}{a:Addr}{u:HO}(h:H a=some u):Rd H a u:=.inl h
theorem Rd.ok {P:Program}{w:World}{H:Hp}{h:Heap}{a:Addr}{u:HO}(r:Rd H a u)(x:HOk P w H h):ObjOk P w H h a u:=by
 rcases r with r | ⟨o,r⟩ | ⟨tg,o,kvs,r,rfl⟩ | ⟨o,r⟩
 . exact x a u r
 . obtain⟨_,q⟩:=x a _ r
   exact q
 . obtain⟨_,q,_⟩:=x a _ r
   exact q
 . obtain⟨_,q⟩:=x a _ r
   exact q
def Mut:Option HO->Prop
 | some (.lst _)=>True
 | some (.dK _)=>True
 | some (.dT _)=>True
 | some (.set _ _)=>True
 | some (.ins _ _ _)=>True
 | some (.ext _)=>True
 | _=>False
section
variable {P:Program}{w:World}{H:Hp}{h h':Heap}{x e:Addr}{o':HO}
theorem HOk.write (ok:HOk P w H h)(mu:Mut (H x))(he:e=x\/H e=some (.own x))(k:∀ b u,b≠e->h.get? b=some u->h'.get? b=some u)(heo:∃ u,h'.get? e=some u)(new:ObjOk P w (upd H x o') h' x o'):HOk P w (upd H x o') h':=fun b u q=>by
 have nown:∀ c y,H c=some (.own y)->c≠x:=fun c y r z=>by subst z;rw[r] at mu;exact mu
 have ntup:∀ c xs,H c=some (.tup xs)->c≠x:=fun c xs r z=>by subst z;rw[r] at mu;exact mu
 by_cases hb:b=x
 . subst hb;rw[upd_same] at q;cases q;exact new
 . rw[upd_ne hb] at q
   by_cases hbe:b=e
   . have q':H b=some (.own x):=by
       rcases he with z | z
       . exact absurd (hbe.trans z) hb
       . rw[hbe];exact z
     rw[q] at q';cases q';obtain⟨v,hv⟩:=heo;exact⟨v,by rw[hbe];exact hv⟩
   . have nkd:∀ c u,H c=some u->¬ Mut (some u)->c≠x:=fun c u r nm z=>by subst z;rw[r] at mu;exact nm mu
     have nmm:∀ c,IsMemo (H c)->c≠x:=fun c r z=>by
       subst z;cases qq:H c with
       | none=>rw[qq] at r;exact r
       | some u=>rw[qq] at r mu;cases u <;> first | exact mu | exact r
     refine(ok b u q).stay (fun c v hc r=>k c v ?_ r) (fun c r=>by rw[upd_ne (nown c b r)];exact r) (fun c xs r=>by rw[upd_ne (ntup c xs r)];exact r) ⟨fun c u r kq=>by rw[upd_ne (nkd c _ r (by cases u <;> first | exact(show False from kq).elim | exact fun z=>z))];exact r,fun c r=>by rw[upd_ne (nmm c r)];exact r,fun c y r=>by rw[upd_ne (nkd c _ r fun z=>z)];exact r⟩;rcases hc with rfl | hc | hc
     . exact hbe
     . rintro rfl
       rcases he with z | z
       . exact nown c b hc z
       . rw[hc] at z;cases z;exact hb rfl
     . rintro rfl
       rcases he with z | z
       . exact nmm c hc z
       . rw[z] at hc;exact hc
end
structure Un (fs ex:List Addr)(H H':Hp)(h h':Heap):Prop where
 keep:∀ b o,h.get? b=some o->H b=none->b ∉ fs->b ∉ ex->h'.get? b=some o
 slot:∀ b o,h.get? b=some o->H b=none->b∈fs->b ∉ ex->∃ sl,h'.get? b=some { o with slots:=sl}
 free:∀ b o,h.get? b=some o->H b=none->b ∉ ex->H' b=none
 there:∀ b o,h.get? b=some o->b ∉ ex->∃ o',h'.get? b=some o'
 tups:∀ b xs,H b=some (.tup xs)->H' b=some (.tup xs)
 frzs:∀ b o u,H b=some (.frz o u)->H' b=some (.frz o u)
 tbls:∀ b ps,H b=some (.tbl ps)->∃ more,H' b=some (.tbl (ps ++ more))
section
variable {fs ex:List Addr}{H H1:Hp}{h h1 h':Heap}{a x e:Addr}{o:HO}
theorem Un.any (u:Un fs ex H H1 h h1){b:Addr}{ob:Obj}(q:h.get? b=some ob)(n:H b=none)(hx:b ∉ ex):∃ sl,h1.get? b=some { ob with slots:=sl}:=by
 by_cases hb:b∈fs
 . exact u.slot b ob q n hb hx
 . exact⟨ob.slots,u.keep b ob q n hb hx⟩
theorem Un.kept (k:∀ b u,h.get? b=some u->h'.get? b=some u):Un fs ex H H h h':=
 ⟨fun b ob q _ _ _=>k b ob q,fun b ob q _ _ _=>⟨ob.slots,k b ob q⟩,fun _ _ _ n _=>n,fun b ob q _=>⟨ob,k b ob q⟩,fun _ _ q=>q,fun _ _ _ q=>q,fun _ ps q=>⟨#[],by rw[q];simp⟩⟩
theorem Un.refl:Un fs ex H H h h:=Un.kept fun _ _ q=>q
theorem Un.laid (k:∀ b u,h.get? b=some u->h'.get? b=some u)(hp:h.objs.size<=a)(hn:H a=none):Un fs ex H (upd H a o) h h' where
 keep:=fun b u q _ _ _=>k b u q
 slot:=fun b u q _ _ _=>⟨u.slots,k b u q⟩
 free:=fun b u q n _=>by rw[upd_ne (au (ay (ah q) hp))];exact n
 there:=fun b u q _=>⟨u,k b u q⟩
 tups:=fun b xs q=>by rw[upd_ne (ne_of_none q hn)];exact q
 frzs:=fun b u xs q=>by rw[upd_ne (ne_of_none q hn)];exact q
 tbls:=fun b ps q=>⟨#[],by rw[upd_ne (ne_of_none q hn),q];simp⟩
theorem Un.write (mu:Mut (H x))(he:e=x\/H e=some (.own x))(k:∀ b u,b≠e->h.get? b=some u->h'.get? b=some u)(heo:∃ u,h'.get? e=some u):Un fs ex H (upd H x o) h h':=by
 have hx:∀ b,H b=none->b≠x:=fun b n z=>by subst z;rw[n] at mu;exact mu
 have hb:∀ b,H b=none->b≠e:=fun b n z=>by
   subst z;rcases he with r | r
   . exact hx b n r
   . rw[n] at r;cases r
 have hm:∀ b u,H b=some u->¬ Mut (some u)->b≠x:=fun b u q nm z=>by subst z;rw[q] at mu;exact nm mu
 refine⟨fun b u q n _ _=>k b u (hb b n) q,fun b u q n _ _=>⟨u.slots,k b u (hb b n) q⟩,fun b u q n _=>by rw[upd_ne (hx b n)];exact n,fun b u q _=>?_,
   fun b xs q=>by rw[upd_ne (hm b _ q fun z=>z)];exact q,fun b u xs q=>by rw[upd_ne (hm b _ q fun z=>z)];exact q,fun b ps q=>⟨#[],by rw[upd_ne (hm b _ q fun z=>z),q];simp⟩⟩
 by_cases hbe:b=e
 . subst hbe;exact heo
 . exact⟨u,k b u hbe q⟩
end
noncomputable def trk (h:Heap)(H:Hp):List Addr:=(aR h.objs.size).filter fun a=>(H a).isSome
noncomputable def hidT (h:Heap)(H:Hp):Heap:=PySem.W.hideAll h (trk h H)
theorem hidT_size (h:Heap)(H:Hp):(hidT h H).objs.size=h.objs.size:=W.hideAll_size _ _
theorem hidT_get {h:Heap}{H:Hp}{b:Addr}{o:Obj}(e:h.get? b=some o)(n:H b=none):(hidT h H).get? b=some o:=
 W.hideAll_get _ e fun hm=>by
   have q:(H b).isSome=true:=(List.mem_filter.mp hm).2;rw[n] at q;simp at q
theorem of_hidT {h:Heap}{H:Hp}{b:Addr}{o:Obj}(e:(hidT h H).get? b=some o):h.get? b=some o/\H b=none:=by
 have e':h.get? b=some o:=W.of_hideAll (trk h H) e;refine⟨e',?_⟩;cases q:H b with
 | none=>rfl
 | some x=>
   have hm:b∈trk h H:=List.mem_filter.mpr ⟨aQ.mpr (ah e'),by simp[q]⟩;have z:(hidT h H).get? b=none:=W.hideAll_none (trk h H) hm;rw[z] at e;cases e
noncomputable def allNews (g h:Heap)(L:Addr):List (Addr×Obj):=(aR h.objs.size).filterMap fun a=>if a=L\/(g.get? a).isSome=true then none else (h.get? a).map fun o=>(a,o)
noncomputable def rest (g h:Heap)(L d:Addr):List (Addr×Obj):=(allNews g h L).filter fun p=>decide (p.1≠d)
structure Mod (K:W.Frag)(mg:Str->Option Value)(base:Heap):Prop where
 kin:K.In base
 glob:base.Ns mainGlobals mg
 blt:∃ mb,base.Ns builtinsNs mb/\∀ x:Str,x≠"__name__"->mb x=bootBuiltins x
 nolimit:base.NoLimit
structure Cx where
 prog:Program
 w:World
 K:W.Frag
 mg:Str->Option Value
 base:Heap
 A:Around
 N:List Str
 s₀:Shared
 H₀:Hp
 env:Env
 outer:List Env
 stack:List Env
 ex:List Addr
 fn:Str->Bool
 calm:Bool
 pn:List (Addr×Obj)
 xe:Value->Shared->Prop
noncomputable def frs (l:List Env):List Addr:=l.filterMap (·.frame)
noncomputable abbrev Cx.fs (X:Cx):List Addr:=frs X.outer
def Vis (sc:Scope)(x:Str):Prop:=sc.names.lookup x=some .local\/sc.names.lookup x=some .cell\/sc.names.lookup x=some .free
def Loc (sc:Scope)(x:Str):Prop:=sc.names.lookup x=some .local\/sc.names.lookup x=some .cell
def Look (env:Env)(h:Heap)(m:Str->Option Value)(x:Str)(u:Value):Prop:=
 (env.kindOf x=some .local/\m x=some u)\/((env.kindOf x=some .cell\/env.kindOf x=some .free)/\∃ c,env.cells.lookup x=some c/\h.IsCell c (some u))
structure Cx.Ok (X:Cx):Prop where
 mod:Mod X.K X.mg X.base
 kind:X.env.scope.kind=.function
 glob:X.env.globals=mainGlobals
 blt:X.env.builtins=builtinsNs
 above:X.s₀.heap.objs.size<=X.env.locals
 inj:∀ x y c,X.env.cells.lookup x=some c->X.env.cells.lookup y=some c->x=y
 has:∀ x,(X.env.kindOf x=some .cell\/X.env.kindOf x=some .free)->∃ c,X.env.cells.lookup x=some c
 cab:∀ x c,X.fn x=true->X.env.cells.lookup x=some c->X.s₀.heap.objs.size<=c
 hd:X.calm=true->X.A.handled=none
 frames:X.A.frames=some X.stack
 stk:X.stack=X.outer\/(X.stack=X.env::X.outer/\X.env.frame=some X.env.locals)
 exf:∀ b∈X.ex,b≠X.env.locals/\∀ x c,X.env.cells.lookup x=some c->c≠b
 bs:∀ b o,X.base.get? b=some o->X.s₀.heap.get? b=some o/\X.H₀ b=none
 bsz:X.base.objs.size<=X.s₀.heap.objs.size
 noex:∀ b o,X.base.get? b=some o->b ∉ X.ex
 exfs:∀ b∈X.ex,b ∉ X.fs
 funs:X.s₀.heap.FunFrames X.base X.outer
 frf:∀ b∈X.fs,X.H₀ b=none
structure Inv (X:Cx)(pins:List (Addr×Obj))(σ:List (Option V))(H:Hp)(s:Shared):Prop where
 ok:X.Ok
 os:s.os=X.s₀.os
 bare:AllBare s.gens
 base:Un X.fs X.ex X.H₀ H X.s₀.heap s.heap
 loc:∃ m,s.heap.Ns X.env.locals m/\∀ (i:Nat) (x:Str) (v:V),X.N[i]?=some x->σ[i]?=some (some v)->Vis X.env.scope x->∃ u,RelV v u/\Look X.env s.heap m x u
 cell:∀ x c,X.env.cells.lookup x=some c->∃ v,s.heap.IsCell c v
 free:H X.env.locals=none
 freeC:∀ x c,X.env.cells.lookup x=some c->H c=none
 pin:∀ p∈X.pn ++ pins,s.heap.get? p.1=some p.2/\H p.1=none/\p.1≠X.env.locals/\p.1 ∉ X.fs/\∀ v,p.2.data≠.cell v
 hok:HOk X.prog X.w H s.heap
 len:σ.length=X.N.length
section
variable {X:Cx}{pins:List (Addr×Obj)}{σ:List (Option V)}{H H':Hp}{s:Shared}{h':Heap}
theorem Cx.Ok.nofr (ok:X.Ok){b:Addr}{o:Obj}(e:X.base.get? b=some o):b ∉ X.fs:=fun hb=>by
 have:=(ok.funs.mem hb).1;rw[e] at this;cases this
theorem Inv.bs (I:Inv X pins σ H s):∀ b o,X.base.get? b=some o->s.heap.get? b=some o/\H b=none:=fun b o e=>
 ⟨I.base.keep b o (I.ok.bs b o e).1 (I.ok.bs b o e).2 (I.ok.nofr e) (I.ok.noex b o e),I.base.free b o (I.ok.bs b o e).1 (I.ok.bs b o e).2 (I.ok.noex b o e)⟩
theorem Inv.bk (I:Inv X pins σ H s):∀ b o,X.base.get? b=some o->s.heap.get? b=some o:=fun b o e=>(I.bs b o e).1
theorem Inv.mod (I:Inv X pins σ H s):Mod X.K X.mg X.base:=I.ok.mod
theorem Inv.kIn (I:Inv X pins σ H s):X.K.In s.heap:=I.ok.mod.kin.keeps I.bk
theorem Inv.lt (I:Inv X pins σ H s):X.env.locals < s.heap.objs.size:=let ⟨_,hn,_⟩:=I.loc;hn.lt
theorem Inv.sz (I:Inv X pins σ H s):X.s₀.heap.objs.size<=s.heap.objs.size:=aO I.ok.above (bH I.lt)
theorem Inv.nofs (I:Inv X pins σ H s){a:Addr}(h:s.heap.objs.size<=a):a ∉ X.fs:=fun hb=>by
 obtain⟨_,o,ho,_⟩:=I.ok.funs.mem hb;exact absurd (ay (ah ho) (aO I.sz h)) (bu _)
theorem Inv.cne (I:Inv X pins σ H s):∀ x c,X.env.cells.lookup x=some c->c≠X.env.locals:=fun x c e z=>by
 obtain⟨v,o,ho,hd⟩:=I.cell x c e;obtain⟨m,⟨o',es,ep,ho',hd',_⟩,_⟩:=I.loc;rw[z,ho'] at ho;cases ho;rw[hd'] at hd;cases hd
theorem Inv.funs (I:Inv X pins σ H s):s.heap.FunFrames X.base X.outer:=by
 have all:∀ (l:List Env),(∀ b∈frs l,b∈X.fs)->X.s₀.heap.FunFrames X.base l->s.heap.FunFrames X.base l:=by
   intro l
   induction l with
   | nil=>intro _ _;trivial
   | cons env r ih=>
     intro hs hl;obtain⟨hk,⟨L,o,hf,hn,ho,hd⟩,hr⟩:=hl;have hL:L∈X.fs:=hs L (by unfold frs;rw[bX,hf];exact aP);obtain⟨sl,e⟩:=I.base.slot L o ho (I.ok.frf L hL) hL fun z=>I.ok.exfs L z hL
     exact⟨hk,⟨L,_,hf,hn,e,hd⟩,ih (fun b hb=>hs b (by unfold frs;rw[bX,hf];exact aF _ hb)) hr⟩
 exact all X.outer (fun _ hb=>hb) I.ok.funs
theorem Inv.stack (I:Inv X pins σ H s):s.heap.FunFrames X.base X.stack:=by
 rcases I.ok.stk with e | ⟨e,hf⟩
 . rw[e];exact I.funs
 . rw[e]
   obtain⟨m,hn,_⟩:=I.loc;refine .cons (by rw[I.ok.kind];decide) hf hn ?_ I.funs;exact Heap.get?_none_of_le (aO I.ok.bsz I.ok.above)
theorem Inv.stkSub (I:Inv X pins σ H s):∀ b∈frs X.stack,b∈X.env.locals::X.fs:=fun b hb=>by
 rcases I.ok.stk with e | ⟨e,hf⟩
 . rw[e] at hb;exact aF _ hb
 . rw[e] at hb
   unfold frs at hb;rw[bX,hf] at hb;exact hb
theorem Inv.stkFree (I:Inv X pins σ H s):∀ b∈frs X.stack,H b=none:=fun b hb=>by
 rcases aK.mp (I.stkSub b hb) with e | hb
 . rw[e];exact I.free
 . obtain⟨_,o,ho,_⟩:=I.ok.funs.mem hb
   exact I.base.free b o ho (I.ok.frf b hb) fun z=>I.ok.exfs b z hb
theorem Inv.step {g':Array GenState}{t':Nat}{d':Drawn}{ch:List Addr}(I:Inv X pins σ H s)(hch:∀ b∈ch,(b∈X.ex\/X.s₀.heap.objs.size<=b)/\b≠X.env.locals/\(∀ x c,X.env.cells.lookup x=some c->c≠b)/\∀ p∈X.pn ++ pins,p.1≠b)(keep:∀ b o,b≠X.env.locals->b ∉ X.fs->b ∉ ch->s.heap.get? b=some o->H b=none->h'.get? b=some o)(slot:∀ b o,b≠X.env.locals->b∈X.fs->b ∉ ch->s.heap.get? b=some o->H b=none->∃ sl,h'.get? b=some { o with slots:=sl})(free:∀ b o,b ∉ ch->s.heap.get? b=some o->H b=none->H' b=none)(there:∀ b o,b ∉ ch->s.heap.get? b=some o->∃ o',h'.get? b=some o')(tups:∀ b xs,H b=some (.tup xs)->H' b=some (.tup xs))(frzs:∀ b o u,H b=some (.frz o u)->H' b=some (.frz o u))(tbls:∀ b ps,H b=some (.tbl ps)->∃ more,H' b=some (.tbl (ps ++ more)))(ns:∀ m,s.heap.Ns X.env.locals m->h'.Ns X.env.locals m)(hok:HOk X.prog X.w H' h')(hg:AllBare g'):Inv X pins σ H' { s with heap:=h',gens:=g',drawn:=d',toks:=t'}:=by
 have neL:∀ b o,X.s₀.heap.get? b=some o->b≠X.env.locals:=fun b o e=>au (ay (ah e) I.ok.above)
 have neC:∀ b o,X.s₀.heap.get? b=some o->b ∉ X.ex->b ∉ ch:=fun b o e hx hb=>by
   rcases (hch b hb).1 with z | z
   . exact hx z
   . exact absurd (ay (ah e) z) (bu _)
 have cellK:∀ x c,X.env.cells.lookup x=some c->∀ v,s.heap.IsCell c v->h'.IsCell c v:=fun x c e v ⟨o,ho,hd⟩=>by
   have nch:c ∉ ch:=fun z=>(hch c z).2.2.1 x c e rfl
   by_cases hc:c∈X.fs
   . obtain⟨sl,q⟩:=slot c o (I.cne x c e) hc nch ho (I.freeC x c e)
     exact⟨_,q,hd⟩
   . exact⟨o,keep c o (I.cne x c e) hc nch ho (I.freeC x c e),hd⟩
 refine⟨I.ok,I.os,hg,⟨fun b o e n hb hx=>?_,fun b o e n hb hx=>?_,fun b o e n hx=>?_,fun b o e hx=>?_,fun b xs e=>tups b xs (I.base.tups b xs e),fun b o xs e=>frzs b o xs (I.base.frzs b o xs e),fun b ps e=>?_⟩,?_,fun x c e=>?_,?_,fun x c e=>?_,fun p hp=>?_,hok,I.len⟩
 . exact keep b o (neL b o e) hb (neC b o e hx) (I.base.keep b o e n hb hx) (I.base.free b o e n hx)
 . obtain⟨sl,e1⟩:=I.base.slot b o e n hb hx
   obtain⟨sl',e2⟩:=slot b _ (neL b o e) hb (neC b o e hx) e1 (I.base.free b o e n hx);exact⟨sl',e2⟩
 . obtain⟨o',e1⟩:=I.base.there b o e hx
   exact free b o' (neC b o e hx) e1 (I.base.free b o e n hx)
 . obtain⟨o',e1⟩:=I.base.there b o e hx
   exact there b o' (neC b o e hx) e1
 . obtain⟨m1,e1⟩:=I.base.tbls b ps e
   obtain⟨m2,e2⟩:=tbls b _ e1;exact⟨m1 ++ m2,by rw[e2,Array.append_assoc]⟩
 . obtain⟨m,hn,hl⟩:=I.loc
   refine⟨m,ns m hn,fun i x v e1 e2 e3=>?_⟩;obtain⟨u,r,l⟩:=hl i x v e1 e2 e3;refine⟨u,r,?_⟩;rcases l with l | ⟨k,c,e,z⟩
   . exact .inl l
   . exact .inr ⟨k,c,e,cellK x c e _ z⟩
 . obtain⟨v,z⟩:=I.cell x c e
   exact⟨v,cellK x c e v z⟩
 . obtain⟨m,⟨o,_,_,ho,_⟩,_⟩:=I.loc
   exact free _ o (fun z=>(hch _ z).2.1 rfl) ho I.free
 . obtain⟨v,o,ho,hd⟩:=I.cell x c e
   exact free c o (fun z=>(hch c z).2.2.1 x c e rfl) ho (I.freeC x c e)
 . obtain⟨e,n,ne,nf,d⟩:=I.pin p hp
   have nch:p.1 ∉ ch:=fun z=>(hch p.1 z).2.2.2 p hp rfl
   exact⟨keep p.1 p.2 ne nf nch e n,free p.1 p.2 nch e n,ne,nf,d⟩
theorem Inv.un {t':Nat}(I:Inv X pins σ H s)(u:Un X.fs [] H H' s.heap h')(hok:HOk X.prog X.w H' h'):Inv X pins σ H' { s with heap:=h',toks:=t'}:=by
 obtain⟨m,⟨o,es,ep,ho,r⟩,_⟩:=id I.loc;obtain⟨sl,hL⟩:=u.any ho I.free (by simp);exact I.step (g':=s.gens) (d':=s.drawn) (ch:=[]) (fun _ z=>nomatch z) (fun b o _ hb _ e n=>u.keep b o e n hb (by simp)) (fun b o _ hb _ e n=>u.slot b o e n hb (by simp)) (fun b o _ e n=>u.free b o e n (by simp)) (fun b o _ e=>u.there b o e (by simp)) u.tups u.frzs u.tbls (fun m' hm=>by
   obtain⟨o',es',ep',ho',r'⟩:=hm;rw[ho] at ho';cases ho';exact⟨_,es',ep',hL,r'⟩) hok I.bare
theorem Inv.call {g':Array GenState}{t':Nat}{d':Drawn}{ch:List Addr}(I:Inv X pins σ H s)(u:Un (frs X.stack) ch H H' s.heap h')(hok:HOk X.prog X.w H' h')(hg:AllBare g')(hch:∀ b∈ch,(b∈X.ex\/X.s₀.heap.objs.size<=b)/\b≠X.env.locals/\(∀ x c,X.env.cells.lookup x=some c->c≠b)/\∀ p∈X.pn ++ pins,p.1≠b):Inv X pins σ H' { s with heap:=h',gens:=g',drawn:=d',toks:=t'}:=by
 obtain⟨m,⟨o,es,ep,ho,r⟩,_⟩:=id I.loc;obtain⟨sl,hL⟩:=u.any ho I.free fun z=>(hch _ z).2.1 rfl
 exact I.step (ch:=ch) hch (fun b o hL hb hc e n=>u.keep b o e n (fun z=>(aK.mp (I.stkSub b z)).elim hL hb) hc) (fun b o _ _ hc e n=>u.any e n hc) (fun b o hc e n=>u.free b o e n hc) (fun b o hc e=>u.there b o e hc) u.tups u.frzs u.tbls (fun m' hm=>by
   obtain⟨o',es',ep',ho',r'⟩:=hm;rw[ho] at ho';cases ho';exact⟨_,es',ep',hL,r'⟩) hok hg
theorem Inv.turned {t':Nat}{it:Addr}(I:Inv X pins σ H s)(k:∀ b o,b≠it->s.heap.get? b=some o->h'.get? b=some o)(hn:H it=none)(hL:it≠X.env.locals)(h1:it∈X.ex\/X.s₀.heap.objs.size<=it)(h2:∀ x c,X.env.cells.lookup x=some c->c≠it)(h3:∀ p∈X.pn ++ pins,p.1≠it):Inv X pins σ H { s with heap:=h',toks:=t'}:=by
 have nit:∀ b u,H b=some u->b≠it:=fun b u e z=>by rw[z,hn] at e;cases e
 refine I.step (g':=s.gens) (d':=s.drawn) (ch:=[it]) (fun b hb=>?_) (fun b o _ _ hc e _=>k b o (fun z=>hc (by simp[z])) e) (fun b o _ _ hc e _=>⟨o.slots,k b o (fun z=>hc (by simp[z])) e⟩) (fun _ _ _ _ n=>n)
   (fun b o hc e=>⟨o,k b o (fun z=>hc (by simp[z])) e⟩) (fun _ _ e=>e) (fun _ _ _ e=>e) (fun b ps e=>⟨#[],by rw[e];simp⟩) (fun m hm=>?_) (fun b u e=>?_) I.bare
 . have e:b=it:=by simpa using hb
   subst e;exact⟨h1,hL,h2,h3⟩
 . obtain⟨o,es,ep,ho,r⟩:=hm
   exact⟨o,es,ep,k _ o (Ne.symm hL) ho,r⟩
 . refine(I.hok b u e).stay (fun c v hc q=>k c v ?_ q) (fun _ q=>q) (fun _ _ q=>q) .refl
   rcases hc with z | z | z
   . rw[z];exact nit b u e
   . exact nit c _ z
   . exact fun z'=>by rw[z',hn] at z;exact z
theorem Inv.tok (I:Inv X pins σ H s)(t:Nat):Inv X pins σ H { s with toks:=t}:=I.un (h':=s.heap) (t':=t) Un.refl I.hok
theorem Inv.kept {t':Nat}(I:Inv X pins σ H s)(k:∀ b u,s.heap.get? b=some u->h'.get? b=some u):Inv X pins σ H { s with heap:=h',toks:=t'}:=I.un (Un.kept k) (I.hok.kept k)
theorem Inv.laid {a:Addr}{o:HO}{t':Nat}(I:Inv X pins σ H s)(k:∀ b u,s.heap.get? b=some u->h'.get? b=some u)(hp:s.heap.objs.size<=a)(new:ObjOk X.prog X.w (upd H a o) h' a o):Inv X pins σ (upd H a o) { s with heap:=h',toks:=t'}:=I.un (Un.laid k hp (I.hok.fresh hp)) (I.hok.laid k hp new)
theorem Inv.write {x e:Addr}{o:HO}{t':Nat}(I:Inv X pins σ H s)(mu:Mut (H x))(he:e=x\/H e=some (.own x))(k:∀ b u,b≠e->s.heap.get? b=some u->h'.get? b=some u)(heo:∃ u,h'.get? e=some u)(new:ObjOk X.prog X.w (upd H x o) h' x o):Inv X pins σ (upd H x o) { s with heap:=h',toks:=t'}:=I.un (Un.write mu he k heo) (I.hok.write mu he k heo new)
theorem Inv.pins_of {pins':List (Addr×Obj)}(I:Inv X pins σ H s)(h:∀ p∈pins',s.heap.get? p.1=some p.2/\H p.1=none/\p.1≠X.env.locals/\p.1 ∉ X.fs/\∀ v,p.2.data≠.cell v):Inv X pins' σ H s:=
 ⟨I.ok,I.os,I.bare,I.base,I.loc,I.cell,I.free,I.freeC,fun p hp=>(br.mp hp).elim (fun z=>I.pin p (List.mem_append_left _ z)) (h p),I.hok,I.len⟩
theorem nodup_ix {N:List Str}(hN:N.Nodup){i j:Nat}{x:Str}(a:N[i]?=some x)(b:N[j]?=some x):i=j:=by
 obtain⟨h1,e1⟩:=aC.mp a;obtain⟨h2,e2⟩:=aC.mp b;exact(List.getElem_inj hN).mp (e1.trans e2.symm)
theorem store_ok2 {M:Model}{A:Around}{E:Value->Shared->Prop}{i:Nat}{x:Str}{v:V}{u:Value}{Q:Unit->Shared->Prop}(I:Inv X pins σ H s)(hN:X.N.Nodup)(hi:X.N[i]?=some x)(hx:Loc X.env.scope x)(r:RelV v u)(h:∀ s',Inv X pins (σ.set i (some v)) H s'->(∃ a,aM a s.heap s'.heap/\(a=X.env.locals\/X.env.cells.lookup x=some a))->Q () s')(hf:autoParam (X.fn x=true\/X.env.scope.names.lookup x=some .local) qe):wpAny M A (storeName X.env x u) Q E s:=by
 obtain⟨m,hn,hl⟩:=id I.loc;have hcls:(X.env.scope.kind == .class || (X.env.scope.kind == .module && X.env.locals != X.env.globals))=false:=by rw[I.ok.kind];rfl
 have hiσ:i < σ.length:=by rw[I.len];exact(aC.mp hi).1
 have cne:=I.cne;have tracked:∀ {a:Addr} {h':Heap},(∃ o,s.heap.get? a=some o/\H a=none)->aM a s.heap h'->HOk X.prog X.w H h':=fun {a h'} ha hs b ob e=>by
   obtain⟨_,_,hfree⟩:=ha;refine(I.hok b ob e).stay (fun c w' hc q=>(hs.2 c ?_).trans q) (fun _ q=>q) (fun _ _ q=>q) .refl
   rintro rfl
   rcases hc with rfl | hc | hc
   . rw[hfree] at e;cases e
   . rw[hfree] at hc;cases hc
   . rw[hfree] at hc;exact hc
 rcases hx with hk | hk
 . refine wpAny_storeName_local hk hn (fun h' hn' hs=>?_) hcls
   obtain⟨oL,_,_,hoL,_⟩:=id hn;refine h _ ⟨I.ok,I.os,I.bare,⟨fun b o e n hb hx=>?_,fun b o e n hb hx=>?_,I.base.free,fun b o e hx=>?_,I.base.tups,I.base.frzs,I.base.tbls⟩,⟨_,hn',fun j y v' e1 e2 e3=>?_⟩,fun y c e=>?_,I.free,I.freeC,fun p hp=>?_,tracked ⟨oL,hoL,I.free⟩ hs,by simpa using I.len⟩ ⟨_,hs,.inl rfl⟩
   . exact(hs.2 b (au (ay (ah e) I.ok.above))).trans (I.base.keep b o e n hb hx)
   . obtain⟨sl,e1⟩:=I.base.slot b o e n hb hx
     exact⟨sl,(hs.2 b (au (ay (ah e) I.ok.above))).trans e1⟩
   . obtain⟨o',e1⟩:=I.base.there b o e hx
     exact⟨o',(hs.2 b (au (ay (ah e) I.ok.above))).trans e1⟩
   . by_cases hj:j=i
     . subst hj
       rw[hi] at e1;cases e1;rw[ao hiσ] at e2;cases e2;exact⟨u,r,.inl ⟨hk,by simp⟩⟩
     . rw[ar (Ne.symm hj)] at e2
       obtain⟨u',r',q⟩:=hl j y v' e1 e2 e3;refine⟨u',r',?_⟩;rcases q with⟨k,e⟩ | ⟨k,c,e,z⟩
       . refine .inl ⟨k,?_⟩
         have:y≠x:=fun e=>hj (nodup_ix hN e1 (e ▸ hi))
         simp[this,e]
       . exact .inr ⟨k,c,e,z.sameBut hs (cne y c e)⟩
   . obtain⟨w',z⟩:=I.cell y c e
     exact⟨w',z.sameBut hs (cne y c e)⟩
   . obtain⟨e,n,ne,nf,d⟩:=I.pin p hp
     exact⟨(hs.2 p.1 ne).trans e,n,ne,nf,d⟩
 . have hfn:X.fn x=true:=by
     rcases hf with z | z
     . exact z
     . rw[z] at hk;cases hk
   obtain⟨c,hc⟩:=I.ok.has x (.inl hk);obtain⟨w',z⟩:=I.cell x c hc;refine wpAny_storeName_cell I.ok.kind hk hc z (fun h' hc' hs=>?_);obtain⟨oc,hoc,hocd⟩:=id z;refine h { s with heap:=h'} ⟨I.ok,I.os,I.bare,⟨fun b o e n hb hx=>?_,fun b o e n hb hx=>?_,I.base.free,fun b o e hx=>?_,I.base.tups,I.base.frzs,I.base.tbls⟩,⟨m,hn.sameBut hs (Ne.symm (cne x c hc)),fun j y v' e1 e2 e3=>?_⟩,fun y c' e=>?_,I.free,I.freeC,fun p hp=>?_,tracked ⟨oc,hoc,I.freeC x c hc⟩ hs,by simpa using I.len⟩ ⟨c,hs,.inr hc⟩
   . exact(hs.2 b (au (ay (ah e) (I.ok.cab x c hfn hc)))).trans (I.base.keep b o e n hb hx)
   . obtain⟨sl,e1⟩:=I.base.slot b o e n hb hx
     exact⟨sl,(hs.2 b (au (ay (ah e) (I.ok.cab x c hfn hc)))).trans e1⟩
   . obtain⟨o',e1⟩:=I.base.there b o e hx
     exact⟨o',(hs.2 b (au (ay (ah e) (I.ok.cab x c hfn hc)))).trans e1⟩
   . by_cases hj:j=i
     . subst hj
       rw[hi] at e1;cases e1;rw[ao hiσ] at e2;cases e2;exact⟨u,r,.inr ⟨.inl hk,c,hc,hc'⟩⟩
     . rw[ar (Ne.symm hj)] at e2
       obtain⟨u',r',q⟩:=hl j y v' e1 e2 e3;refine⟨u',r',?_⟩;rcases q with q | ⟨k,c',e,z'⟩
       . exact .inl q
       . refine .inr ⟨k,c',e,z'.sameBut hs ?_⟩
         rintro rfl
         exact hj (nodup_ix hN e1 (I.ok.inj _ _ _ e hc ▸ hi))
   . by_cases hcc:c'=c
     . subst hcc;exact⟨_,hc'⟩
     . obtain⟨w2,z2⟩:=I.cell y c' e
       exact⟨w2,z2.sameBut hs hcc⟩
   . obtain⟨e,n,ne,nf,d⟩:=I.pin p hp
     refine⟨(hs.2 p.1 ?_).trans e,n,ne,nf,d⟩;intro q;rw[q,hoc] at e;have q':oc=p.2:=Option.some.inj e;exact d w' (by rw[<- q'];exact hocd)
theorem store_ok {M:Model}{A:Around}{E:Value->Shared->Prop}{i:Nat}{x:Str}{v:V}{u:Value}{Q:Unit->Shared->Prop}(I:Inv X pins σ H s)(hN:X.N.Nodup)(hi:X.N[i]?=some x)(hx:Loc X.env.scope x)(r:RelV v u)(h:∀ s',Inv X pins (σ.set i (some v)) H s'->Q () s')(hf:autoParam (X.fn x=true\/X.env.scope.names.lookup x=some .local) qe):wpAny M A (storeName X.env x u) Q E s:=
 store_ok2 I hN hi hx r (fun s' I' _=>h s' I') hf
theorem Inv.call' {s':Shared}{ch:List Addr}(I:Inv X pins σ H s)(ho:s'.os=s.os)(u:Un (frs X.stack) ch H H' s.heap s'.heap)(hok:HOk X.prog X.w H' s'.heap)(hg:AllBare s'.gens)(hch:∀ b∈ch,(b∈X.ex\/X.s₀.heap.objs.size<=b)/\b≠X.env.locals/\(∀ x c,X.env.cells.lookup x=some c->c≠b)/\∀ p∈X.pn ++ pins,p.1≠b):Inv X pins σ H' s':=by
 obtain⟨h',g',d',t',o'⟩:=s';have e:o'=s.os:=ho;subst e;exact I.call (g':=g') (t':=t') (d':=d') u hok hg hch
end
abbrev XK:=Value->Option Addr->Hp->Prop
noncomputable abbrev St:=List (Option V)
abbrev VK:=V->Hp->Prop
abbrev TE:=St->Hp->VK->Prop
abbrev TT:=St->Hp->(Bool->Hp->Prop)->Prop
abbrev TA:=St->Hp->(List V->Hp->Prop)->Prop
structure Ends where
 nx:St->Hp->Prop
 rt:VK
 bk:St->Hp->Prop:=fun _ _=>False
 ct:St->Hp->Prop:=fun _ _=>False
abbrev TS:=Ends->St->Hp->Prop
def EP (X:Cx)(pins:List (Addr×Obj))(σ:St)(Q:VK)(u:Value)(s':Shared):Prop:=∃ v H',Inv X pins σ H' s'/\RelV v u/\Q v H'
def TP (X:Cx)(pins:List (Addr×Obj))(σ:St)(Q:Bool->Hp->Prop)(b:Bool)(s':Shared):Prop:=∃ H',Inv X pins σ H' s'/\Q b H'
def AP (X:Cx)(pins:List (Addr×Obj))(σ:St)(Q:List V->Hp->Prop)(us:List Value)(s':Shared):Prop:=∃ vs H',Inv X pins σ H' s'/\Vals vs us/\Q vs H'
def SP (X:Cx)(pins:List (Addr×Obj))(D:Ends)(f:Flow)(s':Shared):Prop:=
 match f with
 | .next=>∃ σ' H',Inv X pins σ' H' s'/\D.nx σ' H'
 | .brk=>∃ σ' H',Inv X pins σ' H' s'/\D.bk σ' H'
 | .cont=>∃ σ' H',Inv X pins σ' H' s'/\D.ct σ' H'
 | .ret u=>∃ v σ' H',Inv X pins σ' H' s'/\RelV v u/\D.rt v H'
def PE (X:Cx)(e:Expr)(t:TE):Prop:=
 ∀ (pins:List (Addr×Obj)) (s:Shared) (σ:St) (H:Hp) (Q:VK),Inv X pins σ H s->t σ H Q->wpAny (model X.prog X.w) X.A (eval e X.env) (EP X pins σ Q) X.xe s
def PT (X:Cx)(e:Expr)(t:TT):Prop:=
 ∀ (pins:List (Addr×Obj)) (s:Shared) (σ:St) (H:Hp) (Q:Bool->Hp->Prop),Inv X pins σ H s->t σ H Q->wpAny (model X.prog X.w) X.A (isTrue e X.env (eval e X.env)) (TP X pins σ Q) X.xe s
def PW (X:Cx)(e:Expr)(t:TT):Prop:=
 ∀ (whole:Sem Value) (pins:List (Addr×Obj)) (s:Shared) (σ:St) (H:Hp) (Q:Bool->Hp->Prop),Inv X pins σ H s->t σ H Q->wpAny (model X.prog X.w) X.A (isTrue e X.env whole) (TP X pins σ Q) X.xe s
theorem PW.pt {X:Cx}{e:Expr}{t:TT}(h:PW X e t):PT X e t:=h _
def PA (X:Cx)(es:List Expr)(t:TA):Prop:=
 ∀ (pos:Pos) (pins:List (Addr×Obj)) (s:Shared) (σ:St) (H:Hp) (Q:List V->Hp->Prop),Inv X pins σ H s->t σ H Q->wpAny (model X.prog X.w) X.A (spliced (backTo pos (starEach es X.env))) (AP X pins σ Q) X.xe s
def PS (X:Cx)(st:Stmt)(t:TS):Prop:=
 ∀ (pins:List (Addr×Obj)) (s:Shared) (σ:St) (H:Hp) (D:Ends),Inv X pins σ H s->t D σ H->wpAny (model X.prog X.w) X.A (exec st X.env) (SP X pins D) X.xe s
def PSs (X:Cx)(st:List Stmt)(t:TS):Prop:=
 ∀ (pins:List (Addr×Obj)) (s:Shared) (σ:St) (H:Hp) (D:Ends),Inv X pins σ H s->t D σ H->wpAny (model X.prog X.w) X.A (execs st X.env) (SP X pins D) X.xe s
theorem thn {α:Type}{t:Sem α}{Q Q':α->Shared->Prop}{M:Model}{A:Around}{E:Value->Shared->Prop}{s:Shared}(h:wpAny M A t Q E s)(hQ:∀ a s,Q a s->Q' a s):wpAny M A t Q' E s:=wpAny_mono h hQ fun _ _ x=>x
section
variable {X:Cx}
def tVar (i:Nat):TE:=fun σ H Q=>∃ v,σ[i]?=some (some v)/\Q v H
def tC (v:V):TE:=fun _ H Q=>Q v H
theorem pe_var {i:Nat}{x:Str}{pos:Pos}(hN:X.N[i]?=some x)(hv:Vis X.env.scope x)(hd:autoParam ((x == ("__debug__":Str))=false) qd)(hcd:autoParam ((x == ("__classdict__":Str))=false) qd):PE X (.Name x pos) (tVar i):=by
 intro pins s σ H Q I h;obtain⟨v,e,h⟩:=h;obtain⟨m,hn,hl⟩:=I.loc;obtain⟨u,r,l⟩:=hl i x v hN e hv;have fin:EP X pins σ Q u s:=⟨v,H,I,r,h⟩
 rcases l with⟨hk,hm⟩ | ⟨hk,c,hc,hcell⟩
 . exact wpAny_Name (wpAny_loadName_local I.ok.kind hk hn hm fin) hd
 . rcases hk with hk | hk
   . exact wpAny_Name (wpAny_loadName_cell I.ok.kind hk hc hcell fin) hd
   . exact wpAny_Name (wpAny_loadName_free I.ok.kind hk hc hcell fin hcd) hd
theorem pe_int {i j pos}:PE X (.Constant (.int i) j pos) (tC (.int i)):=fun _ _ _ H _ I h=>wpAny_Constant_int ⟨.int i,H,I.tok _,⟨_,rfl⟩,h⟩
theorem pe_bl {b j pos}:PE X (.Constant (.bool b) j pos) (tC (.bl b)):=fun _ _ _ H _ I h=>Constant_bool ⟨.bl b,H,I,rfl,h⟩
def Gl (X:Cx)(x:Str):Prop:=X.env.kindOf x=some .globalImplicit
theorem ld_glob {E:Value->Shared->Prop}{pins:List (Addr×Obj)}{s:Shared}{σ:St}{H:Hp}{x:Str}{u:Value}{pos:Pos}{Q:Value->Shared->Prop}(I:Inv X pins σ H s)(hg:Gl X x)(hm:X.mg x=some u)(h:Q u s)(hd:autoParam ((x == ("__debug__":Str))=false) qd):wpAny (model X.prog X.w) X.A (eval (.Name x pos) X.env) Q E s:=
 Calls.Name_function_global I.ok.kind hg (Calls.loadGlobal_global (by rw[I.ok.glob];exact I.mod.glob.keeps I.bk) hm h) hd
theorem ld_blt {E:Value->Shared->Prop}{pins:List (Addr×Obj)}{s:Shared}{σ:St}{H:Hp}{x:Str}{u:Value}{pos:Pos}{Q:Value->Shared->Prop}(I:Inv X pins σ H s)(hg:Gl X x)(hm:X.mg x=none)(hv:bootBuiltins x=some u)(h:Q u s)(hn:autoParam (x≠"__name__") qd)(hd:autoParam ((x == ("__debug__":Str))=false) qd):wpAny (model X.prog X.w) X.A (eval (.Name x pos) X.env) Q E s:=by
 obtain⟨mb,h1,h2⟩:=I.mod.blt;exact Calls.Name_function_global I.ok.kind hg (Calls.loadGlobal_builtin (by rw[I.ok.glob];exact I.mod.glob.keeps I.bk) hm (by rw[I.ok.blt];exact h1.keeps I.bk) ((h2 x hn).trans hv) h) hd
theorem pe_bltn {x:Str}{v:V}{u:Value}{pos:Pos}(hg:Gl X x)(hm:X.mg x=none)(hv:bootBuiltins x=some u)(r:RelV v u)(hn:autoParam (x≠"__name__") qd)(hd:autoParam ((x == ("__debug__":Str))=false) qd):PE X (.Name x pos) (tC v):=
 fun _ _ _ H _ I h=>ld_blt I hg hm hv ⟨v,H,I,r,h⟩ hn hd
variable {a b:Expr}{ta tb:TE}{pos:Pos}
def tB (t:TE):TT:=fun σ H Q=>t σ H fun x H1=>∃ c,x=.bl c/\Q c H1
theorem pt_val {e:Expr}{t:TE}(h:PE X e t)(he:autoParam (∀ whole,isTrue e X.env whole=(do let v <- whole;standAt e.pos;holding [v] (truthy v))) qf):PT X e (tB t):=by
 intro pins s σ H Q I hw;refine isTrue_plain (thn (h pins s σ H _ I hw) fun v s1 zq=>?_) (he _);obtain⟨x,H1,I1,r1,q1⟩:=zq;obtain⟨d,rfl,q⟩:=q1;cases r1;exact wpAny_truthy_bool ⟨H1,I1,q⟩
variable {tA tB':TT}{rest:List Expr}
def tAnd (t u:TT):TT:=fun σ H Q=>t σ H fun c H1=>if c=true then u σ H1 Q else Q false H1
def tOr (t u:TT):TT:=fun σ H Q=>t σ H fun c H1=>if c=true then Q true H1 else u σ H1 Q
def tNot (t:TT):TT:=fun σ H Q=>t σ H fun c H1=>Q (!c) H1
theorem pw_and1 (ha:PT X a tA):PW X (.BoolOp .And [a] pos) tA:=by
 intro wh pins s σ H Q I h;refine isTrue_and (thn (ha pins s σ H Q I h) fun c s1 e=>?_);cases c with
 | true=>exact isTrue_and_nil e
 | false=>exact e
theorem pw_or1 (ha:PT X a tA):PW X (.BoolOp .Or [a] pos) tA:=by
 intro wh pins s σ H Q I h;refine isTrue_or (thn (ha pins s σ H Q I h) fun c s1 e=>?_);cases c with
 | false=>exact isTrue_or_nil e
 | true=>exact e
theorem pw_and (ha:PT X a tA)(hb:PW X (.BoolOp .And (b::rest) pos) tB'):PW X (.BoolOp .And (a::b::rest) pos) (tAnd tA tB'):=by
 intro wh pins s σ H Q I h;refine isTrue_and (thn (ha pins s σ H _ I h) fun c s1 ⟨H1,I1,q1⟩=>?_);cases c with
 | true=>exact hb wh pins s1 σ H1 Q I1 q1
 | false=>exact⟨H1,I1,q1⟩
theorem pw_or (ha:PT X a tA)(hb:PW X (.BoolOp .Or (b::rest) pos) tB'):PW X (.BoolOp .Or (a::b::rest) pos) (tOr tA tB'):=by
 intro wh pins s σ H Q I h;refine isTrue_or (thn (ha pins s σ H _ I h) fun c s1 ⟨H1,I1,q1⟩=>?_);cases c with
 | true=>exact⟨H1,I1,q1⟩
 | false=>exact hb wh pins s1 σ H1 Q I1 q1
theorem pt_not (ha:PT X a tA):PT X (.UnaryOp .Not a pos) (tNot tA):=by
 intro pins s σ H Q I h;exact isTrue_not (ha pins s σ H (fun c H1=>Q (!c) H1) I h)
def tAndV (ta tb:TE):TE:=fun σ H Q=>ta σ H fun x H1=>∃ c,x=.bl c/\if c=true then tb σ H1 Q else Q (.bl false) H1
def tNotV (ta:TE):TE:=fun σ H Q=>ta σ H fun x H1=>∃ c,x=.bl c/\Q (.bl (!c)) H1
theorem pe_one {op}{t:TE}(h:PE X a t):PE X (.BoolOp op [a] pos) t:=fun pins s σ H Q I hw=>BoolOp_one (h pins s σ H Q I hw)
theorem pe_and (ha:PE X a ta)(hb:PE X (.BoolOp .And (b::rest) pos) tb):PE X (.BoolOp .And (a::b::rest) pos) (tAndV ta tb):=by
 intro pins s σ H Q I h;refine BoolOp_and (thn (ha pins s σ H _ I h) fun v s1 zq=>?_);obtain⟨x,H1,I1,r1,q1⟩:=zq;obtain⟨c,rfl,q1⟩:=q1;cases r1;refine wpAny_truthy_bool ?_;cases c with
 | true=>exact hb pins s1 σ H1 Q I1 q1
 | false=>exact⟨.bl false,H1,I1,rfl,q1⟩
theorem pe_not (ha:PE X a ta):PE X (.UnaryOp .Not a pos) (tNotV ta):=by
 intro pins s σ H Q I h;refine UnaryOp_ (thn (ha pins s σ H _ I h) fun v s1 zq=>?_);obtain⟨x,H1,I1,r1,q1⟩:=zq;obtain⟨c,rfl,q1⟩:=q1;cases r1;exact not_of (wpAny_truthy_bool ⟨.bl (!c),H1,I1,rfl,q1⟩)
end
def SqL (K:PySem.W.Frag)(H:Hp)(a:Addr)(xs:List V):Prop:=
 Rd H a (.lst xs) \/
   ∃ (o:Obj) (its:Array Value) (n:Nat),K.lookup a=some o/\o.cls=.type "list"/\o.dict=none/\o.data=.seq its n/\its.size<=sizeLine/\Vals xs its.toList
abbrev SqT (K:PySem.W.Frag)(H:Hp)(a:Addr)(xs:List V):Prop:=TupAt K H a xs
noncomputable def absV:Value->Option V
 | .none=>some .non
 | .bool b=>some (.bl b)
 | .int i _=>some (.int i)
 | .str x _=>some (.str x)
 | .bytes b _=>some (.byt b)
 | .float b _=>some (.flt b)
 | .ref a=>some (.ref a)
 | .type n=>some (.ty n)
 | _=>none
theorem RelV.abs {x:V}{u:Value}(r:RelV x u):absV u=some x:=by
 cases x with
 | non=>cases r;rfl
 | bl _=>cases r;rfl
 | int _=>obtain⟨t,rfl⟩:=r;rfl
 | str _=>obtain⟨t,rfl⟩:=r;rfl
 | byt _=>obtain⟨t,rfl⟩:=r;rfl
 | flt _=>obtain⟨t,rfl⟩:=r;rfl
 | ref _=>cases r;rfl
 | ty _=>cases r;rfl
theorem RelV.inj {x y:V}{u:Value}(r:RelV x u)(q:RelV y u):x=y:=Option.some.inj (r.abs.symm.trans q.abs)
theorem Vals.inj:∀ {xs ys:List V} {us:List Value},Vals xs us->Vals ys us->xs=ys
 | _,_,_,.nil,.nil=>rfl
 | _,_,_,.cons r t,.cons r' t'=>by rw[r.inj r',Vals.inj t t']
section
variable {X:Cx}{pins:List (Addr×Obj)}{σ:St}{H:Hp}{s:Shared}{a:Addr}{xs ys:List V}
theorem SqL.of {K:W.Frag}(h:H a=some (.lst xs)):SqL K H a xs:=.inl (.inl h)
theorem SqT.of {K:W.Frag}(h:H a=some (.tup xs)):SqT K H a xs:=.inl h
theorem Inv.list (I:Inv X pins σ H s)(h:SqL X.K H a xs):∃ its:List Value,Vals xs its/\PlainL s.heap a its.toArray/\xs.length<=sizeLine:=by
 rcases h with h | ⟨o,its,n,hk,hc,hd,hs,hz,r⟩
 . obtain⟨z,its,n,r,e⟩:=h.ok I.hok
   exact⟨its,r,⟨_,n,e,rfl,rfl,rfl⟩,z⟩
 . refine⟨its.toList,r,⟨o,n,I.kIn a o hk,hc,hd,by simpa using hs⟩,?_⟩
   have e:=r.length;simp only[ba] at e;omega
theorem Inv.tuple (I:Inv X pins σ H s)(h:SqT X.K H a xs):∃ its:List Value,Vals xs its/\IsTup s.heap a its.toArray/\xs.length<=sizeLine:=by
 rcases h with h | ⟨o,its,n,hk,hc,hs,hz,r⟩
 . obtain⟨z,its,r,p⟩:=(show ObjOk X.prog X.w H s.heap a (.tup xs) from I.hok a _ h)
   exact⟨its,r,p,z⟩
 . refine⟨its.toList,r,⟨o,I.kIn a o hk,hc,n,by simpa using hs⟩,?_⟩
   have e:=r.length;simp only[ba] at e;omega
theorem Inv.list_inj (I:Inv X pins σ H s)(h:SqL X.K H a xs)(h':SqL X.K H a ys):xs=ys:=by
 obtain⟨its,r,⟨o,n,e,_,_,d⟩,_⟩:=I.list h;obtain⟨its',r',⟨o',n',e',_,_,d'⟩,_⟩:=I.list h';rw[e] at e';cases e';rw[d] at d';injection d' with d1 _
 have:its=its':=by simpa using congrArg Array.toList d1
 subst this;exact r.inj r'
end
section
variable {X:Cx}{st:Stmt}{rest:List Stmt}{t u:TS}{e:Expr}{te:TE}{pos:Pos}
def tNext:TS:=fun D σ H=>D.nx σ H
def tSeq (t u:TS):TS:=fun D σ H=>t { D with nx:=u D} σ H
theorem pss_nil:PSs X [] tNext:=fun _ _ σ H _ I h=>wpAny_execs_nil ⟨σ,H,I,h⟩
theorem pss_cons (h1:PS X st t)(h2:PSs X rest u):PSs X (st::rest) (tSeq t u):=by
 intro pins s σ H D I h;refine wpAny_execs_cons (thn (h1 pins s σ H { D with nx:=u D} I h) fun f s1 q=>?_);cases f with
 | next=>
   obtain⟨σ',H',I',q⟩:=q;exact h2 pins s1 σ' H' D I' q
 | ret v=>exact q
 | brk=>exact q
 | cont=>exact q
theorem pss_one (h1:PS X st t):PSs X [st] t:=by
 intro pins s σ H D I h;refine wpAny_execs_cons (thn (h1 pins s σ H D I h) fun f s1 q=>?_);cases f with
 | next=>exact wpAny_execs_nil q
 | ret v=>exact q
 | brk=>exact q
 | cont=>exact q
theorem Inv.quiet {pins:List (Addr×Obj)}{σ:St}{H:Hp}{s:Shared}(I:Inv X pins σ H s):interactive X.env=false:=by simp[interactive,I.ok.kind]
def tDrop (te:TE):TS:=fun D σ H=>te σ H fun _ H1=>D.nx σ H1
theorem ps_expr (he:PE X e te)(hs:autoParam (swapsWith e none pos.line X.env=pure false) qc):PS X (.Expr e pos) (tDrop te):=by
 intro pins s σ H D I h;exact wpAny_Expr_any (thn (he pins s σ H _ I h) fun v s1 ⟨x,H1,I1,r1,q1⟩=>⟨σ,H1,I1,q1⟩) I.quiet hs
def tRet (te:TE):TS:=fun D σ H=>te σ H D.rt
theorem ps_ret (he:PE X e te):PS X (.Return (some e) pos) (tRet te):=by
 intro pins s σ H D I h;exact wpAny_Return_some (thn (he pins s σ H _ I h) fun v s1 ⟨x,H1,I1,r1,q1⟩=>⟨x,σ,H1,I1,r1,q1⟩)
def tIfS (c:TT)(t u:TS):TS:=fun D σ H=>c σ H fun b H1=>if b=true then t D σ H1 else u D σ H1
theorem ps_if {c:Expr}{a b:List Stmt}{tc:TT}(hc:PT X c tc)(ha:PSs X a t)(hb:PSs X b u):PS X (.If c a b pos) (tIfS tc t u):=by
 intro pins s σ H D I h;refine wpAny_If (thn (hc pins s σ H _ I h) fun d s1 ⟨H1,I1,q1⟩=>?_);cases d with
 | true=>exact ha pins s1 σ H1 D I1 q1
 | false=>exact hb pins s1 σ H1 D I1 q1
def tNever:TS:=fun _ _ _=>False
theorem pss_never {sts:List Stmt}:PSs X sts tNever:=fun _ _ _ _ _ _ h=>h.elim
end
abbrev TG:=V->St->Hp->(St->Hp->Prop)->Prop
abbrev TGs:=List V->St->Hp->(St->Hp->Prop)->Prop
def PG (X:Cx)(target:Expr)(t:TG):Prop:=
 ∀ (pins:List (Addr×Obj)) (s:Shared) (σ:St) (H:Hp) (v:V) (u:Value) (Q:St->Hp->Prop),Inv X pins σ H s->RelV v u->t v σ H Q ->
   wpAny (model X.prog X.w) X.A (assign target X.env u) (fun _ s'=>∃ σ' H',Inv X pins σ' H' s'/\Q σ' H') X.xe s
def PGs (X:Cx)(ts:List Expr)(t:TGs):Prop:=
 ∀ (pins:List (Addr×Obj)) (s:Shared) (σ:St) (H:Hp) (vs:List V) (us:List Value) (Q:St->Hp->Prop),Inv X pins σ H s->Vals vs us->t vs σ H Q ->
   wpAny (model X.prog X.w) X.A (assignInOrder ((assignEach ts X.env).map (·.2)) us) (fun _ s'=>∃ σ' H',Inv X pins σ' H' s'/\Q σ' H') X.xe s
section
variable {X:Cx}{pos:Pos}
def gName (i:Nat):TG:=fun v σ H Q=>Q (σ.set i (some v)) H
theorem pg_name {i:Nat}{x:Str}(hN:X.N.Nodup)(hi:X.N[i]?=some x)(hx:Loc X.env.scope x)(hf:autoParam (X.fn x=true\/X.env.scope.names.lookup x=some .local) qe):PG X (.Name x pos) (gName i):=by
 intro pins s σ H v u Q I r h;exact wpAny_assign_Name (store_ok I hN hi hx r (fun s' I'=>⟨_,H,I',h⟩) hf)
def gNil:TGs:=fun vs σ H Q=>vs=[]/\Q σ H
def gCons (t:TG)(u:TGs):TGs:=fun vs σ H Q=>∃ v r,vs=v::r/\t v σ H fun σ' H'=>u r σ' H' Q
theorem pgs_nil:PGs X [] gNil:=by
 intro pins s σ H vs us Q I r h;obtain⟨e,h⟩:=h;subst e;cases r;exact assignInOrder_nil ⟨σ,H,I,h⟩
theorem pgs_cons {e:Expr}{es:List Expr}{t:TG}{u:TGs}(h1:PG X e t)(h2:PGs X es u)(hs:autoParam ((assignEach (e::es) X.env).map (·.2)=assign e X.env::(assignEach es X.env).map (·.2)) qc):PGs X (e::es) (gCons t u):=by
 intro pins s σ H vs us Q I r h;obtain⟨v,vr,e1,h⟩:=h;subst e1;cases r with
 | cons r rr=>
   rw[hs];refine assignInOrder_cons (thn (h1 pins s σ H _ _ _ I r h) fun _ s1 zq=>?_);obtain⟨σ1,H1,I1,q1⟩:=zq;exact h2 pins s1 σ1 H1 _ _ Q I1 rr q1
def gTup (K:W.Frag)(n:Nat)(t:TGs):TG:=fun v σ H Q=>∃ a xs,v=.ref a/\SqT K H a xs/\xs.length=n/\t xs σ H Q
theorem pg_tup {es:List Expr}{k:Nat}{t:TGs}{n:Nat}(hc:X.calm=true)(h:PGs X es t)(hn:autoParam ((assignEach es X.env).length=n) qc)(hst:autoParam ((assignEach es X.env).findIdx? (·.1)=none) qc):PG X (.Tuple es k pos) (gTup X.K n t):=by
 intro pins s σ H v u Q I r hw;obtain⟨a,xs,e1,hq,hl,hw⟩:=hw;subst e1;cases r;obtain⟨its,rv,ht,hz⟩:=I.tuple hq;refine assign_Tuple_tuple (I.ok.hd hc) ht (by simp[hn,<- hl,rv.length]) hst fun h' hx=>?_
 have I1:Inv X pins σ H { s with heap:=h'}:=I.kept (t':=s.toks) fun b o e=>hx b o (au (ah e)) e
 exact h pins _ σ H xs _ Q I1 (by simpa using rv) hw
def tAsg (te:TE)(g:TG):TS:=fun D σ H=>te σ H fun x H1=>g x σ H1 D.nx
theorem ps_asg {tg e:Expr}{te:TE}{g:TG}(he:PE X e te)(hg:PG X tg g)(hs:autoParam (swapsWithSole [tg] e pos.line X.env=pure false) qc)(hw:autoParam (swappedStores [tg] e X.env=pure none) qc)(h1:autoParam ((assignEach [tg] X.env).map (·.2)=[assign tg X.env]) qc):PS X (.Assign [tg] e pos) (tAsg te g):=by
 intro pins s σ H D I h;refine wpAny_Assign_stores (thn (he pins s σ H _ I h) fun v s1 zq=>?_) hs hw;obtain⟨x,H1,I1,r1,q1⟩:=zq;rw[h1];exact thn (hg pins s1 σ H1 x v _ I1 r1 q1) fun _ s2 q=>q
theorem ps_set {i:Nat}{x:Str}{e:Expr}{te:TE}{pos':Pos}(hN:X.N.Nodup)(hi:X.N[i]?=some x)(hx:Loc X.env.scope x)(he:PE X e te)(hs:autoParam (swapsWith e (some (.Name x pos')) pos.line X.env=pure false) qc)(hf:autoParam (X.fn x=true\/X.env.scope.names.lookup x=some .local) qe):PS X (.Assign [.Name x pos'] e pos) (tAsg te (gName i)):=by
 intro pins s σ H D I h;refine wpAny_Assign_Name (thn (he pins s σ H _ I h) fun v s1 zq=>?_) hs;obtain⟨y,H1,I1,r1,q1⟩:=zq;exact store_ok I1 hN hi hx r1 (fun s2 I2=>⟨_,H1,I2,q1⟩) hf
def tPar (i j:Nat)(ta:TA):TS:=fun D σ H=>ta σ H fun vs H1=>∃ v w,vs=[v,w]/\D.nx ((σ.set i (some v)).set j (some w)) H1
theorem ps_par {i j:Nat}{x y:Str}{a b:Expr}{ta:TA}{px py pt:Pos}{kt k2 pt2}(hc:X.calm=true)(hN:X.N.Nodup)(hi:X.N[i]?=some x)(hj:X.N[j]?=some y)(hij:i≠j)(hx:X.env.scope.names.lookup x=some .local)(hy:X.env.scope.names.lookup y=some .local)(ha:PA X [a,b] ta)(hw:swappedStores [.Tuple [.Name x px,.Name y py] kt pt] (.Tuple [a,b] k2 pt2) X.env=pure (some [x,y]))(hs:autoParam (swapsWithSole [.Tuple [.Name x px,.Name y py] kt pt] (.Tuple [a,b] k2 pt2) pos.line X.env=pure false) qc):PS X (.Assign [.Tuple [.Name x px,.Name y py] kt pt] (.Tuple [a,b] k2 pt2) pos) (tPar i j ta):=by
 intro pins s σ H D I h;rw[exec_Assign_arm];refine wpAny_bind (wpAny_standAt ?_);rw[hs];refine wpAny_bind (wpAny_pure ?_);rw[if_neg (by decide)];refine wpAny_bind (Tuple_ (thn (ha _ pins s σ H _ I h) fun us s1 zq=>?_));obtain⟨vs,H1,I1,r1,q1⟩:=zq;obtain⟨v,w,e1,q1⟩:=q1;subst e1;obtain⟨u1,u2,rfl,rv,rw'⟩:∃ u1 u2,us=[u1,u2]/\RelV v u1/\RelV w u2:=by
   cases r1 with
   | cons p q=>
     cases q with
     | cons p' q'=>
       cases q';exact⟨_,_,rfl,p,p'⟩
 refine wpAny_newObj_type ?_ (by show 2<=sizeLine;decide);have I2:Inv X pins σ H1 { s1 with heap:=s1.heap.push { cls:=.type "tuple",data:=.seq [u1,u2].toArray}}:=I1.kept (t':=s1.toks) fun b o e=>aa _ e
 rw[hw];refine wpAny_bind (wpAny_pure ?_);show wpAny (model X.prog X.w) X.A (do rule "assign.swapped-stores";let items <- unpackItems (.ref s1.heap.objs.size) 2 none;assignInOrder [fun v=>bindName X.env y v,fun v=>bindName X.env x v] items.reverse;pure Flow.next) _ _ _;refine wpAny_bind (wpAny_rule (wpAny_bind (unpackItems_tuple (items:=#[u1,u2]) (I.ok.hd hc) (IsTup.new s1.heap _) fun h' hx'=>?_)));have I3:=I2.kept (h':=h') (t':=s1.toks) fun b o e=>hx' b o (au (ah e)) e
 show wpAny _ _ (assignInOrder [fun v=>bindName X.env y v,fun v=>bindName X.env x v] [u2,u1] >>= fun _=>pure Flow.next) _ _ _;refine wpAny_bind (assignInOrder_cons (wpAny_bindName (store_ok I3 hN hj (.inl hy) rw' (fun s2 I4=>?_) (.inr hy))));refine assignInOrder_cons (wpAny_bindName (store_ok I4 hN hi (.inl hx) rv (fun s3 I5=>assignInOrder_nil (wpAny_pure ?_)) (.inr hx)));rw[List.set_comm _ _ (Ne.symm hij)] at I5;exact⟨_,H1,I5,q1⟩
end
structure It where
 go:Nat->Hp->Prop
 yld:Nat->Hp->V->Hp->Prop
 stop:Nat->Hp->Prop
def FpOk (X:Cx)(pins:List (Addr×Obj))(H:Hp)(b:Addr):Prop:=
 H b=none/\b≠X.env.locals/\b ∉ X.fs/\(b∈X.ex\/X.s₀.heap.objs.size<=b)/\(∀ x c,X.env.cells.lookup x=some c->c≠b)/\∀ p∈X.pn ++ pins,p.1≠b
theorem Inv.fpOk {X:Cx}{pins:List (Addr×Obj)}{σ:St}{H H':Hp}{s:Shared}{b:Addr}(I:Inv X pins σ H s)(hb:s.heap.objs.size<=b)(hn:H' b=none):FpOk X pins H' b:=by
 refine⟨hn,Nat.ne_of_gt (ay I.lt hb),I.nofs hb,.inr (aO I.sz hb),fun x c e z=>?_,fun p hp z=>?_⟩
 . obtain⟨v,q⟩:=I.cell x c e
   exact absurd (ay q.lt (by rw[z];exact hb)) (bu _)
 . exact absurd (ay (ah (I.pin p hp).1) (by rw[z];exact hb)) (bu _)
structure Turn (P:Program)(w:World)(K:W.Frag)(tg:Expr)(J:It)(fp:List Addr)(it:Addr)(tn:Nat->Heap->Prop):Prop where
 mem:it∈fp
 obj:∀ i h,tn i h->∀ b∈fp,∃ o,h.get? b=some o/\∀ v,o.data≠.cell v
 keep:∀ i h h',tn i h->(∀ b∈fp,∀ o,h.get? b=some o->h'.get? b=some o)->tn i h'
 item:∀ (X:Cx),X.prog=P->X.w=w->X.K=K->X.calm=true->∀ (i:Nat) (pins:List (Addr×Obj)) (s:Shared) (σ:St) (H:Hp) (E:Value->Shared->Prop),Inv X pins σ H s->(∀ b∈fp,FpOk X pins H b)->tn i s.heap->J.go i H ->
   wpAny (model P w) X.A (pyNext (.ref it)) (fun r s1=>∃ u,r=some u /\
     wpAny (model P w) X.A (letOwnedTupleGo tg (.ref it) u) (fun _ s2=>∃ x H',Inv X pins σ H' s2/\RelV x u/\J.yld i H x H'/\tn (i+1) s2.heap/\∀ b∈fp,H' b=none) E s1) E s
 done:∀ (X:Cx),X.prog=P->X.w=w->X.K=K->X.calm=true->∀ (i:Nat) (pins:List (Addr×Obj)) (s:Shared) (σ:St) (H:Hp) (E:Value->Shared->Prop),Inv X pins σ H s->(∀ b∈fp,FpOk X pins H b)->tn i s.heap->J.stop i H ->
   wpAny (model P w) X.A (pyNext (.ref it)) (fun r s1=>r=none/\Inv X pins σ H s1) E s
 self:∀ (A:Around) (i:Nat) (s:Shared) (Q:Value->Shared->Prop) (E:Value->Shared->Prop),tn i s.heap->Q (.ref it) s->wpAny (model P w) A (pyIter (.ref it)) Q E s
abbrev TI:=St->Hp->(It->Hp->Prop)->Prop
def PIE (X:Cx)(pins:List (Addr×Obj))(σ:St)(tg:Expr)(R:It->Hp->Prop)(itv:Value)(s2:Shared):Prop:=
 ∃ (it:Addr) (fp:List Addr) (tn:Nat->Heap->Prop) (J:It) (H':Hp),itv=.ref it/\Inv X pins σ H' s2/\Turn X.prog X.w X.K tg J fp it tn/\tn 0 s2.heap/\(∀ b∈fp,FpOk X pins H' b)/\R J H'
def PI (X:Cx)(tg iter:Expr)(wi:TI):Prop:=
 ∀ (pins:List (Addr×Obj)) (s:Shared) (σ:St) (H:Hp) (R:It->Hp->Prop),Inv X pins σ H s->wi σ H R ->
   wpAny (model X.prog X.w) X.A (eval iter X.env) (fun v s1=>wpAny (model X.prog X.w) X.A (pyIter v) (PIE X pins σ tg R) X.xe s1) X.xe s
theorem go_of {M:Model}{A:Around}{E:Value->Shared->Prop}{s:Shared}{tg:Expr}{it:Addr}{u:Value}{o:Obj}{n:String}{vs:Array Value}{Q:Unit->Shared->Prop}(ho:s.heap.get? it=some o)(hc:o.cls=.type n)(hd:o.data=.fields vs)(hn:["enumerate","zip","dict_itemiterator","dict_reverseitemiterator","odict_iterator","itertools.zip_longest","itertools.pairwise"].contains n=false)(hQ:Q () s):wpAny M A (letOwnedTupleGo tg (.ref it) u) Q E s:=by
 unfold letOwnedTupleGo;cases tg <;> first
   | exact wpAny_pure hQ
   | (cases u <;> first
       | exact wpAny_pure hQ
       | (refine wpAny_bind (wpAny_load ho ?_)
          rw[hc,hd];show wpAny M A (if (["enumerate","zip","dict_itemiterator","dict_reverseitemiterator","odict_iterator","itertools.zip_longest","itertools.pairwise"].contains n && vs[0]? == some (rawInt _))=true then _ else _) Q E s;rw[if_neg (by intro h;rw[hn,Bool.false_and] at h;cases h)];exact wpAny_pure hQ))
noncomputable def Itl (K:W.Frag)(a:Addr):It:=
 ⟨fun i H=>∃ xs x,SqL K H a xs/\xs[i]?=some x,fun i H x H'=>H'=H/\∀ xs,SqL K H a xs->xs[i]?=some x,fun i H=>∃ xs,SqL K H a xs/\xs.length<=i⟩
noncomputable def Itr (lo:Int)(n:Nat):It:=⟨fun i _=>i < n,fun i H x H'=>H'=H/\x=.int (lo+i),fun i _=>n<=i⟩
theorem turn_list {P:Program}{w:World}{K:W.Frag}{tg:Expr}(a it:Addr):Turn P w K tg (Itl K a) [it] it (fun i h=>h.IsListIter it a i) where
 mem:=by simp
 obj:=fun i h st b hb=>by
   have e:b=it:=by simpa using hb
   subst e;obtain⟨o,e,c,d⟩:=st;exact⟨o,e,fun v z=>by rw[d] at z;cases z⟩
 keep:=fun i h h' st k=>st.at fun o e=>k it (by simp) o e
 item:=by
   intro X hP hw hK hc i pins s σ H E I hf st hg;subst hP hw hK;obtain⟨xs,x,hq,hx⟩:=hg;obtain⟨its,rv,p,hz⟩:=I.list hq;obtain⟨u,hu,ru⟩:=rv.get hx;obtain⟨f0,f1,f2,f3,f4,f5⟩:=hf it (by simp);refine wpAny_pyNext_list_item st p.isList (x:=u) (by simpa using hu) fun h' st' sb=>?_
   have I1:Inv X pins σ H { s with heap:=h'}:=I.turned (t':=s.toks) (fun b o hb e=>(sb.2 b hb).trans e) f0 f1 f3 f4 f5;obtain⟨o,e,c,d⟩:=id st';exact⟨u,rfl,go_of (s:={ s with heap:=h'}) e c d (by decide) ⟨x,H,I1,ru,⟨rfl,fun ys hy=>by rw[I.list_inj hy hq];exact hx⟩,st',fun b hb=>(hf b hb).1⟩⟩
 done:=by
   intro X hP hw hK hc i pins s σ H E I hf st hg;subst hP hw hK;obtain⟨xs,hq,hx⟩:=hg;obtain⟨its,rv,p,hz⟩:=I.list hq;obtain⟨f0,f1,f2,f3,f4,f5⟩:=hf it (by simp);have hl:=rv.length;exact wpAny_pyNext_list_end (I.ok.hd hc) st p.isList (by simp;omega) fun h' eb=>⟨rfl,I.turned (t':=s.toks) (fun b o hb e=>eb b o hb e) f0 f1 f3 f4 f5⟩
 self:=fun _ _ _ _ _ st h=>wpAny_pyIter_listiter st h
theorem turn_range {P:Program}{w:World}{K:PySem.W.Frag}{tg:Expr}(it:Addr)(lo:Int)(n:Nat):Turn P w K tg (Itr lo n) [it] it (fun i h=>IsRangeIter h it (lo+(i:Nat) * 1) ((n:Int) - (i:Nat)) 1) where
 mem:=by simp
 obj:=fun i h st b hb=>by
   have e:b=it:=by simpa using hb
   subst e;exact⟨_,st,fun v z=>by
     have z':Data.fields _=Data.cell v:=z;cases z'⟩
 keep:=fun i h h' st k=>k it (by simp) _ st
 item:=by
   intro X hP hw hK hc i pins s σ H E I hf st hg;subst hP hw hK;obtain⟨f0,f1,f2,f3,f4,f5⟩:=hf it (by simp);have W:=Walks.range (prog:=X.prog) (w:=X.w) (I.ok.hd hc) it lo 1 n;refine W.item i s _ _ hg st fun v h' tk hv st' kk=>?_
   obtain⟨t,rfl⟩:=hv;have I1:Inv X pins σ H { s with heap:=h',toks:=tk}:=I.turned (fun b o hb e=>kk b o (by simpa using hb) e) f0 f1 f3 f4 f5;refine⟨_,rfl,go_of (s:={ s with heap:=h',toks:=tk}) (n:="range_iterator") st' rfl rfl (by decide) ⟨.int (lo+i),H,I1,⟨t,?_⟩,⟨rfl,rfl⟩,st',fun b hb=>(hf b hb).1⟩⟩;rw[Int.mul_one]
 done:=by
   intro X hP hw hK hc i pins s σ H E I hf st hg;subst hP hw hK;obtain⟨f0,f1,f2,f3,f4,f5⟩:=hf it (by simp);exact wpAny_pyNext_range_end (I.ok.hd hc) st (by have:n<=i:=hg;omega) fun h' eb=>⟨rfl,I.turned (t':=s.toks) (fun b o hb e=>eb b o hb e) f0 f1 f3 f4 f5⟩
 self:=fun _ _ _ _ _ st h=>wpAny_pyIter_rangeiter st h
section
variable {X:Cx}{tg:Expr}
def iList (K:W.Frag)(tl:TE):TI:=fun σ H R=>tl σ H fun x H1=>∃ a,x=.ref a/\(∃ xs,SqL K H1 a xs)/\R (Itl K a) H1
theorem pi_list {l:Expr}{tl:TE}(hl:PE X l tl):PI X tg l (iList X.K tl):=by
 intro pins s σ H R I h;refine thn (hl pins s σ H _ I h) fun v s1 zq=>?_;obtain⟨x,H1,I1,r1,q1⟩:=zq
 obtain⟨a,e,⟨xs,hq⟩,q⟩:=q1;subst e;cases r1;obtain⟨its,rv,p,hz⟩:=I1.list hq;refine wpAny_pyIter_list p.isList ?_;refine⟨s1.heap.objs.size,[s1.heap.objs.size],_,_,H1,rfl,I1.kept (t':=s1.toks) fun b o e=>aa _ e,turn_list a _,⟨_,ax _ rfl,rfl,rfl⟩,fun b hb=>?_,q⟩;have e:b=s1.heap.objs.size:=by simpa using hb
 subst e;exact I1.fpOk (ag _) (I1.hok.fresh (ag _))
theorem range_it {pins:List (Addr×Obj)}{σ:St}{H:Hp}{s:Shared}{R:It->Hp->Prop}{E:Value->Shared->Prop}{lo hi:Int}{t u v:Tok}{tk:Nat}(I:Inv X pins σ H s)(h1:-(2 ^ 62)<=lo)(h2:lo < 2 ^ 62)(h3:-(2 ^ 62)<=hi)(h4:hi < 2 ^ 62)(q:R (Itr lo (hi - lo).toNat) H):wpAny (model X.prog X.w) X.A (pyIter (.ref s.heap.objs.size)) (PIE X pins σ tg R) E { s with heap:=s.heap.push { cls:=.type "range",data:=.fields #[.int lo t,.int hi u,.int 1 v]},toks:=tk}:=by
 refine wpAny_pyIter_range (IsRange.new ..) (small_one h1 h2 h3 h4) ?_;have I1:Inv X pins σ H { s with heap:=s.heap.push { cls:=.type "range",data:=.fields #[.int lo t,.int hi u,.int 1 v]},toks:=tk}:=I.kept fun b o e=>aa _ e
 refine⟨(s.heap.push { cls:=.type "range",data:=.fields #[.int lo t,.int hi u,.int 1 v]}).objs.size,[(s.heap.push { cls:=.type "range",data:=.fields #[.int lo t,.int hi u,.int 1 v]}).objs.size],_,_,H,rfl,
   I1.kept (t':=tk) fun b o e=>aa _ e,turn_range _ lo (hi - lo).toNat,?_,fun b hb=>?_,q⟩
 . have e1:lo+((0:Nat):Int) * 1=lo:=by simp
   have e2:(((hi - lo).toNat:Nat):Int) - ((0:Nat):Int)=Builtin.Range.rangeSize lo hi 1:=by rw[rangeSize_one];split <;> omega
   show IsRangeIter _ _ (lo+((0:Nat):Int) * 1) ((((hi - lo).toNat:Nat):Int) - ((0:Nat):Int)) 1;rw[e1,e2];exact ax _ rfl
 . have e:b=(s.heap.push { cls:=.type "range",data:=.fields #[.int lo t,.int hi u,.int 1 v]}).objs.size:=by simpa using hb
   subst e;exact I1.fpOk (ag _) (I1.hok.fresh (ag _))
def iRng1 (ta:TA):TI:=fun σ H R=>ta σ H fun vs H1=>∃ j:Int,vs=[.int j]/\-(2 ^ 62)<=j/\j < 2 ^ 62/\R (Itr 0 j.toNat) H1
def iRng2 (ta:TA):TI:=fun σ H R=>ta σ H fun vs H1=>∃ i j:Int,vs=[.int i,.int j]/\(-(2 ^ 62)<=i/\i < 2 ^ 62/\-(2 ^ 62)<=j/\j < 2 ^ 62)/\R (Itr i (j - i).toNat) H1
theorem pi_range1 {a:Expr}{ta:TA}{p pos:Pos}(hg:Gl X "range")(hm:X.mg "range"=none)(ha:PA X [a] ta)(hs:autoParam (starEach [a] X.env=[(false,eval a X.env)]) qc):PI X tg (.Call (.Name "range" p) [a] [] pos) (iRng1 ta):=by
 intro pins s σ H R I h;refine Call_ (ld_blt I hg hm boot_range (PyProof.Rows.callWith_type1 (thn (ha pos pins s σ H _ I h) fun us s1 zq=>?_) hs rfl));obtain⟨vs,H1,I1,r1,q1⟩:=zq;obtain⟨j,e,q1,q2,q⟩:=q1;subst e;cases r1 with
 | cons r rr=>
   cases rr;obtain⟨t,rfl⟩:=r;exact call_range_1 (range_it I1 (by omega) (by omega) q1 q2 (by simpa using q))
theorem pi_range2 {a b:Expr}{ta:TA}{p pos:Pos}(hg:Gl X "range")(hm:X.mg "range"=none)(ha:PA X [a,b] ta)(hs:autoParam (starEach [a,b] X.env=[(false,eval a X.env),(false,eval b X.env)]) qc)(hs2:autoParam (starEach [b] X.env=[(false,eval b X.env)]) qc):PI X tg (.Call (.Name "range" p) [a,b] [] pos) (iRng2 ta):=by
 intro pins s σ H R I h;refine Call_ (ld_blt I hg hm boot_range (PyProof.Rows.callWith_type1 (thn (ha pos pins s σ H _ I h) fun us s1 zq=>?_) (by rw[hs,hs2]) (by rw[hs2];rfl)));obtain⟨vs,H1,I1,r1,q1⟩:=zq;obtain⟨i,j,e,⟨q1,q2,q3,q4⟩,q⟩:=q1;subst e;cases r1 with
 | cons r rr=>
   cases rr with
   | cons r' rr=>
     cases rr;obtain⟨t,rfl⟩:=r;obtain⟨t',rfl⟩:=r';exact call_range_2 (range_it I1 q1 q2 q3 q4 q)
def tFor (wi:TI)(g:TG)(tb:TS):TS:=fun D σ H=>wi σ H fun J H1=>∃ W:Nat->Nat->St->Hp->Prop,(∃ m,W 0 m σ H1)/\∀ i m σ H,W i m σ H ->
 (J.stop i H/\D.nx σ H)\/(J.go i H/\∃ N:St->Hp->Prop,(∀ σ' H',N σ' H'->∃ m',m' < m/\W (i+1) m' σ' H')/\∀ x H',J.yld i H x H'->g x σ H' fun σ2 H2=>tb { D with nx:=N,ct:=N,bk:=D.nx} σ2 H2)
noncomputable def pinsAt (fp:List Addr)(h:Heap):List (Addr×Obj):=fp.filterMap fun b=>(h.get? b).map fun o=>(b,o)
theorem mem_pinsAt {fp:List Addr}{h:Heap}{b:Addr}{o:Obj}(hb:b∈fp)(e:h.get? b=some o):(b,o)∈pinsAt fp h:=List.mem_filterMap.mpr ⟨b,hb,by rw[e];rfl⟩
theorem of_pinsAt {fp:List Addr}{h:Heap}{p:Addr×Obj}(hp:p∈pinsAt fp h):p.1∈fp/\h.get? p.1=some p.2:=by
 obtain⟨b,hb,e⟩:=List.mem_filterMap.mp hp;cases q:h.get? b with
 | none=>rw[q] at e;cases e
 | some o=>
   rw[q] at e;have e':(b,o)=p:=Option.some.inj e;subst e';exact⟨hb,q⟩
theorem Inv.pinned {pins:List (Addr×Obj)}{σ:St}{H:Hp}{s:Shared}{fp:List Addr}(I:Inv X pins σ H s)(hf:∀ b∈fp,FpOk X pins H b)(ho:∀ b∈fp,∃ o,s.heap.get? b=some o/\∀ v,o.data≠.cell v):Inv X (pins ++ pinsAt fp s.heap) σ H s:=
 I.pins_of fun p hp=>(br.mp hp).elim (fun z=>I.pin p (aA _ z)) fun z=>by
   obtain⟨hb,e⟩:=of_pinsAt z;obtain⟨f0,f1,f2,_⟩:=hf p.1 hb;obtain⟨o,e',d⟩:=ho p.1 hb;rw[e] at e';cases e';exact⟨e,f0,f1,f2,d⟩
theorem Inv.unpinned {pins pl:List (Addr×Obj)}{σ:St}{H:Hp}{s:Shared}(I:Inv X (pins ++ pl) σ H s):Inv X pins σ H s:=I.pins_of fun p hp=>I.pin p (aA _ (List.mem_append_left _ hp))
theorem ps_for {iter:Expr}{body:List Stmt}{wi:TI}{g:TG}{tb:TS}{pos:Pos}(hp:PassesOwn (model X.prog X.w) X.A X.env X.xe)(hc:X.calm=true)(hi:PI X tg iter wi)(hg:PG X tg g)(hb:PSs X body tb)(hs:autoParam (∀ x,foldedSetIterable iter X.env x=pure x) qf):PS X (.For tg iter body [] pos) (tFor wi g tb):=by
 intro pins s σ H D I h;refine wpAny_For (thn (hi pins s σ H _ I h) fun v s1 h1=>thn h1 fun itv s2 h2=>?_) hs;obtain⟨it,fp,tn,J,H2,e,I2,T,st2,f2,W,⟨m0,w0⟩,turn⟩:=h2;subst e;have stat:∀ {H':Hp},(∀ b∈fp,H' b=none)->∀ b∈fp,FpOk X pins H' b:=fun hn b hb=>⟨hn b hb,(f2 b hb).2⟩
 refine codeAny_forLoop_any (fun n s'=>∃ i σ' H',Inv X pins σ' H' s'/\tn i s'.heap/\(∀ b∈fp,H' b=none)/\W i n σ' H') ?_ m0 ⟨0,σ,H2,I2,st2,fun b hb=>(f2 b hb).1,w0⟩
 rintro n s3 ⟨i,σ3,H3,I3,st3,fr3,w3⟩
 rcases turn i n σ3 H3 w3 with⟨stop,qn⟩ | ⟨go,N,hN,step⟩
 . refine wpAny_passesOwn hp (thn (T.done X rfl rfl rfl hc i pins s3 σ3 H3 X.xe I3 (stat fr3) st3 stop) fun r s4 ⟨hr,I4⟩=>?_)
   subst hr;exact wpAny_execs_nil ⟨σ3,H3,I4,qn⟩
 . refine wpAny_passesOwn hp (thn (T.item X rfl rfl rfl hc i pins s3 σ3 H3 X.xe I3 (stat fr3) st3 go) fun r s4 ⟨u,hr,h4⟩=>?_)
   subst hr;refine wpAny_passesOwn hp (thn h4 fun _ s5 zq=>?_);obtain⟨x,H5,I5,r5,y5,st5,fr5⟩:=zq;have I5':=I5.pinned (stat fr5) (T.obj _ _ st5);refine wpAny_passesOwn hp (thn (hg _ s5 σ3 H5 x u _ I5' r5 (step x H5 y5)) fun _ s6 zq=>?_);obtain⟨σ6,H6,I6,q6⟩:=zq;refine wpAny_passesOwn hp (thn (hb _ s6 σ6 H6 _ I6 q6) fun f s7 q7=>?_);have again:∀ {σ7:St} {H7:Hp},Inv X (pins ++ pinsAt fp s5.heap) σ7 H7 s7->N σ7 H7->∃ m,m < n/\∃ i σ' H',Inv X pins σ' H' s7/\tn i s7.heap/\(∀ b∈fp,H' b=none)/\W i m σ' H':=fun {σ7 H7} I7 n7=>by
     obtain⟨m',hm,w7⟩:=hN σ7 H7 n7;refine⟨m',hm,i+1,σ7,H7,I7.unpinned,T.keep _ _ _ st5 fun b hb o e=>(I7.pin (b,o) (aA _ (aA _ (mem_pinsAt hb e)))).1,fun b hb=>?_,w7⟩;obtain⟨o,e,d⟩:=T.obj _ _ st5 b hb;exact(I7.pin (b,o) (aA _ (aA _ (mem_pinsAt hb e)))).2.1
   cases f with
   | next=>obtain⟨σ7,H7,I7,n7⟩:=q7;exact again I7 n7
   | cont=>obtain⟨σ7,H7,I7,n7⟩:=q7;exact again I7 n7
   | brk=>obtain⟨σ7,H7,I7,q7⟩:=q7;exact⟨σ7,H7,I7.unpinned,q7⟩
   | ret v=>obtain⟨x7,σ7,H7,I7,r7,q7⟩:=q7;exact⟨x7,σ7,H7,I7.unpinned,r7,q7⟩
end
theorem for_list {K:PySem.W.Frag}{a:Addr}{xs:List V}{g:TG}{tb:TS}{D:Ends}{σ:St}{H:Hp}(Pv:Nat->St->Hp->Prop)(h0:Pv 0 σ H)(hl:∀ i σ H,i<=xs.length->Pv i σ H->SqL K H a xs)(hs:∀ i x σ H,xs[i]?=some x->Pv i σ H->g x σ H fun σ2 H2=>tb { D with nx:=Pv (i+1),ct:=Pv (i+1),bk:=D.nx} σ2 H2)(hd:∀ σ H,Pv xs.length σ H->D.nx σ H):∃ W:Nat->Nat->St->Hp->Prop,(∃ m,W 0 m σ H)/\∀ i m σ H,W i m σ H->((Itl K a).stop i H/\D.nx σ H)\/((Itl K a).go i H/\∃ N:St->Hp->Prop,(∀ σ' H',N σ' H'->∃ m',m' < m/\W (i+1) m' σ' H')/\∀ x H',(Itl K a).yld i H x H'->g x σ H' fun σ2 H2=>tb { D with nx:=N,ct:=N,bk:=D.nx} σ2 H2):=by
 refine⟨fun i m σ H=>m=xs.length - i/\i<=xs.length/\Pv i σ H,⟨xs.length,by simp,aJ _,h0⟩,?_⟩
 rintro i m σ H ⟨rfl,hi,p⟩
 have q:=hl i σ H hi p;by_cases hlt:i < xs.length
 . refine .inr ⟨⟨xs,xs[i],q,by simp[hlt]⟩,Pv (i+1),fun σ' H' p'=>⟨xs.length - (i+1),by omega,rfl,hlt,p'⟩,fun x H' y=>?_⟩
   obtain⟨e,y⟩:=y;subst e;exact hs i x σ _ (y xs q) p
 . have e:i=xs.length:=by omega
   subst e;exact .inl ⟨⟨xs,q,ag _⟩,hd σ H p⟩
theorem for_range {lo:Int}{n:Nat}{g:TG}{tb:TS}{D:Ends}{σ:St}{H:Hp}(Pv:Nat->St->Hp->Prop)(h0:Pv 0 σ H)(hs:∀ i σ H,i < n->Pv i σ H->g (.int (lo+i)) σ H fun σ2 H2=>tb { D with nx:=Pv (i+1),ct:=Pv (i+1),bk:=D.nx} σ2 H2)(hd:∀ σ H,Pv n σ H->D.nx σ H):∃ W:Nat->Nat->St->Hp->Prop,(∃ m,W 0 m σ H)/\∀ i m σ H,W i m σ H->((Itr lo n).stop i H/\D.nx σ H)\/((Itr lo n).go i H/\∃ N:St->Hp->Prop,(∀ σ' H',N σ' H'->∃ m',m' < m/\W (i+1) m' σ' H')/\∀ x H',(Itr lo n).yld i H x H'->g x σ H' fun σ2 H2=>tb { D with nx:=N,ct:=N,bk:=D.nx} σ2 H2):=by
 refine⟨fun i m σ H=>m=n - i/\i<=n/\Pv i σ H,⟨n,by simp,aJ _,h0⟩,?_⟩
 rintro i m σ H ⟨rfl,hi,p⟩
 by_cases hlt:i < n
 . refine .inr ⟨hlt,Pv (i+1),fun σ' H' p'=>⟨n - (i+1),by omega,rfl,hlt,p'⟩,fun x H' y=>?_⟩
   obtain⟨e,y⟩:=y;subst e y;exact hs i σ _ hlt p
 . have e:i=n:=by omega
   subst e;exact .inl ⟨ag _,hd σ H p⟩
abbrev R2:=V->V->Hp->VK->Prop
def OpR (X:Cx)(f:Value->Value->Sem Value)(r:R2):Prop:=
 ∀ (pins:List (Addr×Obj)) (s:Shared) (σ:St) (H:Hp) (x y:V) (v u:Value) (Q:VK),Inv X pins σ H s->RelV x v->RelV y u->r x y H Q ->
   wpAny (model X.prog X.w) X.A (f v u) (EP X pins σ Q) X.xe s
def UnR (X:Cx)(f:Value->Sem Value)(r:V->Hp->VK->Prop):Prop:=
 ∀ (pins:List (Addr×Obj)) (s:Shared) (σ:St) (H:Hp) (x:V) (v:Value) (Q:VK),Inv X pins σ H s->RelV x v->r x H Q ->
   wpAny (model X.prog X.w) X.A (f v) (EP X pins σ Q) X.xe s
def CallR (X:Cx)(f:Value)(r:List V->Hp->VK->Prop):Prop:=
 ∀ (pins:List (Addr×Obj)) (s:Shared) (σ:St) (H:Hp) (xs:List V) (us:List Value) (Q:VK),Inv X pins σ H s->Vals xs us->r xs H Q ->
   wpAny (model X.prog X.w) X.A (call f us) (EP X pins σ Q) X.xe s
def tOp (r:R2)(ta tb:TE):TE:=fun σ H Q=>ta σ H fun x H1=>tb σ H1 fun y H2=>r x y H2 Q
def tUn (r:V->Hp->VK->Prop)(ta:TE):TE:=fun σ H Q=>ta σ H fun x H1=>r x H1 Q
def rI (C:Int->Int->Prop)(g:Int->Int->V):R2:=fun x y H Q=>∃ i j,x=.int i/\y=.int j/\C i j/\Q (g i j) H
def rI0 (g:Int->Int->V):R2:=fun x y H Q=>∃ i j,x=.int i/\y=.int j/\Q (g i j) H
def rU (g:Int->V):V->Hp->VK->Prop:=fun x H Q=>∃ i,x=.int i/\Q (g i) H
section
variable {X:Cx}{a b:Expr}{ta tb:TE}{pos:Pos}
theorem binT (ha:PE X a ta)(hb:PE X b tb){pins:List (Addr×Obj)}{s:Shared}{σ:St}{H:Hp}{R:V->V->Hp->Prop}(I:Inv X pins σ H s)(h:ta σ H fun x H1=>tb σ H1 fun y H2=>R x y H2){Q:Value->Shared->Prop}{f:Value->Value->Sem Value}(hf:∀ v u s2 x y H2,Inv X pins σ H2 s2->RelV x v->RelV y u->R x y H2->wpAny (model X.prog X.w) X.A (f v u) Q X.xe s2):wpAny (model X.prog X.w) X.A (eval a X.env) (fun v s₁=>wpAny (model X.prog X.w) X.A (eval b X.env) (fun u s₂=>wpAny (model X.prog X.w) X.A (f v u) Q X.xe s₂) X.xe s₁) X.xe s:=by
 refine thn (ha pins s σ H _ I h) fun v s1 zq=>?_;obtain⟨x,H1,I1,r1,q1⟩:=zq
 refine thn (hb pins s1 σ H1 _ I1 q1) fun u s2 zq=>?_;obtain⟨y,H2,I2,r2,q2⟩:=zq
 exact hf v u s2 x y H2 I2 r1 r2 q2
theorem pe_op {op:Operator}{r:R2}(ho:OpR X (binaryOp op) r)(ha:PE X a ta)(hb:PE X b tb):PE X (.BinOp a op b pos) (tOp r ta tb):=by
 intro pins s σ H Q I h;exact wpAny_BinOp (binT ha hb I h fun v u s2 x y H2 I2 rx ry q=>ho pins s2 σ H2 x y v u Q I2 rx ry q)
theorem pe_un {op:UnaryOp}{r:V->Hp->VK->Prop}(ho:UnR X (unaryOp op) r)(ha:PE X a ta):PE X (.UnaryOp op a pos) (tUn r ta):=by
 intro pins s σ H Q I h;exact UnaryOp_ (thn (ha pins s σ H _ I h) fun v s1 ⟨x,H1,I1,r1,q1⟩=>ho pins s1 σ H1 x v Q I1 r1 q1)
theorem opI {f:Value->Value->Sem Value}{C:Int->Int->Prop}{g:Int->Int->Int}(rule:∀ (i j:Int) (t u:Tok) (s:Shared) (Q:Value->Shared->Prop) (E:Value->Shared->Prop),C i j->Q (.int (g i j) s.toks) { s with toks:=s.toks+1}->wpAny (model X.prog X.w) X.A (f (.int i t) (.int j u)) Q E s):OpR X f (rI C fun i j=>.int (g i j)):=by
 intro pins s σ H x y v u Q I rx ry h;obtain⟨i,j,rfl,rfl,hc,q⟩:=h;obtain⟨t,rfl⟩:=rx;obtain⟨t',rfl⟩:=ry;exact rule i j t t' s _ _ hc ⟨.int (g i j),H,I.tok _,⟨_,rfl⟩,q⟩
theorem opI0 {f:Value->Value->Sem Value}{g:Int->Int->Int}(rule:∀ (i j:Int) (t u:Tok) (s:Shared) (Q:Value->Shared->Prop) (E:Value->Shared->Prop),Q (.int (g i j) s.toks) { s with toks:=s.toks+1}->wpAny (model X.prog X.w) X.A (f (.int i t) (.int j u)) Q E s):OpR X f (rI0 fun i j=>.int (g i j)):=by
 intro pins s σ H x y v u Q I rx ry h;obtain⟨i,j,rfl,rfl,q⟩:=h;obtain⟨t,rfl⟩:=rx;obtain⟨t',rfl⟩:=ry;exact rule i j t t' s _ _ ⟨.int (g i j),H,I.tok _,⟨_,rfl⟩,q⟩
theorem opB0 {f:Value->Value->Sem Value}{g:Int->Int->Bool}(rule:∀ (i j:Int) (t u:Tok) (s:Shared) (Q:Value->Shared->Prop) (E:Value->Shared->Prop),Q (.bool (g i j)) s->wpAny (model X.prog X.w) X.A (f (.int i t) (.int j u)) Q E s):OpR X f (rI0 fun i j=>.bl (g i j)):=by
 intro pins s σ H x y v u Q I rx ry h;obtain⟨i,j,rfl,rfl,q⟩:=h;obtain⟨t,rfl⟩:=rx;obtain⟨t',rfl⟩:=ry;exact rule i j t t' s _ _ ⟨.bl (g i j),H,I,rfl,q⟩
def CPow (i j:Int):Prop:=0<=j/\j<=1000000/\i.natAbs < 2 ^ 64
def CMul (i j:Int):Prop:=(-(2 ^ 64) < i/\i < 2 ^ 64)\/(-(2 ^ 64) < j/\j < 2 ^ 64)
theorem CMul.ok {i j:Int}(h:CMul i j):IntMulOk i j:=by
 rcases h with⟨h1,h2⟩ | ⟨h1,h2⟩
 . exact .of_left (intBits_le_64 h1 h2)
 . exact .of_right (intBits_le_64 h1 h2)
theorem op_add:OpR X (binaryOp .Add) (rI0 fun i j=>.int (i+j)):=opI0 fun _ _ _ _ _ _ _ q=>add_int q
theorem op_sub:OpR X (binaryOp .Sub) (rI0 fun i j=>.int (i - j)):=opI0 fun _ _ _ _ _ _ _ q=>sub_int q
theorem op_mod:OpR X (binaryOp .Mod) (rI (fun _ j=>0 < j) fun i j=>.int (i % j)):=opI fun i j _ _ _ _ _ hc q=>by
 have h1:(0:Int) < j:=hc;exact mod_int' (by omega) (by rw[Int.fmod_eq_emod_of_nonneg i (by omega)];exact q)
theorem op_pow:OpR X (binaryOp .Pow) (rI CPow fun i j=>.int (i ^ j.toNat)):=opI fun _ _ _ _ _ _ _ hc q=>pow_int_small hc.1 hc.2.1 hc.2.2 q
theorem op_and:OpR X (binaryOp .BitAnd) (rI0 fun i j=>.int (Builtin.bitAnd i j)):=opI0 fun _ _ _ _ _ _ _ q=>and_int q
theorem unI {f:Value->Sem Value}{g:Int->Int}(rule:∀ (i:Int) (t:Tok) (s:Shared) (Q:Value->Shared->Prop) (E:Value->Shared->Prop),Q (.int (g i) s.toks) { s with toks:=s.toks+1}->wpAny (model X.prog X.w) X.A (f (.int i t)) Q E s):UnR X f (rU fun i=>.int (g i)):=by
 intro pins s σ H x v Q I rx h;obtain⟨i,rfl,q⟩:=h;obtain⟨t,rfl⟩:=rx;exact rule i t s _ _ ⟨.int (g i),H,I.tok _,⟨_,rfl⟩,q⟩
theorem un_neg:UnR X (unaryOp .USub) (rU fun i=>.int (-i)):=unI fun _ _ _ _ _ q=>neg_int q
end
noncomputable def scal:V->V->Bool
 | .non,.non=>true | .non,.int _=>true | .int _,.non=>true | .non,.bl _=>true | .bl _,.non=>true | .non,.str _=>true | .str _,.non=>true
 | .int _,.int _=>true | .bl _,.bl _=>true | .str _,.str _=>true | .byt _,.byt _=>true
 | .int _,.str _=>true | .str _,.int _=>true | .bl _,.str _=>true | .str _,.bl _=>true
 | _,_=>false
def rEq:R2:=fun x y H Q=>scal x y=true/\Q (.bl (decide (x=y))) H
def rNe:R2:=fun x y H Q=>scal x y=true/\Q (.bl (!decide (x=y))) H
theorem dec_int {i j:Int}:decide (V.int i=V.int j)=(i == j):=by
 rw[bV];simp
theorem dec_bl {i j:Bool}:decide (V.bl i=V.bl j)=(i == j):=by
 rw[bV];simp
theorem dec_str {i j:Str}:decide (V.str i=V.str j)=(i == j):=by
 rw[bV];simp
theorem dec_byt {i j:Array UInt8}:decide (V.byt i=V.byt j)=(i.toList == j.toList):=by
 rw[bV];cases i;cases j;simp
section
variable {X:Cx}{a b c:Expr}{ta tb:TE}{pos:Pos}
theorem fin_bl {pins:List (Addr×Obj)}{σ:St}{H:Hp}{s:Shared}{Q:VK}{k k':Bool}(I:Inv X pins σ H s)(q:Q (.bl k) H)(e:k=k'):EP X pins σ Q (.bool k') s:=by
 subst e;exact⟨.bl k,H,I,rfl,q⟩
theorem op_eq:OpR X (compareOp .Eq) rEq:=by
 intro pins s σ H x y v u Q I rx ry h;obtain⟨hs,q⟩:=h;cases x with
 | non=>
   cases rx;cases y with
   | non=>cases ry;exact PySem.EqNone.eq_none_none (fin_bl I q (by simp))
   | bl j=>cases ry;exact PySem.EqNone.eq_none_bool (fin_bl I q (by simp))
   | int j=>obtain⟨t',rfl⟩:=ry;exact PySem.EqNone.eq_none_int (fin_bl I q (by simp))
   | str j=>obtain⟨t',rfl⟩:=ry;exact PySem.EqNone.eq_none_str (fin_bl I q (by simp))
   | _=>exact absurd (show false=true from hs) aD
 | bl i=>
   cases rx;cases y with
   | non=>cases ry;exact PySem.EqNone.eq_bool_none (fin_bl I q (by simp))
   | bl j=>cases ry;exact eq_bool (fin_bl I q dec_bl)
   | str j=>obtain⟨t',rfl⟩:=ry;exact PySem.EqMixed.eq_bool_str (fin_bl I q (by simp))
   | _=>exact absurd (show false=true from hs) aD
 | int i=>
   obtain⟨t,rfl⟩:=rx;cases y with
   | non=>cases ry;exact PySem.EqNone.eq_int_none (fin_bl I q (by simp))
   | int j=>obtain⟨t',rfl⟩:=ry;exact eq_int (fin_bl I q dec_int)
   | str j=>obtain⟨t',rfl⟩:=ry;exact PySem.EqMixed.eq_int_str (fin_bl I q (by simp))
   | _=>exact absurd (show false=true from hs) aD
 | str i=>
   obtain⟨t,rfl⟩:=rx;cases y with
   | non=>cases ry;exact PySem.EqNone.eq_str_none (fin_bl I q (by simp))
   | bl j=>cases ry;exact PySem.EqMixed.eq_str_bool (fin_bl I q (by simp))
   | int j=>obtain⟨t',rfl⟩:=ry;exact PySem.EqMixed.eq_str_int (fin_bl I q (by simp))
   | str j=>obtain⟨t',rfl⟩:=ry;exact eq_str (fin_bl I q dec_str)
   | _=>exact absurd (show false=true from hs) aD
 | byt i=>
   obtain⟨t,rfl⟩:=rx;cases y with
   | byt j=>obtain⟨t',rfl⟩:=ry;exact W.eq_bytes (fin_bl I q dec_byt)
   | _=>exact absurd (show false=true from hs) aD
 | _=>cases y <;> exact absurd (show false=true from hs) aD
theorem op_ne:OpR X (compareOp .NotEq) rNe:=by
 intro pins s σ H x y v u Q I rx ry h;obtain⟨hs,q⟩:=h;cases x with
 | non=>
   cases rx;cases y with
   | non=>cases ry;exact PySem.EqNone.ne_none_none (fin_bl I q (by simp))
   | bl j=>cases ry;exact PySem.EqNone.ne_none_bool (fin_bl I q (by simp))
   | int j=>obtain⟨t',rfl⟩:=ry;exact PySem.EqNone.ne_none_int (fin_bl I q (by simp))
   | str j=>obtain⟨t',rfl⟩:=ry;exact PySem.EqNone.ne_none_str (fin_bl I q (by simp))
   | _=>exact absurd (show false=true from hs) aD
 | bl i=>
   cases rx;cases y with
   | non=>cases ry;exact PySem.EqNone.ne_bool_none (fin_bl I q (by simp))
   | bl j=>cases ry;exact ne_bool (fin_bl I q (congrArg not dec_bl))
   | str j=>obtain⟨t',rfl⟩:=ry;exact PySem.EqMixed.ne_bool_str (fin_bl I q (by simp))
   | _=>exact absurd (show false=true from hs) aD
 | int i=>
   obtain⟨t,rfl⟩:=rx;cases y with
   | non=>cases ry;exact PySem.EqNone.ne_int_none (fin_bl I q (by simp))
   | int j=>obtain⟨t',rfl⟩:=ry;exact ne_int (fin_bl I q (congrArg not dec_int))
   | str j=>obtain⟨t',rfl⟩:=ry;exact PySem.EqMixed.ne_int_str (fin_bl I q (by simp))
   | _=>exact absurd (show false=true from hs) aD
 | str i=>
   obtain⟨t,rfl⟩:=rx;cases y with
   | non=>cases ry;exact PySem.EqNone.ne_str_none (fin_bl I q (by simp))
   | bl j=>cases ry;exact PySem.EqMixed.ne_str_bool (fin_bl I q (by simp))
   | int j=>obtain⟨t',rfl⟩:=ry;exact PySem.EqMixed.ne_str_int (fin_bl I q (by simp))
   | str j=>obtain⟨t',rfl⟩:=ry;exact ne_str (fin_bl I q (congrArg not dec_str))
   | _=>exact absurd (show false=true from hs) aD
 | byt i=>
   obtain⟨t,rfl⟩:=rx;cases y with
   | byt j=>obtain⟨t',rfl⟩:=ry;exact W.ne_bytes (fin_bl I q (congrArg not dec_byt))
   | _=>exact absurd (show false=true from hs) aD
 | _=>cases y <;> exact absurd (show false=true from hs) aD
theorem op_lt:OpR X (compareOp .Lt) (rI0 fun i j=>.bl (decide (i < j))):=opB0 fun _ _ _ _ _ _ _ q=>lt_int q
theorem nomark (b:Expr){op:CmpOp}(h:autoParam (op≠.In) qd)(h2:autoParam (op≠.NotIn) qd):behindInMarks op b=false:=by
 have e1:(op == CmpOp.In)=false:=by cases op <;> first | rfl | exact absurd rfl h
 have e2:(op == CmpOp.NotIn)=false:=by cases op <;> first | rfl | exact absurd rfl h2
 cases b <;> simp[behindInMarks,e1,e2]
theorem pe_cmpR {op:CmpOp}{r:R2}(ho:OpR X (compareOp op) r)(ha:PE X a ta)(hb:PE X b tb)(hm:behindInMarks op b=false):PE X (.Compare a [op] [b] pos) (tOp r ta tb):=by
 intro pins s σ H Q I h;exact wpAny_Compare1 (binT ha hb I h fun v u s2 x y H2 I2 rx ry q=>ho pins s2 σ H2 x y v u Q I2 rx ry q) hm
def tTest (t:TE):TT:=fun σ H Q=>t σ H fun x H'=>∃ k,x=.bl k/\Q k H'
theorem pt_cmpR {op:CmpOp}{r:R2}(ho:OpR X (compareOp op) r)(ha:PE X a ta)(hb:PE X b tb)(hm:behindInMarks op b=false):PT X (.Compare a [op] [b] pos) (tTest (tOp r ta tb)):=by
 intro pins s σ H Q I h;refine wpAny_isTrue_Compare1 (thn (ha pins s σ H _ I h) fun v s1 ⟨x,H1,I1,r1,q1⟩=>thn (hb pins s1 σ H1 _ I1 q1) fun u s2 ⟨y,H2,I2,r2,q2⟩=>
   thn (ho pins s2 σ H2 x y v u _ I2 r1 r2 q2) fun c s3 zq=>?_) hm;obtain⟨z,H3,I3,r3,k,e,q3⟩:=zq
 subst e;cases r3;exact wpAny_truthy_bool ⟨H3,I3,q3⟩
theorem line63:(sizeLine:Nat) < 2 ^ 63:=by rw[sizeLine_eq];decide
theorem vals1 {x:V}{us:List Value}(r:Vals [x] us):∃ u,us=[u]/\RelV x u:=by
 cases r with
 | cons r1 r2=>cases r2;exact⟨_,rfl,r1⟩
theorem vals2 {x y:V}{us:List Value}(r:Vals [x,y] us):∃ u w',us=[u,w']/\RelV x u/\RelV y w':=by
 cases r with
 | cons r1 r2=>
   cases r2 with
   | cons r3 r4=>cases r4;exact⟨_,_,rfl,r1,r3⟩
theorem call_min2 (hc:X.calm=true):CallR X (.builtin "min") (fun xs H Q=>∃ i j,xs=[.int i,.int j]/\Q (.int (if j < i then j else i)) H):=by
 intro pins s σ H xs us Q I r h;obtain⟨i,j,rfl,q⟩:=h;obtain⟨u,w',rfl,⟨t,rfl⟩,⟨t',rfl⟩⟩:=vals2 r;refine min_two_ints (I.ok.hd hc) fun h' tk k=>⟨_,H,I.kept k,?_,q⟩
 by_cases hj:j < i
 . rw[if_pos hj,if_pos hj];exact⟨_,rfl⟩
 . rw[if_neg hj,if_neg hj];exact⟨_,rfl⟩
end
structure ObjM (h:Heap)(x dx C:Addr)(mA:Str->Option Value):Prop where
 obj:h.get? x=some (W.instObj C dx)
 ns:h.Ns1 dx mA
 ne:dx≠x
theorem lookIn_ns {h:Heap}{dx:Addr}{mA:Str->Option Value}(n:h.Ns1 dx mA):∃ od,h.get? dx=some od/\∀ name,W.lookIn name od=some (mA name):=by
 obtain⟨o,es,ep,ho,hd,hk,_,hm⟩:=n;refine⟨o,ho,fun name=>?_⟩;have e:=hm name;unfold nsFind findBy at e;rw[<- Array.find?_toList] at e;unfold W.lookIn;rw[hd];dsimp only
 split
 . rename_i y q
   rw[q] at e;exact congrArg some e
 . rename_i q
   rw[q] at e;have a:es.toList.any (·.refKey)=false:=by
     rw[List.any_eq_false];intro y hy;obtain⟨z,t,hkey⟩:=hk y (Array.mem_toList_iff.mp hy);simp[DictEntry.refKey,hkey]
   have a':¬ es.toList.any (·.refKey)=true:=by rw[a];exact aD
   rw[if_neg a'];exact congrArg some e
theorem ObjM.look {h:Heap}{x dx C:Addr}{mA:Str->Option Value}(I:ObjM h x dx C mA):∃ od,W.InstAt h x (W.instObj C dx) C (some od)/\∀ name,W.lookIn name od=some (mA name):=
 let ⟨od,ho,hl⟩:=lookIn_ns I.ns
 ⟨od,⟨I.obj,rfl,rfl,ho⟩,hl⟩
section
variable {prog:Program}{w:World}{A:Around}{E:Value->Shared->Prop}{s:Shared}{K:W.Frag}{x dx C f:Addr}{mA:Str->Option Value}{name:Str}
theorem get_meth {pl:Sem Bool}{Q:Value×List Value->Shared->Prop}(X:K.In s.heap)(I:ObjM s.heap x dx C mA)(hg:W.plainGet K C name=true)(hf:W.findIn K (.ref C) name=some (some (.ref f)))(ht:W.isFn K (.ref f)=true)(hv:mA name=none)(h:Q (.ref f,[.ref x]) s):wpAny (model prog w) A (getMethod (.ref x) name pl) Q E s:=by
 obtain⟨od,J,hl⟩:=I.look;exact W.method_fn X J (W.plainGet_of hg).1 (W.plainGet_of hg).2 hf (beq_iff_eq.mp ht) (by show(W.lookIn name od).map (·.isSome)=some false;rw[hl,hv];rfl) h
theorem make_map0 {R:Result->Shared->Prop}(X:K.In s.heap)(hm:W.makesIn K C=true)(hi:W.findIn K (.ref C) "__init__"=some (some (.builtin "object.__init__")))(hb:∀ self,W.Looks (model prog w) s.heap (bindSpecial (.builtin "object.__init__") self) (.builtin "object.__init__",[self]))(h:codeAny (model prog w) (A.under (.builtin "type.__call__" ⟨[.ref C],[]⟩)) (.call (.builtin "object.__init__") ⟨[.ref (s.heap.objs.size+1)],[]⟩) (W.InitBack (s.heap.objs.size+1) R) { s with heap:=(s.heap.push W.emptyDict).push (W.instObj C s.heap.objs.size)}):codeAny (model prog w) A (.call (.ref C) ⟨[],[]⟩) R s:=by
 obtain⟨hh,g,d,t,os⟩:=s;exact W.make_core (W.makes_of X hm) (W.looks_findIn X hi) hb (.inr ⟨rfl,rfl⟩) h
end
theorem RelO.none_of {o:Option Value}(r:RelO none o):o=none:=by
 cases o with
 | none=>rfl
 | some u=>exact(show False from r).elim
section
variable {P:Program}{w:World}{H:Hp}{h:Heap}{a C dx:Addr}{fs:List (Str×V)}
theorem ins_get (hok:HOk P w H h)(e:Rd H a (.ins C dx fs)):∃ mA,ObjM h a dx C mA/\(∀ f,RelO (fs.lookup f) (mA f))/\PySem.Within mA (fs.map (·.1))/\fs.length<=1000/\H dx=some (.own a):=by
 obtain⟨d,z,ne,ob,mA,n,r,q⟩:=(show ObjOk P w H h a (.ins C dx fs) from e.ok hok)
 exact⟨mA,⟨ob,n,ne⟩,r,q,z,d⟩
end
structure Cls (K:W.Frag)(C:Addr):Prop where
 pg:W.plainGet K C Str.empty=true
 hd:W.hasDictIn K C=true
 po:W.plainOver K C=true
 sa:W.findIn K (.ref C) "__setattr__"=some (some (.builtin "object.__setattr__"))
theorem Cls.get {K:W.Frag}{C:Addr}(c:Cls K C)(f:Str):W.plainGet K C f=true:=c.pg
structure Con (K:W.Frag)(C:Addr)(f:Str)(v:V)(u:Value):Prop where
 at_:W.findIn K (.ref C) f=some (some u)
 rel:RelV v u
 get:W.specialIn K u "__get__"=some none
 cp:W.copiedNames.contains f=false
structure Meth (K:W.Frag)(C:Addr)(m:Str)(f:Addr):Prop where
 at_:W.findIn K (.ref C) m=some (some (.ref f))
 fn:W.isFn K (.ref f)=true
 kp:W.keepIn K (.ref f)=true
section
variable {X:Cx}{pins:List (Addr×Obj)}{σ:St}{H:Hp}{s:Shared}{a C dx:Addr}{fs:List (Str×V)}{A:Around}{E:Value->Shared->Prop}
theorem getmeth_ok {m:Str}{g:Addr}{pl:Sem Bool}{Q:Value×List Value->Shared->Prop}(I:Inv X pins σ H s)(e:Rd H a (.ins C dx fs))(c:Cls X.K C)(k:Meth X.K C m g)(l:fs.lookup m=none)(h:Q (.ref g,[.ref a]) s):wpAny (model X.prog X.w) A (getMethod (.ref a) m pl) Q E s:=by
 obtain⟨mA,O,r,_,_,_⟩:=ins_get I.hok e;have hn:mA m=none:=RelO.none_of (by rw[<- l];exact r m);exact get_meth I.kIn O (c.get m) k.at_ k.fn hn h
theorem Inv.made (I:Inv X pins σ H s):Inv X pins σ (upd (upd H s.heap.objs.size (.own (s.heap.objs.size+1))) (s.heap.objs.size+1) (.ins C s.heap.objs.size [])) { s with heap:=(s.heap.push W.emptyDict).push (W.instObj C s.heap.objs.size)}:=by
 have e1:(s.heap.push W.emptyDict).get? s.heap.objs.size=some W.emptyDict:=ax s.heap rfl;have e2:((s.heap.push W.emptyDict).push (W.instObj C s.heap.objs.size)).get? (s.heap.objs.size+1)=some (W.instObj C s.heap.objs.size):=by
   have:=ax (s.heap.push W.emptyDict) (o:=W.instObj C s.heap.objs.size) rfl
   rwa [bD] at this
 have e3:(s.heap.push W.emptyDict).Ns s.heap.objs.size (fun _=>none):=⟨W.emptyDict,#[],_,e1,rfl,(fun e he=>absurd he (by simp)),fun _=>rfl⟩
 have I1:=I.laid (a:=s.heap.objs.size) (o:=.own (s.heap.objs.size+1)) (h':=s.heap.push W.emptyDict) (t':=s.toks) (fun b u q=>aa _ q) (ag _) ⟨_,e1⟩;refine I1.laid (a:=s.heap.objs.size+1) (o:=.ins C s.heap.objs.size []) (t':=s.toks) (fun b u q=>aa _ q) (Nat.le_of_eq (bD _ _)) ?_;have ne:s.heap.objs.size≠s.heap.objs.size+1:=au (bI _);refine⟨by rw[upd_ne ne,upd_same],aJ _,ne,e2,fun _=>none,(Heap.Ns1.of_empty e3).at fun o q=>aa _ q,fun _=>True.intro,fun y hy=>absurd rfl hy⟩
end
section
variable {X:Cx}{pins:List (Addr×Obj)}{σ:St}{H:Hp}{s:Shared}{A:Around}{E:Value->Shared->Prop}{Q:Value->Shared->Prop}{c:Value}{b:Bool}
inductive TyOf (K:W.Frag)(H:Hp):V->Value->Prop where
 | non:TyOf K H .non (.type "NoneType")
 | bl (x:Bool):TyOf K H (.bl x) (.type "bool")
 | int (i:Int):TyOf K H (.int i) (.type "int")
 | str (x:Str):TyOf K H (.str x) (.type "str")
 | flt (x:UInt64):TyOf K H (.flt x) (.type "float")
 | lst {a:Addr} {xs:List V} (e:H a=some (.lst xs)):TyOf K H (.ref a) (.type "list")
 | frz {a:Addr} {o:Obj} {xs:List V} (e:H a=some (.frz o (.lst xs))):TyOf K H (.ref a) (.type "list")
 | tup {a:Addr} {xs:List V} (e:H a=some (.tup xs)):TyOf K H (.ref a) (.type "tuple")
 | dK {a:Addr} {kvs:List (Key×V)} (e:H a=some (.dK kvs)):TyOf K H (.ref a) (.type "dict")
 | dT {a:Addr} {kvs:List (List Key×V)} (e:H a=some (.dT kvs)):TyOf K H (.ref a) (.type "dict")
 | ins {a C dx:Addr} {fs:List (Str×V)} (e:Rd H a (.ins C dx fs)) (cl:Cls K C) (ha:W.findIn K (.ref C) "__class__"=some (some (.builtin "object.__class__")))
     (hn:W.specialIn K (.builtin "object.__class__") "__get__"=some (some (.builtin "getset_descriptor.__get__"))) (htk:W.takesIn K (.builtin "object.__class__")=some true)
     (hm:W.mroIn K C (.type "object")=some true):TyOf K H (.ref a) (.ref C)
theorem isinst_ok {x:V}{u t:Value}(I:Inv X pins σ H s)(rx:RelV x u)(ty:TyOf X.K H x t)(e:W.kitOne X.K t c=some b)(h:∀ tk,Q (.bool b) { s with toks:=tk}):wpAny (model X.prog X.w) A (call (.builtin "isinstance") [u,c]) Q E s:=by
 cases ty with
 | non=>cases (show u=Value.none from rx);exact W.kia_one W.kitx_none I.kIn True.intro e (fun z=>nomatch z) h
 | bl y=>cases (show u=Value.bool y from rx);exact W.kia_one W.kitx_bool I.kIn True.intro e (fun z=>nomatch z) h
 | int i=>obtain⟨t,q⟩:=(show ∃ t,u=Value.int i t from rx);cases q;exact W.kia_one W.kitx_int I.kIn True.intro e (fun z=>nomatch z) h
 | str y=>obtain⟨t,q⟩:=(show ∃ t,u=Value.str y t from rx);cases q;exact W.kia_one W.kitx_str I.kIn True.intro e (fun z=>nomatch z) h
 | flt y=>obtain⟨t,q⟩:=(show ∃ t,u=Value.float y t from rx);cases q;exact W.kia_one W.kitx_float I.kIn True.intro e (fun z=>nomatch z) h
 | @lst a xs ea=>
   cases (show u=Value.ref a from rx);obtain⟨_,_,n,_,h1⟩:=(show ObjOk X.prog X.w H s.heap a (.lst xs) from I.hok a _ ea)
   exact W.kia_one W.kitx_list I.kIn ⟨_,h1,rfl⟩ e (fun z=>nomatch z) h
 | @frz a ob xs ea=>
   cases (show u=Value.ref a from rx);obtain⟨_,_,_,n,_,h1⟩:=(show ObjOk X.prog X.w H s.heap a (.frz ob (.lst xs)) from I.hok a _ ea)
   exact W.kia_one W.kitx_list I.kIn ⟨_,h1,rfl⟩ e (fun z=>nomatch z) h
 | @tup a xs ea=>
   cases (show u=Value.ref a from rx);obtain⟨_,_,_,p⟩:=(show ObjOk X.prog X.w H s.heap a (.tup xs) from I.hok a _ ea)
   obtain⟨o,h1,h2,_⟩:=p;exact W.kia_one W.kitx_tuple I.kIn ⟨o,h1,h2⟩ e (fun z=>nomatch z) h
 | @dK a kvs ea=>
   cases (show u=Value.ref a from rx);obtain⟨_,_,vs,_,p⟩:=(show ObjOk X.prog X.w H s.heap a (.dK kvs) from I.hok a _ ea)
   obtain⟨o,es,ep,h1,h2,_⟩:=p;exact W.kia_one W.kitx_dict I.kIn ⟨o,h1,h2.1⟩ e (fun z=>nomatch z) h
 | @dT a kvs ea=>
   cases (show u=Value.ref a from rx);obtain⟨_,_,xs,_,o,es,ep,h1,h2,_⟩:=(show ObjOk X.prog X.w H s.heap a (.dT kvs) from I.hok a _ ea)
   exact W.kia_one W.kitx_dict I.kIn ⟨o,h1,h2.1⟩ e (fun z=>nomatch z) h
 | @ins a C dx fs ea cl ha hn htk hm=>
   cases (show u=Value.ref a from rx);obtain⟨mA,O,_⟩:=ins_get I.hok ea;obtain⟨od,J,_⟩:=O.look;exact W.kia_one (W.kitx_own (cl.get _) cl.hd ha hn htk hm) I.kIn J e (fun z=>nomatch z) h
end
structure Room (k:Nat)(A:Around):Prop where
 hd:A.handled=none
 dp:A.depth+3 * k+5 < recursionLimit
 un:A.units+16 * k+200 < cLine
theorem Room.mono {j k:Nat}{A:Around}(r:Room k A)(h:j<=k):Room j A:=⟨r.hd,by have:=r.dp;omega,by have:=r.un;omega⟩
theorem Room.deeper {k:Nat}{A:Around}(r:Room (k+1) A)(env:Env):Room k (A.deeper env):=
 ⟨r.hd,by have:=r.dp;show A.depth+1+3 * k+5 < _;omega,by have:=r.un;show A.units+3+16 * k+200 < _;omega⟩
theorem Room.depth {k:Nat}{A:Around}(r:Room k A):A.depth < recursionLimit:=by have:=r.dp;omega
theorem Room.units {k:Nat}{A:Around}(r:Room k A):A.units+64 < cLine:=by have:=r.un;omega
def tNil:TA:=fun _ H Q=>Q [] H
def tCons (ta:TE)(tr:TA):TA:=fun σ H Q=>ta σ H fun x H1=>tr σ H1 fun xs H2=>Q (x::xs) H2
section
variable {X:Cx}{e:Expr}{es:List Expr}{te:TE}{t:TA}{pos:Pos}
theorem pa_nil:PA X [] tNil:=fun _ _ _ _ H Q I h=>Calls.spliced_nil ⟨[],H,I,.nil,h⟩
theorem pa_cons (ha:PE X e te)(hr:PA X es t)(hs:autoParam (starEach (e::es) X.env=(false,eval e X.env)::starEach es X.env) qc):PA X (e::es) (tCons te t):=by
 intro pos pins s σ H Q I h;rw[hs];show wpAny _ _ (spliced ((false,eval e X.env)::backTo pos (starEach es X.env))) _ _ s;refine Calls.spliced_cons (thn (ha pins s σ H _ I h) fun u s1 zq=>?_);obtain⟨x,H1,I1,r1,q1⟩:=zq;exact thn (hr pos pins s1 σ H1 _ I1 q1) fun us s2 ⟨xs,H2,I2,r2,q2⟩=>⟨x::xs,H2,I2,.cons r1 r2,q2⟩
def tTup (t:TA):TE:=fun σ H Q=>t σ H fun xs H1=>xs.length<=sizeLine/\∀ p,H1 p=none->Q (.ref p) (upd H1 p (.tup xs))
def tLst (t:TA):TE:=fun σ H Q=>t σ H fun xs H1=>xs.length<=sizeLine/\∀ p,H1 p=none->Q (.ref p) (upd H1 p (.lst xs))
theorem pe_tup {x1}(h:PA X es t):PE X (.Tuple es x1 pos) (tTup t):=by
 intro pins s σ H Q I hq;refine wpAny_Tuple_spliced (thn (h pos pins s σ H _ I hq) fun us s1 ⟨xs,H1,I1,r,z,q⟩=>⟨by rw[<- r.length];exact z,?_⟩);have hf:H1 s1.heap.objs.size=none:=I1.hok.fresh (ag _);refine⟨.ref s1.heap.objs.size,upd H1 s1.heap.objs.size (.tup xs),I1.laid (t':=s1.toks) (fun b u e=>aa _ e) (ag _) ?_,rfl,q _ hf⟩;exact⟨z,us,r,⟨_,ax _ rfl,rfl,_,rfl⟩⟩
theorem pe_lst (h:PA X es t):PE X (.List es pos) (tLst t):=by
 intro pins s σ H Q I hq;refine wpAny_List_spliced (thn (h pos pins s σ H _ I hq) fun us s1 ⟨xs,H1,I1,r,z,q⟩=>⟨by rw[<- r.length];exact z,?_⟩);have hf:H1 s1.heap.objs.size=none:=I1.hok.fresh (ag _);refine⟨.ref s1.heap.objs.size,upd H1 s1.heap.objs.size (.lst xs),I1.laid (t':=s1.toks) (fun b u e=>aa _ e) (ag _) ?_,rfl,q _ hf⟩;exact⟨z,us,0,r,ax _ rfl⟩
end
abbrev Sp:=List V->Hp->VK->XK->Prop
abbrev CXT:=List Env->Hp->Shared->XK->Value->Shared->Prop
structure Env0 (P:Program)(w:World)(K:W.Frag)(mg:Str->Option Value)(base:Heap)(A:Around)(outer:List Env)(s:Shared)(H:Hp):Prop where
 frames:A.frames=some outer
 mod:Mod K mg base
 bs:∀ b o,base.get? b=some o->s.heap.get? b=some o/\H b=none
 bsz:base.objs.size<=s.heap.objs.size
 funs:s.heap.FunFrames base outer
 frf:∀ b∈frs outer,H b=none
 hok:HOk P w H s.heap
 bare:AllBare s.gens
def CE (outer:List Env)(P:Program)(w:World)(H:Hp)(s:Shared)(Q:VK)(u:Value)(s':Shared):Prop:=
 ∃ v H',s'.os=s.os/\AllBare s'.gens/\Un (frs outer) [] H H' s.heap s'.heap/\HOk P w H' s'.heap/\RelV v u/\Q v H'
def CR (CX:CXT)(outer:List Env)(P:Program)(w:World)(H:Hp)(s:Shared)(Q:VK)(E:XK)(r:Result)(s':Shared):Prop:=
 match r with
 | .ok (.ret u)=>CE outer P w H s Q u s'
 | .ok _=>False
 | .error e=>CX outer H s E e s'
structure FnOk (P:Program)(w:World)(K:W.Frag)(mg:Str->Option Value)(base:Heap)(CX:CXT)(k:Nat)(f:Addr)(fd:FuncData)(ps:List Str)(sp:Sp):Prop where
 len:∀ vs H Q E,sp vs H Q E->vs.length=ps.length
 run:∀ (A:Around) (outer:List Env) (s:Shared) (H:Hp) (args:Args) (us:List Value) (vs:List V) (Q:VK) (E:XK),Room k A->Env0 P w K mg base A outer s H->BindsTo s fd args (ps.zip us)->Vals vs us->sp vs H Q E ->
   codeAny (model P w) A (.call (.ref f) args) (CR CX outer P w H s Q E) s
section
variable {X:Cx}{pins:List (Addr×Obj)}{σ:St}{H:Hp}{s s':Shared}
theorem Inv.env0 (I:Inv X pins σ H s):Env0 X.prog X.w X.K X.mg X.base X.A X.stack s H:=
 ⟨I.ok.frames,I.ok.mod,I.bs,aO I.ok.bsz I.sz,I.stack,I.stkFree,I.hok,I.bare⟩
theorem Inv.after {Q:VK}{u:Value}(I:Inv X pins σ H s)(h:CE X.stack X.prog X.w H s Q u s'):EP X pins σ Q u s':=by
 obtain⟨v,H',os,bare,un,hok,r,q⟩:=h;obtain⟨hh,g,d,t,os'⟩:=s';obtain rfl:os'=s.os:=os;exact⟨v,H',I.call (h':=hh) (g':=g) (d':=d) (t':=t) (ch:=[]) un hok bare (fun b z=>absurd z (by simp)),r,q⟩
end
def tCall (sp:Sp)(dvs:List V)(E:XK)(t:TA):TE:=fun σ H Q=>t σ H fun vs H1=>sp (vs ++ dvs) H1 Q E
def tMeth (C:Addr)(m:Str)(sp:Sp)(dvs:List V)(E:XK)(ta:TE)(t:TA):TE:=fun σ H Q=>ta σ H fun x H1=>∃ a dx fs,x=.ref a/\Rd H1 a (.ins C dx fs)/\fs.lookup m=none /\
 t σ H1 fun vs H2=>sp (x::(vs ++ dvs)) H2 Q E
def Binds (K:PySem.W.Frag)(fd:FuncData)(ps:List Str)(ds:List Value):Prop:=
 ∀ (s:Shared) (us:List Value),K.In s.heap->(us ++ ds).length=ps.length->BindsTo s fd ⟨us,[]⟩ (ps.zip (us ++ ds))
theorem Binds.all {K:W.Frag}{fd:FuncData}{ps:List Str}(h:∀ us:List Value,us.length=ps.length->bindArgs fd ⟨us,[]⟩=pure (ps.zip us)):Binds K fd ps []:=fun s us _ hl=>by
 rw[aU] at hl ⊢;exact .of_eq (h us hl)
def Passes (CX:CXT)(X:Cx)(E:XK):Prop:=∀ (pins:List (Addr×Obj)) (σ:St) (H:Hp) (s:Shared) (e:Value) (s':Shared),Inv X pins σ H s->CX X.stack H s E e s'->X.xe e s'
section
variable {X:Cx}{CX:CXT}{k:Nat}{f C:Addr}{fd:FuncData}{ps:List Str}{sp:Sp}{dvs:List V}{ds:List Value}{E:XK}{x m:Str}{p pos apos:Pos}{e o:Expr}{es:List Expr}{ta:TE}{t:TA}
theorem run_fn {pins:List (Addr×Obj)}{σ:St}{H:Hp}{s:Shared}{Q:VK}{us:List Value}{vs:List V}(F:FnOk X.prog X.w X.K X.mg X.base CX k f fd ps sp)(hr:Room k X.A)(hb:Binds X.K fd ps ds)(hd:Vals dvs ds)(hx:Passes CX X E)(I:Inv X pins σ H s)(r:Vals vs us)(h:sp (vs ++ dvs) H Q E):wpAny (model X.prog X.w) X.A (call (.ref f) us) (EP X pins σ Q) X.xe s:=by
 have r2:Vals (vs ++ dvs) (us ++ ds):=r.append hd;have hl:(us ++ ds).length=ps.length:=by rw[<- r2.length];exact F.len _ _ _ _ h
 refine wpAny_call (codeAny_mono (F.run X.A X.stack s H ⟨us,[]⟩ (us ++ ds) (vs ++ dvs) Q E hr I.env0 (hb s us I.kIn hl) r2 h) fun r s' hq=>?_);cases r with
 | error e=>exact hx pins σ H s e s' I hq
 | ok fl=>
   cases fl with
   | ret u=>exact I.after hq
   | next=>exact False.elim hq
   | brk=>exact False.elim hq
   | cont=>exact False.elim hq
theorem pe_call (F:FnOk X.prog X.w X.K X.mg X.base CX k f fd ps sp)(hr:Room k X.A)(hg:Gl X x)(hm:X.mg x=some (.ref f))(hk:W.keepIn X.K (.ref f)=true)(hb:Binds X.K fd ps ds)(hd:Vals dvs ds)(hx:Passes CX X E)(ha:PA X (e::es) t)(hdb:autoParam ((x == ("__debug__":Str))=false) qd)(he:autoParam (starEach (e::es) X.env=(false,eval e X.env)::starEach es X.env) qc)(hpl:autoParam ((backTo pos (starEach es X.env)).any (·.1)=false) qc):PE X (.Call (.Name x p) (e::es) [] pos) (tCall sp dvs E t):=by
 intro pins s σ H Q I h;refine wpAny_Call_Name_kw (ld_glob I hg hm ?_ hdb);refine W.callWith_K (h₀:=X.base) I.ok.mod.kin hk (thn (ha pos pins s σ H _ I h) fun us s1 ⟨vs,H1,I1,r,q⟩=>⟨I1.kIn,?_⟩) he hpl;exact run_fn F hr hb hd hx I1 r q
theorem pe_meth {pl:Sem Bool}(he:PE X o ta)(c:Cls X.K C)(hm:Meth X.K C m f)(F:FnOk X.prog X.w X.K X.mg X.base CX k f fd ps sp)(hr:Room k X.A)(hb:Binds X.K fd ps ds)(hd:Vals dvs ds)(hx:Passes CX X E)(ha:PA X (e::es) t)
   (hst:autoParam (starEach (e::es) X.env=(false,eval e X.env)::starEach es X.env) qc) (hpl:autoParam ((backTo pos (starEach es X.env)).any (·.1)=false) qc)
   (ht:autoParam (eval (.Call (.Attribute o m apos) (e::es) [] pos) X.env=(do
     let ov <- eval o X.env
     standAt apos.atName
     let (f,first) <- holding [ov] (getMethod ov m pl)
     callWith pos f first (backTo pos (starEach (e::es) X.env)) (backToKw pos (keywordEach [] X.env)))) qc) :
   PE X (.Call (.Attribute o m apos) (e::es) [] pos) (tMeth C m sp dvs E ta t):=by
 intro pins s σ H Q I h;refine W.methodCall_KW (pl:=pl) (thn (he pins s σ H _ I h) fun u s1 zq=>?_) ht;obtain⟨x,H1,I1,rx,a,dx,fs,ex,ea,l,q⟩:=zq;subst ex;obtain rfl:u=Value.ref a:=rx;refine getmeth_ok I1 ea c hm l ?_;refine W.callWith_K (first:=[.ref a]) (h₀:=X.base) I.ok.mod.kin hm.kp (thn (ha pos pins s1 σ H1 _ I1 q) fun us s2 ⟨vs,H2,I2,r,q2⟩=>⟨I2.kIn,?_⟩) hst hpl;exact run_fn (us:=.ref a::us) (vs:=.ref a::vs) F hr hb hd hx I2 (.cons rfl r) q2
theorem pe_meth0 {pl:Sem Bool}(he:PE X o ta)(c:Cls X.K C)(hm:Meth X.K C m f)(F:FnOk X.prog X.w X.K X.mg X.base CX k f fd ps sp)(hr:Room k X.A)(hb:Binds X.K fd ps ds)(hd:Vals dvs ds)(hx:Passes CX X E)
   (ht:autoParam (eval (.Call (.Attribute o m apos) [] [] pos) X.env=(do
     let ov <- eval o X.env
     standAt apos.atName
     let (f,first) <- holding [ov] (getMethod ov m pl)
     callWith pos f first (backTo pos (starEach [] X.env)) (backToKw pos (keywordEach [] X.env)))) qc) :
   PE X (.Call (.Attribute o m apos) [] [] pos) (tMeth C m sp dvs E ta tNil):=by
 intro pins s σ H Q I h;refine W.methodCall_KW (pl:=pl) (thn (he pins s σ H _ I h) fun u s1 zq=>?_) ht;obtain⟨x,H1,I1,rx,a,dx,fs,ex,ea,l,q⟩:=zq;subst ex;obtain rfl:u=Value.ref a:=rx;refine getmeth_ok I1 ea c hm l ?_;exact W.callWith_K0 (first:=[.ref a]) I1.kIn hm.kp (run_fn (us:=[.ref a]) (vs:=[.ref a]) F hr hb hd hx I1 (.cons rfl .nil) q)
structure Mk (K:W.Frag)(C f:Addr):Prop where
 makes:W.makesIn K C=true
 init:W.findIn K (.ref C) "__init__"=some (some (.ref f))
 fn:W.isFn K (.ref f)=true
 kp:W.keepIn K (.ref C)=true
end
section
variable {fd:FuncData}{ps ks:List Str}
structure KBinds (K:W.Frag)(fd:FuncData)(ps ks:List Str)(g:List Value->List Value->List Value)(gV:List V->List V->List V):Prop where
 to:∀ (s:Shared) (us ws:List Value),K.In s.heap->(g us ws).length=ps.length->BindsTo s fd ⟨us,ks.zip ws⟩ (ps.zip (g us ws))
 rel:∀ {vs:List V} {us:List Value} {zs:List V} {ws:List Value},Vals vs us->Vals zs ws->Vals (gV vs zs) (g us ws)
end
structure FnScope (N P:List Str)(sc:Scope):Prop where
 kind:sc.kind=.function
 co:sc.isCoroutine=false
 gen:sc.isGenerator=false
 nd:N.Nodup
 pre:N.take P.length=P
 par:∀ x∈P,sc.names.lookup x=some .local\/sc.names.lookup x=some .cell
 nofree:∀ y∈sc.names,y.2≠.free
theorem bindL_out {kindOf:Str->Option NameKind}{x:Str}:∀ {binds:List (Str×Value)} {m:Str->Option Value},(∀ v,(x,v) ∉ binds)->bindL kindOf binds m x=m x
 | [],_,_=>rfl
 | (n,v)::r,m,h=>by
   unfold bindL;rw[bindL_out fun w hw=>h w (aF _ hw)]
   split
   . have:x≠n:=by rintro rfl;exact h v aP
     simp[this]
   . rfl
theorem bindC_out {kindOf:Str->Option NameKind}{x:Str}:∀ {binds:List (Str×Value)} {m:Str->Option Value},(∀ v,(x,v) ∉ binds)->bindC kindOf binds m x=m x
 | [],_,_=>rfl
 | (n,v)::r,m,h=>by
   unfold bindC;rw[bindC_out fun w hw=>h w (aF _ hw)]
   split
   . rfl
   . have:x≠n:=by rintro rfl;exact h v aP
     simp[this]
theorem bindL_get {kindOf:Str->Option NameKind}{x:Str}{v:Value}:∀ {P:List Str} {vs:List Value} {i:Nat} {m:Str->Option Value},P.Nodup->P[i]?=some x->vs[i]?=some v->kindOf x=some .local->bindL kindOf (P.zip vs) m x=some v
 | [],_,_,_,_,h,_,_=>by simp at h
 | _::_,[],_,_,_,_,h,_=>by simp at h
 | p::P,w::vs,0,m,nd,h1,h2,hk=>by
   simp at h1 h2;subst h1;subst h2;show bindL kindOf ((p,w)::P.zip vs) m p=_;unfold bindL;rw[bindL_out fun v hv=>(bt.mp nd).1 (List.of_mem_zip hv).1,if_pos hk];simp
 | p::P,w::vs,i+1,m,nd,h1,h2,hk=>by
   show bindL kindOf ((p,w)::P.zip vs) m x=_;unfold bindL;exact bindL_get (i:=i) (bt.mp nd).2 (by simpa using h1) (by simpa using h2) hk
theorem bindC_get {kindOf:Str->Option NameKind}{x:Str}{v:Value}:∀ {P:List Str} {vs:List Value} {i:Nat} {m:Str->Option Value},P.Nodup->P[i]?=some x->vs[i]?=some v->kindOf x≠some .local->bindC kindOf (P.zip vs) m x=some v
 | [],_,_,_,_,h,_,_=>by simp at h
 | _::_,[],_,_,_,_,h,_=>by simp at h
 | p::P,w::vs,0,m,nd,h1,h2,hk=>by
   simp at h1 h2;subst h1;subst h2;show bindC kindOf ((p,w)::P.zip vs) m p=_;unfold bindC;rw[bindC_out fun v hv=>(bt.mp nd).1 (List.of_mem_zip hv).1,if_neg hk];simp
 | p::P,w::vs,i+1,m,nd,h1,h2,hk=>by
   show bindC kindOf ((p,w)::P.zip vs) m x=_;unfold bindC;exact bindC_get (i:=i) (bt.mp nd).2 (by simpa using h1) (by simpa using h2) hk
noncomputable def start (N:List Str)(vs:List V):St:=vs.map some ++ bC (N.length - vs.length) none
noncomputable def cxOf (CX:CXT)(P:Program)(w:World)(K:W.Frag)(mg:Str->Option Value)(base:Heap)(N:List Str)(qual:Str)(scope:Scope)(f:Addr)(cd:Value)(A:Around)(outer:List Env)(s:Shared)(H:Hp)(E:XK):Cx where
 prog:=P
 w:=w
 K:=K
 mg:=mg
 base:=base
 A:=A.deeper (envOfC qual scope s.heap.objs.size f cd)
 N:=N
 s₀:=s
 H₀:=H
 env:=envOfC qual scope s.heap.objs.size f cd
 outer:=outer
 stack:=envOfC qual scope s.heap.objs.size f cd::outer
 ex:=[]
 calm:=true
 fn:=fun _=>true
 pn:=[]
 xe:=fun e s'=>wpAny (model P w) (A.deeper (envOfC qual scope s.heap.objs.size f cd)) (leaving (envOfC qual scope s.heap.objs.size f cd) e) (fun _ s''=>CX outer H s E e s'') (fun e' s''=>CX outer H s E e' s'') s'
theorem cell_has {sc:Scope}{n:Nat}{x:Str}(h:sc.names.lookup x=some .cell):∃ c,(cellsFrom n sc.names []).lookup x=some c:=by
 have q:=W.cellsFrom_some sc.names n [] (.inl h);exact bO.mp q
theorem inv_start {CX:CXT}{P:Program}{w:World}{K:W.Frag}{mg:Str->Option Value}{base:Heap}{N ps:List Str}{qual:Str}{scope:Scope}{f:Addr}{cd:Value}{A:Around}{outer:List Env}{s s1:Shared}{H:Hp}{E:XK}{us:List Value}{vs:List V}(S:FnScope N ps scope)(hd:A.handled=none)(e0:Env0 P w K mg base A outer s H)(hl:vs.length=ps.length)(r:Vals vs us)(x:InCallC s s.heap.objs.size (bindL (envOfC qual scope s.heap.objs.size f cd).kindOf (ps.zip us) fun _=>none) (cellsFrom (s.heap.objs.size+1) scope.names []) (bindC (envOfC qual scope s.heap.objs.size f cd).kindOf (ps.zip us) fun _=>none) s1):Inv (cxOf CX P w K mg base N qual scope f cd A outer s H E) [] (start N vs) H s1:=by
 have hpl:ps.length<=N.length:=by have:=congrArg List.length S.pre;rw[bb] at this;omega
 obtain⟨h1,tk,rfl,hk⟩:=x.done;have noA:∀ b:Addr,b ∉ (cxOf CX P w K mg base N qual scope f cd A outer s H E).ex:=fun b z=>absurd (show b∈([]:List Addr) from z) (by simp)
 refine⟨⟨e0.mod,S.kind,rfl,rfl,ag _,fun y z c h1 h2=>?_,fun y hy=>?_,fun y c _ h=>?_,fun _=>hd,Around.frames_deeper e0.frames,.inr ⟨rfl,rfl⟩,fun b z=>absurd z (noA b),e0.bs,e0.bsz,fun b _ _=>noA b,fun b z=>absurd z (noA b),e0.funs,e0.frf⟩,
   rfl,e0.bare,Un.kept hk,⟨_,x.toInCall.ns,fun i y v h1 h2 h3=>?_⟩,fun y c h=>⟨_,x.cell y c h⟩,e0.hok.fresh (ag _),fun y c h=>?_,fun p hp=>absurd (show p∈([]:List (Addr×Obj)) from hp) (by simp),e0.hok.kept hk,?_⟩
 . exact name_of_addr x.apart (PySem.mem_of_lookup h1) (PySem.mem_of_lookup h2)
 . have hy:scope.names.lookup y=some .cell\/scope.names.lookup y=some .free:=hy
   rcases hy with hy | hy
   . exact cell_has hy
   . exact absurd rfl (S.nofree _ (PySem.mem_of_lookup hy))
 . exact bH (x.above y c (PySem.mem_of_lookup h))
 . have hi:i < vs.length:=by
     unfold start at h2;by_cases hi:i < vs.length
     . exact hi
     . rw[aG (by simpa using hi)] at h2
       rw[bo] at h2
       split at h2 <;> cases h2
   have ha:vs[i]?=some v:=by
     unfold start at h2;rw[aH (by simpa using hi),av] at h2;cases e:vs[i]? with
     | none=>rw[e] at h2;cases h2
     | some a=>rw[e] at h2;cases h2;rfl
   obtain⟨u,hu,rv⟩:=r.get ha;have hp:ps[i]?=some y:=by
     rw[<- S.pre,bP (by omega)];exact h1
   have ndP:ps.Nodup:=by rw[<- S.pre];exact S.nd.sublist (List.take_sublist _ _)
   refine⟨u,rv,?_⟩;rcases S.par y (bE hp) with k | k
   . exact .inl ⟨k,bindL_get ndP hp hu k⟩
   . obtain⟨c,e⟩:=cell_has (n:=s.heap.objs.size+1) k
     refine .inr ⟨.inl k,c,e,?_⟩;have q:=x.cell y c e;rw[bindC_get ndP hp hu (by show scope.names.lookup y≠_;rw[k];decide)] at q;exact q
 . exact e0.hok.fresh (bH (x.above y c (PySem.mem_of_lookup h)))
 . unfold start
   show _=N.length;rw[aI,ae,List.length_replicate];omega
theorem fn_of {CX:CXT}{P:Program}{w:World}{K:W.Frag}{mg:Str->Option Value}{base:Heap}{k:Nat}{f:Addr}{name qual:Str}{params:Arguments}{body:List Stmt}{scope:Scope}{dV kV doc pm cdv ct oc:Value}{an od:Option Addr}{osl:Array (Option Value)}{N ps:List Str}{sp:Sp}(lk:K.lookup f=some ⟨oc,od,.func (W.fnOf name qual params body scope dV kV doc pm an cdv ct),osl⟩)(hcd:W.codeIn K cdv qual=true)(S:FnScope N ps scope)(len:∀ vs H Q E,sp vs H Q E->vs.length=ps.length)(hbody:∀ (A:Around) (outer:List Env) (s:Shared) (H:Hp) (vs:List V) (Q:VK) (E:XK),Room k (A.deeper (envOfC qual scope s.heap.objs.size f cdv))->sp vs H Q E->∃ t,PSs (cxOf CX P w K mg base N qual scope f cdv A outer s H E) body t/\t { nx:=fun _ H'=>Q .non H',rt:=Q} (start N vs) H):FnOk P w K mg base CX (k+1) f (W.fnOf name qual params body scope dV kV doc pm an cdv ct) ps sp:=by
 refine⟨len,fun A outer s H args us vs Q E hr e0 hb r hsp=>?_⟩;have hl:=len _ _ _ _ hsp;have KX:K.In s.heap:=e0.mod.kin.keeps fun b o e=>(e0.bs b o e).1
 have lim:s.heap.NoLimit:=e0.mod.nolimit.keeps fun b o e=>(e0.bs b o e).1
 have hkind:∀ y∈ps.zip us,scope.names.lookup y.1=some .local\/(scope.names.lookup y.1=some .cell/\((cellsFrom (s.heap.objs.size+1) scope.names []).lookup y.1).isSome=true):=fun⟨n,v⟩ hy=>by
   rcases S.par n (List.of_mem_zip hy).1 with q | q
   . exact .inl q
   . exact .inr ⟨q,W.cellsFrom_some _ _ _ (.inl q)⟩
 refine codeAny_call_function hr.depth (KX _ _ lk) rfl S.co S.gen rfl (W.codeRec_of KX hcd) (hb _ _ _ _ ?_);refine wpAny_newFunctionEnv_cells S.kind hkind fun env he s1 x=>?_
 subst he;refine⟨lim.keeps x.toInCall.keep,codeAny_func ?_⟩;obtain⟨t,ht,hq⟩:=hbody A outer s H vs Q E (hr.deeper _) hsp;have I:Inv (cxOf CX P w K mg base N qual scope f cdv A outer s H E) [] (start N vs) H s1:=inv_start S hr.hd e0 hl r x;refine wpAny_mono (ht [] s1 (start N vs) H _ I hq) (fun fl s' hs=>?_) fun e s' hs=>hs
 have fin:∀ {σ':St} {H':Hp} {v:V} {u:Value},Inv (cxOf CX P w K mg base N qual scope f cdv A outer s H E) [] σ' H' s'->RelV v u->Q v H'->CE outer P w H s Q u s':=
   fun {σ' H' v u} J rv q=>⟨v,H',J.os,J.bare,J.base,J.hok,rv,q⟩
 cases fl with
 | ret u=>
   obtain⟨v,σ',H',J,rv,q⟩:=hs;exact fin J rv q
 | next=>
   obtain⟨σ',H',J,q⟩:=hs;exact fin (v:=V.non) (u:=Value.none) J rfl q
 | brk=>
   obtain⟨_,_,_,q⟩:=hs;exact False.elim q
 | cont=>
   obtain⟨_,_,_,q⟩:=hs;exact False.elim q
section
variable {X:Cx}{x:Str}{p pos:Pos}{e:Expr}{es:List Expr}{t:TA}{id T:String}{r:List V->Hp->VK->Prop}
def tCB (r:List V->Hp->VK->Prop)(t:TA):TE:=fun σ H Q=>t σ H fun vs H1=>r vs H1 Q
theorem pe_callB (hc:CallR X (.builtin id) r)(hg:Gl X x)(hm:X.mg x=none)(hv:bootBuiltins x=some (.builtin id))(ha:PA X (e::es) t)(hn:autoParam (x≠"__name__") qd)(hdb:autoParam ((x == ("__debug__":Str))=false) qd)(he:autoParam (starEach (e::es) X.env=(false,eval e X.env)::starEach es X.env) qc)(hpl:autoParam ((backTo pos (starEach es X.env)).any (·.1)=false) qc):PE X (.Call (.Name x p) (e::es) [] pos) (tCB r t):=by
 intro pins s σ H Q I h;refine wpAny_Call_Name_kw (ld_blt I hg hm hv ?_ hn hdb);exact PyProof.Rows.callWith_builtin1 (thn (ha pos pins s σ H _ I h) fun us s1 ⟨vs,H1,I1,r1,q1⟩=>hc pins s1 σ H1 vs us Q I1 r1 q1) he hpl
theorem pe_callTy (hc:CallR X (.type T) r)(hg:Gl X x)(hm:X.mg x=none)(hv:bootBuiltins x=some (.type T))(ha:PA X (e::es) t)(hn:autoParam (x≠"__name__") qd)(hdb:autoParam ((x == ("__debug__":Str))=false) qd)(he:autoParam (starEach (e::es) X.env=(false,eval e X.env)::starEach es X.env) qc)(hpl:autoParam ((backTo pos (starEach es X.env)).any (·.1)=false) qc):PE X (.Call (.Name x p) (e::es) [] pos) (tCB r t):=by
 intro pins s σ H Q I h;refine wpAny_Call_Name_kw (ld_blt I hg hm hv ?_ hn hdb);exact PyProof.Rows.callWith_type1 (thn (ha pos pins s σ H _ I h) fun us s1 ⟨vs,H1,I1,r1,q1⟩=>hc pins s1 σ H1 vs us Q I1 r1 q1) he hpl
end
end L2
namespace HT
open PySem PyProof.Rows
end HT
namespace L2
open PySem PySem.Spec PyProof.Rows
abbrev TO:=St->Hp->(Option Int->Hp->Prop)->Prop
noncomputable def ixN (n:Nat)(i:Int):Option Nat:=if 0<=i then (if i < n then some i.toNat else none) else if -(n:Int)<=i then some (i+n).toNat else none
noncomputable def atI {α:Type}(xs:List α)(i:Int):Option α:=(ixN xs.length i).bind fun j=>xs[j]?
theorem ixN_seq {n:Nat}{i:Int}{j:Nat}(h:ixN n i=some j):seqIndex? i n=some j/\j < n/\-(n:Int)<=i/\i < n:=by
 unfold ixN at h;by_cases h0:0<=i
 . rw[if_pos h0] at h
   by_cases h1:i < n
   . rw[if_pos h1] at h
     have e:i.toNat=j:=Option.some.inj h;exact⟨by rw[seqIndex_of h0 h1,e],by omega,by omega,h1⟩
   . rw[if_neg h1] at h;cases h
 . rw[if_neg h0] at h
   by_cases h1:-(n:Int)<=i
   . rw[if_pos h1] at h
     have e:(i+n).toNat=j:=Option.some.inj h;exact⟨by rw[seqIndex_neg (by omega) h1,e],by omega,h1,by omega⟩
   . rw[if_neg h1] at h;cases h
theorem atI_get {α:Type}{xs:List α}{i:Int}{v:α}(h:atI xs i=some v):∃ j,seqIndex? i xs.length=some j/\xs[j]?=some v/\j < xs.length/\-(xs.length:Int)<=i/\i < xs.length:=by
 unfold atI at h;cases e:ixN xs.length i with
 | none=>rw[e] at h;cases h
 | some j=>
   rw[e] at h;obtain⟨h1,h2,h3,h4⟩:=ixN_seq e;exact⟨j,h1,h,h2,h3,h4⟩
theorem atI_nat {α:Type}{xs:List α}{j:Nat}{v:α}(h:xs[j]?=some v):atI xs (j:Int)=some v:=by
 have hj:j < xs.length:=(aC.mp h).1;have e:ixN xs.length (j:Int)=some j:=by
   unfold ixN;rw[if_pos (by omega),if_pos (by omega)];simp
 unfold atI;rw[e];exact h
def PlainIx (b:Expr):Prop:=∀ o i,subscripted b false o i=operate [o,i] (getItem o i)
def IxR (X:Cx)(r:R2):Prop:=
 ∀ (value slice:Expr) (pins:List (Addr×Obj)) (s:Shared) (σ:St) (H:Hp) (x y:V) (v u:Value) (Q:VK),Inv X pins σ H s->RelV x v->RelV y u->r x y H Q ->
   subscripted slice false v u=operate [v,u] (getItem v u)->wpAny (model X.prog X.w) X.A (subscriptTail value slice v u) (EP X pins σ Q) X.xe s
def MtR (X:Cx)(id:String)(r:V->List V->Hp->VK->Prop):Prop:=
 ∀ (pins:List (Addr×Obj)) (s:Shared) (σ:St) (H:Hp) (x:V) (xs:List V) (v:Value) (us:List Value) (Q:VK),Inv X pins σ H s->RelV x v->Vals xs us->r x xs H Q ->
   wpAny (model X.prog X.w) X.A (call (.builtin id) (v::us)) (EP X pins σ Q) X.xe s
section
variable {X:Cx}{a b:Expr}{ta tb:TE}{pos:Pos}
theorem pe_ix {r:R2}(hr:IxR X r)(ha:PE X a ta)(hb:PE X b tb)(hs:PlainIx b):PE X (.Subscript a b pos) (tOp r ta tb):=by
 intro pins s σ H Q I h;exact Subscript_ (binT ha hb I h fun v u s2 x y H2 I2 rx ry q=>hr a b pins s2 σ H2 x y v u Q I2 rx ry q (hs _ _))
def rIxL (K:W.Frag):R2:=fun x y H Q=>∃ p xs i v,x=.ref p/\y=.int i/\SqL K H p xs/\atI xs i=some v/\Q v H
def rIxT (K:W.Frag):R2:=fun x y H Q=>∃ p xs i v,x=.ref p/\y=.int i/\SqT K H p xs/\atI xs i=some v/\Q v H
theorem ix_list:IxR X (rIxL X.K):=by
 intro value slice pins s σ H x y v u Q I rx ry h hs;obtain⟨p,xs,i,z,rfl,rfl,hq,he,q⟩:=h;cases rx;obtain⟨t,rfl⟩:=ry;obtain⟨its,r,pl,hz⟩:=I.list hq;obtain⟨j,h1,h2,h3,h4,h5⟩:=atI_get he;obtain⟨w,ew,rw'⟩:=r.get h2;have hl:=r.length;have hn:=line63;have fin:EP X pins σ Q w s:=⟨z,H,I,rw',q⟩
 by_cases h0:0<=i
 . have hj:i.toNat=j:=by
     rw[seqIndex_of h0 h5] at h1;exact Option.some.inj h1
   exact item_listR pl.isList h0 (by omega) (by rw[hj];simpa using ew) fin hs
 . have hj:(i+(its.toArray.size:Int)).toNat=j:=by
     rw[seqIndex_neg (by omega) h4] at h1;rw[aw,<- hl];exact Option.some.inj h1
   exact subscriptTail_builtinR (x:=w) pl.isList.typeIs slot_list_getitem.lookup
     (wpAny_getItem_list_neg (Q:=fun r s'=>r=w/\EP X pins σ Q r s') pl.isList (by omega) (by rw[aw] <;> omega) (by omega) (by rw[hj];simpa using ew) ⟨rfl,fin⟩) hs
theorem ix_tup:IxR X (rIxT X.K):=by
 intro value slice pins s σ H x y v u Q I rx ry h hs;obtain⟨p,xs,i,z,rfl,rfl,hq,he,q⟩:=h;cases rx;obtain⟨t,rfl⟩:=ry;obtain⟨its,r,pl,hz⟩:=I.tuple hq;obtain⟨j,h1,h2,h3,h4,h5⟩:=atI_get he;obtain⟨w,ew,rw'⟩:=r.get h2;have hl:=r.length;have hn:=line63;have fin:EP X pins σ Q w s:=⟨z,H,I,rw',q⟩
 exact subscriptTail_builtinR (x:=w) pl.typeIs slot_tuple_getitem.lookup
   (getItem_tuple (j:=j) (Q:=fun r s'=>r=w/\EP X pins σ Q r s') pl (by omega) (by omega) (by rw[aw,<- hl];exact h1) (by simpa using ew) ⟨rfl,fin⟩) hs
theorem call_len_seq:CallR X (.builtin "len") (fun xs H Q=>∃ p ys,xs=[.ref p]/\(SqL X.K H p ys\/SqT X.K H p ys)/\Q (.int ys.length) H):=by
 intro pins s σ H xs us Q I r h;obtain⟨p,ys,rfl,hq,q⟩:=h;obtain⟨u,rfl,rx⟩:=vals1 r;cases rx;have hn:=line63;rcases hq with hq | hq
 . obtain⟨its,r',pl,hz⟩:=I.list hq
   have hlen:=r'.length;exact Calls.call_len_list pl.isList (by simp only[aw] <;> omega) ⟨.int ys.length,H,I.tok _,⟨s.toks+1,by rw[aw,hlen]⟩,q⟩
 . obtain⟨its,r',pl,hz⟩:=I.tuple hq
   have hlen:=r'.length;exact len_tuple pl (by simp only[aw] <;> omega) ⟨.int ys.length,H,I.tok _,⟨s.toks+1,by rw[aw,hlen]⟩,q⟩
theorem call_list_of:CallR X (.type "list") (fun xs H Q=>∃ p ys,xs=[.ref p]/\(SqL X.K H p ys\/SqT X.K H p ys)/\∀ l,H l=none->Q (.ref l) (upd H l (.lst ys))):=by
 intro pins s σ H xs us Q I r h;obtain⟨p,ys,rfl,hq,q⟩:=h;obtain⟨u,rfl,rx⟩:=vals1 r;cases rx;have fin:∀ (its:List Value),Vals ys its->ys.length<=sizeLine->∀ (h':Heap) (c':Nat),(∀ b o',s.heap.get? b=some o'->h'.get? b=some o') ->
     h'.get? s.heap.objs.size=some { cls:=.type "list",dict:=none,data:=.seq its.toArray c',slots:=#[]}->EP X pins σ Q (.ref s.heap.objs.size) { s with heap:=h'}:=fun its r' hz h' c' kp e=>
   ⟨.ref s.heap.objs.size,_,I.laid (t':=s.toks) kp (ag _) (show ObjOk X.prog X.w _ h' _ (.lst ys) from⟨hz,its,c',r',e⟩),rfl,q _ (I.hok.fresh (ag _))⟩
 rcases hq with hq | hq
 . obtain⟨its,r',pl,hz⟩:=I.list hq
   have hlen:=r'.length;obtain⟨o,ho,hc,n,hd⟩:=pl.isList;exact call_list_seq p (.inl rfl) ho hc hd (fun h' c' kp e=>fin its r' hz h' c' kp e) (by simp only[aw] <;> omega)
 . obtain⟨its,r',pl,hz⟩:=I.tuple hq
   have hlen:=r'.length;obtain⟨o,ho,hc,n,hd⟩:=pl;exact call_list_seq p (.inr rfl) ho hc hd (fun h' c' kp e=>fin its r' hz h' c' kp e) (by simp only[aw] <;> omega)
theorem call_tuple_of:CallR X (.type "tuple") (fun xs H Q=>∃ p ys,xs=[.ref p]/\((SqL X.K H p ys/\∀ l,H l=none->Q (.ref l) (upd H l (.tup ys)))\/(SqT X.K H p ys/\Q (.ref p) H))):=by
 intro pins s σ H xs us Q I r h;obtain⟨p,ys,rfl,h⟩:=h;obtain⟨u,rfl,rx⟩:=vals1 r;cases rx;rcases h with⟨hq,q⟩ | ⟨hq,q⟩
 . obtain⟨its,r',pl,hz⟩:=I.list hq
   have hlen:=r'.length;refine call_tuple_list pl.isList (fun h' kp=>?_) (by simp only[aw] <;> omega);have I1:Inv X pins σ H { s with heap:=h'}:=I.kept (t':=s.toks) kp;have I2:Inv X pins σ (upd H h'.objs.size (.tup ys)) { s with heap:=h'.push { cls:=.type "tuple",data:=.seq its.toArray}}:=
     I1.laid (t':=s.toks) (fun b o e=>aa _ e) (ag _) (show ObjOk X.prog X.w _ _ _ (.tup ys) from⟨hz,its,r',IsTup.new _ _⟩)
   exact⟨.ref h'.objs.size,_,I2,rfl,q _ (I1.hok.fresh (ag _))⟩
 . obtain⟨its,r',pl,hz⟩:=I.tuple hq
   exact call_tuple_same pl ⟨.ref p,H,I,rfl,q⟩
def tyV (K:W.Frag)(T:String)(x:V)(H:Hp):Prop:=match x with
 | .str _=>T="str"
 | .int _=>T="int"
 | .ref p=>(T="list"/\∃ xs,SqL K H p xs)\/(T="tuple"/\∃ o,K.lookup p=some o/\o.cls=.type "tuple"/\o.dict=none) \/
     (T="dict"/\((∃ kvs,H p=some (.dK kvs))\/(∃ kvs,H p=some (.dT kvs))\/∃ tg o kvs,H p=some (.kd tg o kvs)))\/(T="set"/\∃ S n,H p=some (.set S n)) \/
     (T="list"/\∃ (a:Addr) (ls:MLs) (ns:List Nat) (j:Nat) (f:Nat->List (Key×FD)) (N:Nat),H a=some (.memoX ls ns)/\ls[j]?=some (p,f)/\ns[j]?=some N)
 | _=>False
theorem tyV_is {pins:List (Addr×Obj)}{σ:St}{H:Hp}{s:Shared}{T:String}{x:V}{v:Value}(I:Inv X pins σ H s)(r:RelV x v)(ty:tyV X.K T x H):s.TypeIs v T/\∀ a,v=.ref a->∃ ob,s.heap.get? a=some ob/\ob.dict=none:=by
 cases x with
 | str z=>
   obtain⟨t,rfl⟩:=r;cases (show T="str" from ty);exact⟨typeIs_str s z t,fun _ e=>nomatch e⟩
 | int i=>
   obtain⟨t,rfl⟩:=r;cases (show T="int" from ty);exact⟨typeIs_int s i t,fun _ e=>nomatch e⟩
 | ref p=>
   cases r;rcases ty with⟨rfl,xs,hq⟩ | ⟨rfl,o,hk,hc,hd⟩ | ⟨rfl,hk⟩ | ⟨rfl,S,n,hk⟩ | ⟨rfl,a,ls,ns,j,f,N,h1,h2,h3⟩
   . obtain⟨its,_,pl,_⟩:=I.list hq
     refine⟨pl.isList.typeIs,fun a e=>?_⟩;cases e;obtain⟨o,n,e,c,hd,_⟩:=pl;exact⟨o,e,hd⟩
   . refine⟨⟨o,I.kIn p o hk,hc⟩,fun a e=>?_⟩
     cases e;exact⟨o,I.kIn _ o hk,hd⟩
   . have z:∃ o,s.heap.get? p=some o/\o.ExactDict:=by
       rcases hk with⟨kvs,hk⟩ | ⟨kvs,hk⟩ | ⟨tg,ob,kvs,hk⟩
       . obtain⟨_,_,_,_,o,_,_,e,ex,_⟩:=I.hok p _ hk
         exact⟨o,e,ex⟩
       . obtain⟨_,_,_,_,o,_,_,e,ex,_⟩:=I.hok p _ hk
         exact⟨o,e,ex⟩
       . obtain⟨_,⟨_,_,_,_,o,_,_,e,ex,_⟩,_⟩:=I.hok p _ hk
         exact⟨o,e,ex⟩
     obtain⟨o,e,ex⟩:=z;refine⟨⟨o,e,ex.1⟩,fun a e2=>?_⟩;cases e2;exact⟨o,e,ex.2.1⟩
   . obtain⟨o,_,_,_,e,ex,_⟩:=I.hok p _ hk
     refine⟨⟨o,e,ex.1⟩,fun a e2=>?_⟩;cases e2;exact⟨o,e,ex.2.1⟩
   . obtain⟨_,_,_,_,_,_,h6⟩:=(show ObjOk X.prog X.w H s.heap a (.memoX ls ns) from I.hok a _ h1)
     obtain⟨its,c,e1,e2,e3⟩:=h6 j p f N h2 h3;refine⟨⟨_,e1,rfl⟩,fun a' e4=>?_⟩;cases e4;exact⟨_,e1,rfl⟩
 | _=>exact False.elim ty
def tBM (K:W.Frag)(T:String)(r:V->List V->Hp->VK->Prop)(to:TE)(t:TA):TE:=fun σ H Q=>to σ H fun x H1=>tyV K T x H1/\t σ H1 fun xs H2=>r x xs H2 Q
variable {o e:Expr}{es:List Expr}{to:TE}{t:TA}{name:Str}{apos cpos:Pos}{T id:String}{r:V->List V->Hp->VK->Prop}
theorem pe_bm (pa:PlainAttrs T)(slot:Slot T name id)(hty:typeOf (.builtin id)=pure (.type "method_descriptor"))(hm:MtR X id r)(ho:PE X o to)(ha:PA X (e::es) t)
   (hbase:autoParam (attributeBase o name X.env (eval o X.env)=eval o X.env) qc)
   (hfew:autoParam (((backTo cpos (starEach (e::es) X.env)).all (fun x=>!x.1) && (backToKw cpos (keywordEach [] X.env)).all (fun x=>x.1.isSome)
     && decide ((e::es).length+([]:List Keyword).length+(if ([]:List Keyword).isEmpty then 0 else 1) < 30))=true) qc)
   (hline:autoParam ((apos.endLine == cpos.line)=true) qc) (hs:autoParam (starEach (e::es) X.env=(false,eval e X.env)::starEach es X.env) qc) (hplain:autoParam ((backTo cpos (starEach es X.env)).any (·.1)=false) qc) :
   PE X (.Call (.Attribute o name apos) (e::es) [] cpos) (tBM X.K T r to t):=by
 intro pins s σ H Q I h;refine wpAny_Call_method_late hbase hfew hline rfl (thn (ho pins s σ H _ I h) fun v s1 zq=>?_);obtain⟨x,H1,I1,r1,ty,q1⟩:=zq;obtain⟨h1,h2⟩:=tyV_is I1 r1 ty;refine⟨T,id,pa,slot,hty,h1,h2,?_⟩;have hA:=ha cpos pins s1 σ H1 _ I1 q1;rw[hs] at hA ⊢;refine Calls.callWith_builtin (by show(false || (backTo cpos (starEach es X.env)).any (·.1))=false;rw[hplain] <;> rfl) (Calls.evalArgs_plain ?_);exact thn hA fun us s2 ⟨vs,H2,I2,r2,q2⟩=>hm pins s2 σ H2 x vs v us Q I2 r1 r2 q2
end
def MtM (X:Cx)(id:String)(r:V->List V->Hp->VK->Prop):Prop:=
 ∀ (pins:List (Addr×Obj)) (s:Shared) (σ:St) (H:Hp) (x:V) (xs:List V) (v:Value) (us:List Value) (Q:VK),Inv X pins σ H s->RelV x v->Vals xs us->r x xs H Q ->
   wpAny (model X.prog X.w) X.A (call (.builtin id) (v::us)) (EP X pins σ Q) X.xe s
theorem Vals.one:∀ {x:V} {us:List Value},Vals [x] us->∃ u,us=[u]/\RelV x u
 | _,_,.cons r .nil=>⟨_,rfl,r⟩
section
variable {X:Cx}{pins:List (Addr×Obj)}{σ:St}{H:Hp}{s:Shared}{l:Addr}{xs ys:List V}
theorem Inv.lset {its its':List Value}{n:Nat}{f:Array Value->Array Value}{t':Nat}(I:Inv X pins σ H s)(hH:H l=some (.lst xs))(e:s.heap.get? l=some { cls:=.type "list",data:=.seq its.toArray n})(hf:f its.toArray=its'.toArray)(hv:Vals ys its')(hz:ys.length<=sizeLine):Inv X pins σ (upd H l (.lst ys)) { s with heap:=s.heap.update l (Obj.mapSeq f),toks:=t'}:=by
 have q:=PySem.IsL.update e f;rw[hf] at q;refine I.write (x:=l) (e:=l) (by rw[hH];exact trivial) (.inl rfl) (fun b' u hb hu=>(Heap.get?_update_other s.heap (Obj.mapSeq f) (Ne.symm hb)).trans hu) ⟨_,q⟩ ?_;exact⟨hz,its',_,hv,q⟩
theorem Inv.lstM (I:Inv X pins σ H s)(hH:H l=some (.lst xs)):xs.length<=sizeLine/\∃ (its:List Value) (n:Nat),Vals xs its/\xs.length=its.length/\s.heap.get? l=some { cls:=.type "list",data:=.seq its.toArray n}:=by
 obtain⟨z,its,n,r,e⟩:=I.hok l _ hH;exact⟨z,its,n,r,r.length,e⟩
end
section
variable {X:Cx}
def rAppend:V->List V->Hp->VK->Prop:=fun x vs H Q=>∃ l xs y,x=.ref l/\vs=[y]/\H l=some (.lst xs)/\xs.length < sizeLine/\Q .non (upd H l (.lst (xs ++ [y])))
theorem mt_append:MtM X "list.append" rAppend:=by
 intro pins s σ H x vs v us Q I rx rv h;obtain⟨l,xs,y,rfl,rfl,hH,hz,q⟩:=h;cases rx;obtain⟨u,rfl,ru⟩:=rv.one;obtain⟨z,its,n,r,hl,e⟩:=I.lstM hH;refine call_meets F.slot_list_append ⟨_,e,rfl⟩ F.entry_list_append (F.args_list_append_2 _ _) (PySem.list_append l its.toArray n u (by rw[aw];omega)) ⟨e,?_⟩;refine⟨.non,_,I.lset (its':=its ++ [u]) hH e (by simp) (r.append (.cons ru .nil)) ?_,rfl,q⟩;rw[aI,aY];omega
end
section
variable {P:Program}{w:World}{H:Hp}{h:Heap}{a:Addr}
theorem rd_of {u:HO}(ok:HOk P w H h)(e:Rd H a u):ObjOk P w H h a u:=e.ok ok
theorem dk_rd {kvs:List (Key×V)}(ok:HOk P w H h)(e:Rd H a (.dK kvs)):kvs.length<=sizeLine/\(a == sysModules)=false/\∃ vs,KV kvs vs/\h.DictOf (mixKind P w) a vs:=
 show ObjOk P w H h a (.dK kvs) from rd_of ok e
end
structure M1 (X:Cx)(o:Expr)(m:Str)(apos:Pos)(e:Expr)(cpos:Pos):Prop where
 base:attributeBase o m X.env (eval o X.env)=eval o X.env
 few:((backTo cpos (starEach [e] X.env)).all (fun x=>!x.1) && (backToKw cpos (keywordEach [] X.env)).all (fun x=>x.1.isSome)
   && decide (([e]:List Expr).length+([]:List Keyword).length+(if ([]:List Keyword).isEmpty then 0 else 1) < 30))=true
 line:(apos.endLine == cpos.line)=true
 trees:backTo cpos (starEach [e] X.env)=[(false,eval e X.env)]
structure M2 (X:Cx)(o:Expr)(m:Str)(apos:Pos)(e f:Expr)(cpos:Pos):Prop where
 base:attributeBase o m X.env (eval o X.env)=eval o X.env
 few:((backTo cpos (starEach [e,f] X.env)).all (fun x=>!x.1) && (backToKw cpos (keywordEach [] X.env)).all (fun x=>x.1.isSome)
   && decide (([e,f]:List Expr).length+([]:List Keyword).length+(if ([]:List Keyword).isEmpty then 0 else 1) < 30))=true
 line:(apos.endLine == cpos.line)=true
 trees:backTo cpos (starEach [e,f] X.env)=[(false,eval e X.env),(false,eval f X.env)]
end L2
namespace Att
open PySem PySem.W PySem.Calls PyProof.Rows
theorem ints_of_wellAll {P:Params}{h:Heap}:∀ (ns:List Int) (vs:List Value),WellAll P h vs (ns.map WData.int)->IntsAre vs ns:=by
 intro ns
 induction ns with
 | nil=>
   intro vs w;rw[List.map_nil] at w;cases w;exact .nil
 | cons n ns ih=>
   intro vs w;rw[aL] at w;cases w with
   | cons a b=>
     cases a;exact .cons _ _ (ih _ b)
theorem script_of {l:OpenLaw}{n:Nat}(hn:l.most=some n){P:Params}{h:Heap}{args:List WData}{vals:List Value}(hpre:l.row.toRowW.claim.pre args=true)(hwl:WellAll P h vals args):∃ a vs ns,vals=[Value.ref a]/\args=[WData.list (ns.map WData.int)]/\h.get? a=some { cls:=.type "list",data:=.seq vs.toArray}/\IntsAre vs ns/\ns.length<=n:=by
 have hsh:WShape.hasAll [] args [.list .int]=true:=(pre_splitW hpre).1;have hc:l.pre.holds [] { args:=args}=true:=(pre_splitW hpre).2;obtain⟨d,r,rfl,h1,h2⟩:=hasAllW_cons hsh;obtain rfl:=hasAllW_nil h2;obtain⟨xs,rfl,h3⟩:=hasW_list h1;obtain⟨ns,rfl⟩:=items_int h3;have hlen:ns.length<=n:=by
   unfold OpenLaw.pre at hc;have h4:(WTm.not (.lt (.lit (.int (n:Int))) (.len (.arg 0)))).holds [] { args:=[.list (ns.map .int)]}=true:=by
     have h4:=(holds_andW hc).1;rw[hn] at h4;exact h4
   have h5:=condW_of h4 (w_not (w_lt w_lit (w_len_list (w_arg rfl))));rw[ae] at h5;refine bJ fun q=>?_
   have q':(n:Int) < ((ns.length:Nat):Int):=by omega
   first
     | (rw[decide_eq_true q'] at h5;exact absurd h5 (by decide))
     | (simp at h5;omega)
 cases hwl with
 | cons w1 w2=>
   cases w2;cases w1 with
   | list ho hall=>exact⟨_,_,ns,rfl,rfl,ho,ints_of_wellAll ns _ hall,hlen⟩
theorem post_true (l:OpenLaw)(args:List WData):l.row.toRowW.claim.post args (.bool true) args=true:=
 postW_of (r:=l.row.toRowW) (X:=(true == true))
   (show WShape.has [] (.bool true) .bool=true by first | rfl | decide | simp[WShape.has,WShape.arms,WShape.armsAll])
   (show(WTm.eq .res (.lit (.bool true))).value [] { args:=args,res:=some (.bool true),after:=args}=some (.bool (true == true)) from w_eq_bool (w_res rfl) w_lit) rfl
theorem attach_call {l:OpenLaw}{n:Nat}{q:Program}{loose:List Str}{XP:(Str->Option Value)->Heap->Prop}{YP:World->Heap->Prop}{d:DefRec}(hn:l.most=some n)(hdf:d.params.defaults=[])(call:∀ (w:World) (s₀ s₁:Shared) (mg mb:Str->Option Value) (fa:Addr) (o:Obj) (pm cd doc:Value) (a:Addr) (vs:List Value) (ns:List Int),Ground q loose [] XP w s₀ mg mb s₁.heap->YP w s₁.heap->s₁.heap.get? fa=some o->o.data=.func (docDef d.name d.params d.body d.scope pm cd doc)->s₁.heap.CodeRec cd d.name->mg d.name=some (.ref fa)->s₁.heap.get? a=some { cls:=.type "list",data:=.seq vs.toArray}->IntsAre vs ns->ns.length<=n->s₁.gens=#[]->codeAny (model l.prog w) callerA (.call (.ref fa) ⟨[.ref a],[]⟩) (fun r s'=>r=.ok (.ret (.bool true))/\OldK s₁.heap s'.heap/\s'.os=s₁.os/\AllBare s'.gens) s₁):WalkO q loose XP YP l.row.toRowW d [] (fun f vs=>PySem.call f vs):=by
 intro w s₀ s₁ mg mb G Y fa o pm cd doc dV kV ho hd hcd hD hmg hg args vals as hpre hlay hrd hwl hlo;obtain rfl:dV=.none:=Dflts.none hD hdf;obtain rfl:kV=.none:=Dflts.noKw hD;obtain⟨a,vs,ns,rfl,rfl,hobj,hints,hlen⟩:=script_of hn hpre hwl;refine enter_call (codeAny_mono (call w s₀ s₁ mg mb fa o pm cd doc a vs ns G Y ho (fd_plain hd) hcd hmg hobj hints hlen hg) fun r s' hq=>?_);obtain⟨rfl,h2,h3,h4⟩:=hq;exact⟨.inl ⟨.bool true,.bool true,[],rfl,fun _=>rfl,.bool true,post_true l _,fun _=>⟨b7.nil,fun _ hm=>(nomatch hm)⟩⟩,h2,h3,h4⟩
end Att
namespace L2
open PySem PySem.Spec PyProof.Rows
theorem vals_ints:∀ {vs:List Value} {ns:List Int},IntsAre vs ns->Vals (ns.map V.int) vs
 | _,_,.nil=>.nil
 | _,_,.cons n t h=>.cons ⟨t,rfl⟩ (vals_ints h)
def Only (H:Hp):Prop:=∀ b,H b=none\/∃ o xs,H b=some (.frz o (.lst xs))
theorem law_call {P:Program}{w:World}{K:W.Frag}{mg mb:Str->Option Value}{CX:CXT}{k:Nat}{fa a:Addr}{fd:FuncData}{x:Str}{sp:Sp}{s₁:Shared}{vs:List Value}{ns:List Int}(KX:K.In s₁.heap)(hns:s₁.heap.Ns mainGlobals mg)(hb:s₁.heap.Ns builtinsNs mb)(hbb:∀ x:Str,x≠"__name__"->mb x=bootBuiltins x)(hlim:s₁.heap.NoLimit)(hg:s₁.gens=#[])(ha:s₁.heap.get? a=some { cls:=.type "list",data:=.seq vs.toArray})(hi:IntsAre vs ns)(hl:ns.length<=sizeLine)(hr:Room k callerA)(F:∀ base:Heap,K.In base->base.Ns mainGlobals mg->FnOk P w K mg base CX k fa fd [x] sp)(hbind:∀ (s:Shared) (u:Value),BindsTo s fd ⟨[u],[]⟩ [(x,u)])(hsp:∀ H:Hp,Only H->SqL K H a (ns.map V.int)->sp [.ref a] H (fun v _=>v=.bl true) fun _ _ _=>False)(hCX:∀ H e s',CX [] H s₁ (fun _ _ _=>False) e s'->False):codeAny (model P w) callerA (.call (.ref fa) ⟨[.ref a],[]⟩) (fun r s'=>r=.ok (.ret (.bool true))/\OldK s₁.heap s'.heap/\s'.os=s₁.os/\AllBare s'.gens) s₁:=by
 have rv:=vals_ints hi;have lenV:=hi.length;have core:∀ H:Hp,Only H->SqL K H a (ns.map V.int)->HOk P w H s₁.heap->(∀ b,H b≠none->b=a)->(H a≠none->K.lookup a=none) ->
     codeAny (model P w) callerA (.call (.ref fa) ⟨[.ref a],[]⟩) (fun r s'=>r=.ok (.ret (.bool true))/\OldK s₁.heap s'.heap/\s'.os=s₁.os/\AllBare s'.gens) s₁:=by
   intro H hO hS hok hA hK;have base_of:∀ {b:Addr} {o:Obj},s₁.heap.get? b=some o->H b=none->(hidT s₁.heap H).get? b=some o:=fun e n=>hidT_get e n
   have noA:∀ {b:Addr} {o:Obj} {es:Array DictEntry} {ep:Nat},s₁.heap.get? b=some o->o.data=.dict es ep->H b=none:=fun {b o es ep} e d=>by
     cases q:H b with
     | none=>rfl
     | some u=>
       have e':b=a:=hA b (by rw[q];simp);subst e';rw[ha] at e;cases e;have d':Data.seq vs.toArray _=Data.dict es ep:=d;cases d'
   have nsK:∀ {b:Addr} {m:Str->Option Value},s₁.heap.Ns b m->(hidT s₁.heap H).Ns b m:=fun {b m} ⟨o,es,ep,e,d,r⟩=>⟨o,es,ep,base_of e (noA e d),d,r⟩
   have hKb:K.In (hidT s₁.heap H):=fun b o e=>base_of (KX b o e) (by
     cases q:H b with
     | none=>rfl
     | some u=>
       have e':b=a:=hA b (by rw[q];simp);subst e';rw[hK (by rw[q];simp)] at e;cases e)
   have hM:Mod K mg (hidT s₁.heap H):=⟨hKb,nsK hns,⟨mb,nsK hb,hbb⟩,let ⟨mc,h1,h2⟩:=hlim;⟨mc,nsK h1,h2⟩⟩
   have e0:Env0 P w K mg (hidT s₁.heap H) callerA [] s₁ H:=⟨rfl,hM,fun b o e=>of_hidT e,Nat.le_of_eq (hidT_size _ _),trivial,fun b hb=>absurd (show b∈([]:List Addr) from hb) (by simp),hok,.of_eq hg⟩
   refine codeAny_mono ((F _ hKb (nsK hns)).run callerA [] s₁ H ⟨[.ref a],[]⟩ [.ref a] [.ref a] _ _ hr e0 (hbind s₁ (.ref a)) (.cons rfl .nil) (hsp H hO hS)) fun r s' h=>?_
   cases r with
   | error e=>exact(hCX H e s' h).elim
   | ok fl=>
     cases fl with
     | next=>exact False.elim h
     | brk=>exact False.elim h
     | cont=>exact False.elim h
     | ret u=>
       obtain⟨v,H',os,bare,un,hok',r',q⟩:=h;have q':v=.bl true:=q;subst q';obtain rfl:u=Value.bool true:=r';refine⟨rfl,OldK.of_keep fun b o e=>?_,os,bare⟩;cases q:H b with
       | none=>exact un.keep b o e q (by intro z;exact absurd (show b∈([]:List Addr) from z) (by simp)) (by simp)
       | some u=>
         rcases hO b with z | ⟨ob,xs,z⟩
         . rw[q] at z;cases z
         . have z2:=un.frzs b ob _ z
           obtain⟨e1,_⟩:=hok b _ z;obtain⟨e2,_⟩:=hok' b _ z2;rw[e] at e1;cases e1;exact e2
 cases hk:K.lookup a with
 | some o=>
   have e:=KX a o hk;rw[ha] at e;cases e;refine core (fun _=>none) (fun _=>.inl rfl) (.inr ⟨_,vs.toArray,_,hk,rfl,rfl,rfl,by rw[aw,lenV];exact hl,by simpa using rv⟩) (fun b u z=>by have z':(none:Option HO)=some u:=z;cases z') (fun b z=>absurd rfl z) fun z=>absurd rfl z
 | none=>
   refine core (fun b=>if b=a then some (.frz { cls:=.type "list",data:=.seq vs.toArray} (.lst (ns.map V.int))) else none) (fun b=>?_) (.inl (.inr (.inl ⟨{ cls:=.type "list",data:=.seq vs.toArray},if_pos rfl⟩))) (fun b u z=>?_) (fun b z=>?_) fun _=>hk
   . by_cases hb:b=a
     . exact .inr ⟨_,_,if_pos hb⟩
     . exact .inl (if_neg hb)
   . by_cases hb:b=a
     . have z':=(if_pos hb).symm.trans z
       cases z';subst hb;exact⟨ha,by rw[ae];exact hl,vs,_,rv,ha⟩
     . have z':=(if_neg hb).symm.trans z
       cases z'
   . by_cases hb:b=a
     . exact hb
     . exact absurd (if_neg hb) z
noncomputable abbrev KOf {K:W.Frag}{h:Heap}(_:K.In h):W.Frag:=K
theorem walk_of {l:W.OpenLaw}{n k:Nat}{q:Program}{loose:List Str}{XP:(Str->Option Value)->Heap->Prop}{YP:World->Heap->Prop}{d:DefRec}{K:Params->W.Frag}{CX:World->CXT}{sp:World->Sp}{x:Str}(hn:l.most=some n)(hn2:n<=sizeLine)(hdf:d.params.defaults=[])(hr:Room k callerA)(hY:∀ (w:World) (h:Heap),YP w h->(K w.params).In h)(F:∀ (w:World) (mg:Str->Option Value) (fa:Addr) (h:Heap),(K w.params).In h->h.Ns mainGlobals mg->mg d.name=some (.ref fa)->∃ fd:FuncData,(∀ (s:Shared) (u:Value),BindsTo s fd ⟨[u],[]⟩ [(x,u)])/\∀ base:Heap,(K w.params).In base->base.Ns mainGlobals mg->FnOk l.prog w (K w.params) mg base (CX w) k fa fd [x] (sp w))(hsp:∀ (w:World) (H:Hp) (a:Addr) (ns:List Int),ns.length<=n->Only H->SqL (K w.params) H a (ns.map V.int)->sp w [.ref a] H (fun v _=>v=.bl true) fun _ _ _=>False)(hCX:∀ (w:World) (H:Hp) (s:Shared) (e:Value) (s':Shared),CX w [] H s (fun _ _ _=>False) e s'->False):W.WalkO q loose XP YP l.row.toRowW d [] (fun f vs=>PySem.call f vs):=by
 refine Att.attach_call hn hdf fun w s₀ s₁ mg mb fa o pm cd doc a vs ns G Y ho hd hcd hmg hobj hints hlen hg=>?_
 have KX:=hY w _ Y;obtain⟨fd,hb,hF⟩:=F w mg fa _ KX G.T.g hmg;exact law_call KX G.T.g G.T.b G.T.builtins G.T.nolimit hg hobj hints (aO hlen hn2) hr hF hb (fun H hO hS=>hsp w H a ns hlen hO hS) fun H e s'=>hCX w H s₁ e s'
theorem walk_ofK {l:W.OpenLaw}{n k:Nat}{q:Program}{loose:List Str}{XP:(Str->Option Value)->Heap->Prop}{YP:World->Heap->Prop}{d:DefRec}{K:Params->W.Frag}{CX:CXT}{sp:W.Frag->Sp}{x:Str}(hn:l.most=some n)(hn2:n<=sizeLine)(hdf:d.params.defaults=[])(hr:Room k callerA)(hY:∀ (w:World) (h:Heap),YP w h->(K w.params).In h)(F:∀ (w:World) (mg:Str->Option Value) (fa:Addr) (h:Heap),(K w.params).In h->h.Ns mainGlobals mg->mg d.name=some (.ref fa)->∃ fd:FuncData,(∀ (s:Shared) (u:Value),BindsTo s fd ⟨[u],[]⟩ [(x,u)])/\∀ base:Heap,(K w.params).In base->base.Ns mainGlobals mg->FnOk l.prog w (K w.params) mg base CX k fa fd [x] (sp (K w.params)))(hsp:∀ (K:W.Frag) (H:Hp) (a:Addr) (ns:List Int),ns.length<=n->Only H->SqL K H a (ns.map V.int)->sp K [.ref a] H (fun v _=>v=.bl true) fun _ _ _=>False)(hCX:∀ (H:Hp) (s:Shared) (e:Value) (s':Shared),CX [] H s (fun _ _ _=>False) e s'->False):W.WalkO q loose XP YP l.row.toRowW d [] (fun f vs=>PySem.call f vs):=
 walk_of (K:=K) (CX:=fun _=>CX) (sp:=fun w=>sp (K w.params)) hn hn2 hdf hr hY F (fun w H a ns h1 h2 h3=>hsp (K w.params) H a ns h1 h2 h3) fun _ H s e s'=>hCX H s e s'
noncomputable def inClass (s:Stmt)(j:Nat):Stmt:=match s with
 | .ClassDef _ _ _ body _ _ _ _ _ _ _=>body.getD j (.Pass ⟨0,0,0,0⟩)
 | _=>.Pass ⟨0,0,0,0⟩
noncomputable def defArgs (s:Stmt):Arguments:=match s with
 | .FunctionDef _ a _ _ _ _ _ _ _ _=>a
 | _=>{ posonlyargs:=[],args:=[],vararg:=none,kwonlyargs:=[],kw_defaults:=[],kwarg:=none,defaults:=[]}
noncomputable def defBody (s:Stmt):List Stmt:=match s with
 | .FunctionDef _ _ b _ _ _ _ _ _ _=>b
 | _=>[]
noncomputable def defScope (s:Stmt):Scope:=match s with
 | .FunctionDef _ _ _ _ _ _ sc _ _ _=>sc
 | _=>{ kind:=.function,names:=[],isGenerator:=false,isCoroutine:=false}
abbrev CX0:CXT:=fun _ _ _ _ _ _=>False
abbrev E0:XK:=fun _ _ _=>False
structure Fun (K:W.Frag)(x qual:Str)(st:Stmt)(f:Addr)(fd:FuncData):Prop where
 ex:∃ (oc:Value) (od:Option Addr) (kV doc pm:Value) (an:Option Addr) (cdv ct:Value) (osl:Array (Option Value)),
   fd=W.fnOf x qual (defArgs st) (defBody st) (defScope st) .none kV doc pm an cdv ct/\K.lookup f=some ⟨oc,od,.func fd,osl⟩/\W.codeIn K cdv qual=true
 kp:W.keepIn K (.ref f)=true
section
variable {K:W.Frag}
theorem Fun.binds {x qual:Str}{st:Stmt}{f:Addr}{fd:FuncData}{ps:List Str}(F:Fun K x qual st f fd)(h:∀ (kV doc pm:Value) (an:Option Addr) (cdv ct:Value) (us:List Value),us.length=ps.length->bindArgs (W.fnOf x qual (defArgs st) (defBody st) (defScope st) .none kV doc pm an cdv ct) ⟨us,[]⟩=pure (ps.zip us)):Binds K fd ps []:=by
 obtain⟨oc,od,kV,doc,pm,an,cdv,ct,osl,rfl,lk,hcd⟩:=F.ex;exact .all (h kV doc pm an cdv ct)
theorem fun_mk {x qual:Str}{st:Stmt}{f:Addr}{oc:Value}{od an:Option Addr}{osl:Array (Option Value)}{kV doc pm cdv ct:Value}(l:K.lookup f=some ⟨oc,od,.func (W.fnOf x qual (defArgs st) (defBody st) (defScope st) .none kV doc pm an cdv ct),osl⟩)(c:W.codeIn K cdv qual=true)(k:W.keepIn K (.ref f)=true):Fun K x qual st f (W.fnOf x qual (defArgs st) (defBody st) (defScope st) .none kV doc pm an cdv ct):=⟨⟨oc,od,kV,doc,pm,an,cdv,ct,osl,rfl,l,c⟩,k⟩
end
theorem small1000 {n:Nat}(h:n<=1000):n < sizeLine:=bR h (by decide)
theorem iteF {A B:Prop}(h:B):if false=true then A else B:=by
 rw[if_neg aD];exact h
theorem iteT {A B:Prop}(h:A):if true=true then A else B:=by
 rw[if_pos rfl];exact h
def Same (H H':Hp):Prop:=∀ b o,H b=some o->H' b=some o
theorem Same.refl (H:Hp):Same H H:=fun _ _ h=>h
theorem Same.trans {H H1 H2:Hp}(a:Same H H1)(b:Same H1 H2):Same H H2:=fun c o h=>b c o (a c o h)
theorem Same.free {H H':Hp}(e:Same H H'){l:Addr}(h:H' l=Option.none):H l=Option.none:=by
 cases q:H l with
 | none=>rfl
 | some o=>
   rw[e l o q] at h;cases h
theorem Same.seq {K:W.Frag}{H H':Hp}{a:Addr}{xs:List V}(e:Same H H')(h:SqL K H a xs):SqL K H' a xs:=by
 rcases h with(h | ⟨o,h⟩ | ⟨_,_,_,_,h⟩ | ⟨o,h⟩) | h
 . exact .inl (.inl (e _ _ h))
 . exact .inl (.inr (.inl ⟨o,e _ _ h⟩))
 . cases h
 . exact .inl (.inr (.inr (.inr ⟨o,e _ _ h⟩)))
 . exact .inr h
end L2
set_option maxHeartbeats 4000000
namespace Sg
open PySem PySem.Spec PyProof.Rows L2 PySem.Builtin PySem.Builtin.Getset_descriptor
def IsOf (h:Heap)(x D:Addr):Prop:=∃ ox,h.get? x=some ox/\ox.cls=.ref D
theorem IsOf.ty {M:Model}{h:Heap}{x D:Addr}(I:IsOf h x D):W.Looks M h (typeOf (.ref x)) (.ref D):=by
 obtain⟨ox,h1,h2⟩:=I;rw[<- h2];exact(W.Looks.ld h1).andThen .now
theorem exc_by {prog:Program}{w:World}{A:Around}{E:Value->Shared->Prop}{K:W.Frag}{s:Shared}{x D:Addr}{name:Str}{tk:Tok}{fill expr:Bool}{Q:Value->Shared->Prop}{r:Builtin.ObjectAttr.Found}(X:K.In s.heap)(I:IsOf s.heap x D)
   (hga:W.findIn K (.ref D) "__getattribute__"=some (some (.builtin "BaseException.__getattribute__"))) (hgt:W.findIn K (.ref D) "__getattr__"=some none) (hbe:W.mroIn K D (.type "BaseException")=some true)
   (hf:W.Looks (model prog w) s.heap (Builtin.ObjectAttr.find (.ref x) (.ref D) name) r)
   (h:match r with
     | .bind g a=>wpAny (model prog w) A.in1 (call g [a,.ref x,.ref D]) (fun v s'=>wpAny (model prog w) A (handedOut v) Q E s') (fun _ _=>False) s
     | .value v=>wpAny (model prog w) A (handedOut v) Q E s
     | .missing=>False) :
   wpAny (model prog w) A (getAttrBy (.ref x) (.str name tk) fill expr) Q E s:=by
 obtain⟨hh,gg,d,t,os⟩:=s;have L0:=I.ty (M:=model prog w);have L1:=W.looks_findIn (M:=model prog w) X hga;have L2':=W.looks_findIn (M:=model prog w) X hgt;have L4:=W.looks_mroIn (M:=model prog w) X hbe;have f3:=PySem.F.excAttr_ValueError.ga.bind (.ref x);unfold getAttrBy;refine wpAny_holding (wpAny_bind (L0.at (wpAny_bind (L1.at ?_))));have hx2:(Value.builtin "BaseException.__getattribute__" == Value.builtin "object.__getattribute__")=false:=by
   decide +kernel
 simp only[hx2,Bool.and_false,ai,if_false];unfold getAttrByItsOwn hookBefore;refine wpAny_bind (L2'.at ?_);refine wpAny_bind (wpAny_attempt (wpAny_holding ?_));unfold callGetattribute boundAndCalled;have hx0:(expr && onTheHeap (Value.builtin "BaseException.__getattribute__"))=false:=by
   cases expr <;> rfl
 rw[hx0,f3];simp only[ai,if_false];refine wpAny_bind (wpAny_pure ?_);have hbi:W.Looks (model prog w) hh (isInstance (.ref x) (.type "BaseException")) true:=L0.andThen L4;refine wpAny_call (codeAny_call_builtin PySem.F.excAttr_ValueError.ga.plain PySem.F.entry_bexc_ga (@W.check_slot (model prog w) _ _ _ "BaseException.__getattribute__" "BaseException" "__getattribute__" (.ref x) [.str name tk] [] _ (by decide +kernel) (by decide +kernel) hbi (PySem.F.args_bexc_ga _ _) ?_));unfold Builtin.«object.__getattribute__»;refine wpAny_bind (wpAny_pure ?_);show wpAny (model prog w) A.in1 (Builtin.ObjectAttr.attrName (.str name tk) >>= _) _ _ _;unfold Builtin.ObjectAttr.attrName;refine wpAny_bind (wpAny_pure (wpAny_bind (L0.at (wpAny_bind (hf.at ?_)))));cases r with
 | bind g a=>
   show wpAny (model prog w) A.in1 (Builtin.ObjectAttr.bindTo g a (.ref x) (.ref D)) _ _ _;unfold Builtin.ObjectAttr.bindTo;show wpAny (model prog w) A.in1 (holding [a] (call g [a,.ref x,.ref D]) >>= ret) _ _ _;exact wpAny_bind (wpAny_holding (wpAny_mono h (fun v s' z=>wpAny_pure z) fun _ _ z=>z.elim))
 | value v=>
   show wpAny (model prog w) A.in1 (ret v) _ _ _;exact wpAny_pure h
 | missing=>exact h.elim
theorem cls_get {prog:Program}{w:World}{A:Around}{K:W.Frag}{s:Shared}{x D:Addr}{tp:Value}{R:Result->Shared->Prop}(X:K.In s.heap)(I:IsOf s.heap x D)(hm:W.mroIn K D (.type "object")=some true)(hR:R (.ok (.ret (.ref D))) s):codeAny (model prog w) A (.call (.builtin "getset_descriptor.__get__") ⟨[.builtin "object.__class__",.ref x,tp],[]⟩) R s:=by
 obtain⟨hh,g,dr,t,os⟩:=s;have L0:=I.ty (M:=model prog w);have L1:=W.looks_mroIn (M:=model prog w) X hm;have pl:=W.KF.slot_gs.plain;have ent:=W.KF.entry_gs;refine codeAny_call_builtin pl ent (W.KF.slot_gs.check _ _ _ _ _ _ _ _ W.KF.type_class (W.KF.args_gs _ _ _) ?_);unfold Builtin.«getset_descriptor.__get__» descrGet;rw[W.dga_obj];refine wpAny_bind (wpAny_pure ?_);unfold descrGetter descrCheckInstance descrNameAndClass isInstance;simp only[W.KF.owner_class]
 repeat lk
 refine⟨Code.quiet_builtin _ (by decide +kernel),codeAny_builtin W.KF.entry_class ?_⟩;unfold Builtin.«object.__class__» shownTypeOf
 repeat lk
 exact hR
structure TyX (K:W.Frag)(C:Addr):Prop where
 hc:(W.clsIn K C).isSome=true
 ga:W.findIn K (.ref C) "__getattribute__"=some (some (.builtin "BaseException.__getattribute__"))
 gt:W.findIn K (.ref C) "__getattr__"=some none
 be:W.mroIn K C (.type "BaseException")=some true
 ha:W.findIn K (.ref C) "__class__"=some (some (.builtin "object.__class__"))
 hn:W.specialIn K (.builtin "object.__class__") "__get__"=some (some (.builtin "getset_descriptor.__get__"))
 htk:W.takesIn K (.builtin "object.__class__")=some true
 hm:W.mroIn K C (.type "object")=some true
theorem find_cls {M:Model}{K:W.Frag}{h:Heap}{x C:Addr}(X:K.In h)(T:TyX K C):W.Looks M h (Builtin.ObjectAttr.find (.ref x) (.ref C) "__class__") (.bind (.builtin "getset_descriptor.__get__") (.builtin "object.__class__")):=by
 refine(W.looks_findIn X T.ha).andThen ?_;refine(W.looks_specialIn X T.hn:W.Looks M h (Builtin.ObjectAttr.getOf (some (.builtin "object.__class__"))) _).andThen ?_;refine((W.looks_takesIn X T.htk).andThen .now:W.Looks M h (Builtin.ObjectAttr.dataDescriptor? (some (.builtin "object.__class__")) (some (.builtin "getset_descriptor.__get__"))) (some (.builtin "getset_descriptor.__get__",.builtin "object.__class__"))).andThen ?_;exact W.Looks.tag .now
theorem kitx_exc {K:W.Frag}{x D:Addr}(T:TyX K D):W.KitX K (.ref x) (.ref D) (fun h=>IsOf h x D) where
 ty:=fun _ _ _ I=>I.ty
 it:=fun M h X _=>by
   obtain⟨cdD,hcD⟩:=bO.mp T.hc;unfold W.clsIn at hcD
   split at hcD
   . rename_i u1 u2 u3 u4 hlk
     intro A' Q' E' s' k q;unfold isType loadHead;exact wpAny_bind (wpAny_loadPart (k _ _ (X _ _ hlk)) (wpAny_pure q))
   . cases hcD
 ne:=fun h tp dd its n sl X htp=>by
   obtain⟨cdD,hcD⟩:=bO.mp T.hc;refine Bool.eq_false_iff.mpr fun q=>?_
   have e:D=tp:=Value.ref.inj (beq_iff_eq.mp q);subst e;unfold W.clsIn at hcD
   split at hcD
   . rename_i u1 u2 u3 u4 hlk
     have z:=(X _ _ hlk).symm.trans htp;cases z
   . cases hcD
 ca:=fun {prog w A E Q s} X I k=>by
   unfold getAttr? getAttrBy?;refine wpAny_bind (wpAny_mkText (wpAny_bind (wpAny_attempt ?_)));refine exc_by (s:={ s with toks:=s.toks+1}) X I T.ga T.gt T.be (find_cls X T) ?_;refine wpAny_call (cls_get (s:={ s with toks:=s.toks+1}) X I T.hm ?_);exact W.handed_on rfl (wpAny_pure k)
end Sg
namespace Sg
open PySem PySem.Spec PyProof.Rows L2
noncomputable abbrev St:=L2.St
def IsOfD (h:Heap)(x C dx:Addr):Prop:=∃ ox,h.get? x=some ox/\ox.cls=.ref C/\ox.dict=some dx/\∃ vs,ox.data=.fields vs
theorem IsOfD.of {h:Heap}{x C dx:Addr}(I:IsOfD h x C dx):IsOf h x C:=let ⟨ox,h1,h2,_⟩:=I;⟨ox,h1,h2⟩
inductive Dt where
 | non
 | bl (b:Bool)
 | int (i:Int)
 | str (x:Str)
 | tup (ds:List Dt)
 | lst (ds:List Dt)
 | scr (ns:List Int)
 | dic (kvs:List (Key×Dt))
 | obj (C:Addr) (fs:List (Str×Dt))
 | ty (n:String)
 | cls (C:Addr)
 | xo (C:Addr)
 | dicF (kvs:List (Key×Dt))
 | xof (C:Addr) (fs:List (Str×Dt))
 | dicK (kvs:List (Key×Dt))
 | memo (a:Addr) (ls:MLs) (j n:Nat)
 | memoY (a:Addr) (ls:MLs) (j n:Nat)
 | kno (a:Addr) (ls:MLs) (n:Nat)
 | gro (C:Addr) (fs:List (Str×Dt)) (gs:List (Nat->List (Key×FD))) (nm:List Str) (n:Nat)
 | kep (fd:FD)
 | dicT (kis:List (List Key×Int))
noncomputable def grF (fs:List (Str×Dt))(nm:List Str)(a:Addr)(ls:MLs)(n:Nat):List (Str×Dt):=fs ++ (aR nm.length).map fun j=>(nm.getD j "",.memo a ls j n)
def Known (H:Hp)(p:Addr)(f:Nat->List (Key×FD))(n:Nat):Prop:=∀ i,i < n->∃ q o kvs,H q=some (.kd (some (p,i)) o kvs)/\FzK H kvs (f i)
def MemoAt (H:Hp)(a:Addr)(ls:MLs):Prop:=H a=some (.memo ls)\/∃ ns,H a=some (.memoX ls ns)
theorem Known.mono {H H':Hp}{p:Addr}{f:Nat->List (Key×FD)}{n:Nat}(e:∀ b u,H b=some u->H' b=some u)(h:Known H p f n):Known H' p f n:=fun i hi=>let ⟨q,o,kvs,h1,h2⟩:=h i hi;⟨q,o,kvs,e _ _ h1,h2.kp (.of e)⟩
theorem MemoAt.mono {H H':Hp}{a:Addr}{ls:MLs}(e:∀ b u,H b=some u->H' b=some u)(h:MemoAt H a ls):MemoAt H' a ls:=h.imp (e _ _) fun⟨ns,z⟩=>⟨ns,e _ _ z⟩
mutual
inductive Rep (K:W.Frag)(H:Hp):V->Dt->Prop
 | non:Rep K H .non .non
 | bl (b:Bool):Rep K H (.bl b) (.bl b)
 | int (i:Int):Rep K H (.int i) (.int i)
 | str (x:Str):Rep K H (.str x) (.str x)
 | tup {a:Addr} {vs:List V} {ds:List Dt}:SqT K H a vs->Reps K H vs ds->Rep K H (.ref a) (.tup ds)
 | lst {a:Addr} {vs:List V} {ds:List Dt}:H a=some (.lst vs)->Reps K H vs ds->Rep K H (.ref a) (.lst ds)
 | scr {a:Addr} {ns:List Int}:SqL K H a (ns.map V.int)->Rep K H (.ref a) (.scr ns)
 | dic {a:Addr} {kvs:List (Key×V)} {kds:List (Key×Dt)}:H a=some (.dK kvs)->RepK K H kvs kds->Rep K H (.ref a) (.dic kds)
 | obj {a C dx:Addr} {fs:List (Str×V)} {ds:List (Str×Dt)}:Rd H a (.ins C dx fs)->RepF K H fs ds->Rep K H (.ref a) (.obj C ds)
 | ty (n:String):Rep K H (.ty n) (.ty n)
 | cls (C:Addr):Rep K H (.ref C) (.cls C)
 | xo {a C:Addr} {ph:Heap->Prop}:H a=some (.ext ph)->(∀ h,ph h->IsOf h a C)->Rep K H (.ref a) (.xo C)
 | dicF {a:Addr} {ob:Obj} {kvs:List (Key×V)} {kds:List (Key×Dt)}:H a=some (.frz ob (.dK kvs))->RepK K H kvs kds->Rep K H (.ref a) (.dicF kds)
 | xof {a C dx:Addr} {ph:Heap->Prop} {fs:List (Str×V)} {ds:List (Str×Dt)}:H a=some (.ext ph)->(∀ h,ph h->IsOfD h a C dx)->H dx=some (.xd fs)->RepF K H fs ds->Rep K H (.ref a) (.xof C ds)
 | dicK {a:Addr} {tg:Option (Addr×Nat)} {ob:Obj} {kvs:List (Key×V)} {kds:List (Key×Dt)}:H a=some (.kd tg ob kvs)->RepK K H kvs kds->Rep K H (.ref a) (.dicK kds)
 | memo {a p:Addr} {ls:MLs} {j n:Nat} {f:Nat->List (Key×FD)}:ls[j]?=some (p,f)->H a=some (.memo ls)->(p=a\/H p=some (.part a))->Known H p f n->Rep K H (.ref p) (.memo a ls j n)
 | memoY {a p:Addr} {ls:MLs} {j n:Nat} {f:Nat->List (Key×FD)}:ls[j]?=some (p,f)->MemoAt H a ls->(p=a\/H p=some (.part a))->Known H p f n->Rep K H (.ref p) (.memoY a ls j n)
 | kno {a:Addr} {ls:MLs} {n:Nat}:(∀ (j:Nat) (p:Addr) (f:Nat->List (Key×FD)),ls[j]?=some (p,f)->Known H p f n)->Rep K H .non (.kno a ls n)
 | gro {s a C dx:Addr} {fv:List (Str×V)} {fs:List (Str×Dt)} {gs:List (Nat->List (Key×FD))} {nm:List Str} {n:Nat} {ls:MLs}:ls.map (·.2)=gs->Rd H s (.ins C dx fv)->RepF K H fv (grF fs nm a ls n)->Rep K H (.ref s) (.gro C fs gs nm n)
 | kep {v:V} {fd:FD}:Fz H v fd->Rep K H v (.kep fd)
 | dicT {a:Addr} {kis:List (List Key×Int)}:H a=some (.dT (kis.map fun k=>(k.1,V.int k.2)))->Rep K H (.ref a) (.dicT kis)
inductive Reps (K:W.Frag)(H:Hp):List V->List Dt->Prop
 | nil:Reps K H [] []
 | cons {v:V} {d:Dt} {vs:List V} {ds:List Dt}:Rep K H v d->Reps K H vs ds->Reps K H (v::vs) (d::ds)
inductive RepK (K:W.Frag)(H:Hp):List (Key×V)->List (Key×Dt)->Prop
 | nil:RepK K H [] []
 | cons {k:Key} {v:V} {d:Dt} {vs:List (Key×V)} {ds:List (Key×Dt)}:Rep K H v d->RepK K H vs ds->RepK K H ((k,v)::vs) ((k,d)::ds)
inductive RepF (K:W.Frag)(H:Hp):List (Str×V)->List (Str×Dt)->Prop
 | nil:RepF K H [] []
 | cons {k:Str} {v:V} {d:Dt} {vs:List (Str×V)} {ds:List (Str×Dt)}:Rep K H v d->RepF K H vs ds->RepF K H ((k,v)::vs) ((k,d)::ds)
end
theorem Rd_same {H H':Hp}{a:Addr}{u:HO}(e:Same H H')(h:Rd H a u):Rd H' a u:=by
 rcases h with h | ⟨o,h⟩ | ⟨tg,o,kvs,h,z⟩ | ⟨o,h⟩
 . exact .inl (e _ _ h)
 . exact .inr (.inl ⟨o,e _ _ h⟩)
 . exact .inr (.inr (.inl ⟨tg,o,kvs,e _ _ h,z⟩))
 . exact .inr (.inr (.inr ⟨o,e _ _ h⟩))
theorem SqT_same {K:W.Frag}{H H':Hp}{a:Addr}{xs:List V}(e:Same H H')(h:SqT K H a xs):SqT K H' a xs:=by
 rcases h with h | h
 . exact .inl (e _ _ h)
 . exact .inr h
theorem Rep.mono {K:W.Frag}{H H':Hp}(e:Same H H'):∀ {v:V} {d:Dt},Rep K H v d->Rep K H' v d:=@fun v d zq=>@Rep.rec K H (fun v d _=>Rep K H' v d) (fun v d _=>Reps K H' v d) (fun v d _=>RepK K H' v d) (fun v d _=>RepF K H' v d) .non (fun b=>.bl b) (fun i=>.int i) (fun x=>.str x) (fun h r zi=>.tup (SqT_same e h) zi) (fun h r zi=>.lst (e _ _ h) zi) (fun h=>.scr (e.seq h)) (fun h r zi=>.dic (e _ _ h) zi) (fun h r zi=>.obj (Rd_same e h) zi) (fun n=>.ty n) (fun C=>.cls C) (fun h r=>.xo (e _ _ h) r) (fun h r zi=>.dicF (e _ _ h) zi) (fun h q g r zi=>.xof (e _ _ h) q (e _ _ g) zi) (fun h r zi=>.dicK (e _ _ h) zi) (fun h1 h2 h3 h4=>.memo h1 (e _ _ h2) (h3.imp id fun z=>e _ _ z) (h4.mono e)) (fun h1 h2 h3 h4=>.memoY h1 (h2.mono e) (h3.imp id fun z=>e _ _ z) (h4.mono e)) (fun h=>.kno fun j p f z=>(h j p f z).mono e) (fun h1 h2 h3 zi=>.gro h1 (Rd_same e h2) zi) (fun h=>.kep (h.st fun b u q _=>e b u q)) (fun h=>.dicT (e _ _ h)) .nil (fun _ _ h r=>.cons h r) .nil (fun _ _ h r=>.cons h r) .nil (fun _ _ h r=>.cons h r) _ _ zq
theorem Reps.mono {K:W.Frag}{H H':Hp}(e:Same H H'):∀ {v:List V} {d:List Dt},Reps K H v d->Reps K H' v d:=by
 intro v d q;induction d generalizing v with
 | nil=>cases q;exact .nil
 | cons _ _ ih=>cases q with|cons h r=>exact .cons (Rep.mono e h) (ih r)
theorem RepK.mono {K:W.Frag}{H H':Hp}(e:Same H H'):∀ {v:List (Key×V)} {d:List (Key×Dt)},RepK K H v d->RepK K H' v d:=by
 intro v d q;induction d generalizing v with
 | nil=>cases q;exact .nil
 | cons _ _ ih=>cases q with|cons h r=>exact .cons (Rep.mono e h) (ih r)
theorem RepF.mono {K:W.Frag}{H H':Hp}(e:Same H H'):∀ {v:List (Str×V)} {d:List (Str×Dt)},RepF K H v d->RepF K H' v d:=by
 intro v d q;induction d generalizing v with
 | nil=>cases q;exact .nil
 | cons _ _ ih=>cases q with|cons h r=>exact .cons (Rep.mono e h) (ih r)
theorem Reps.length {K:W.Frag}{H:Hp}:∀ {v:List V} {d:List Dt},Reps K H v d->v.length=d.length
 | _,_,.nil=>rfl
 | _,_,.cons _ r=>congrArg (·+1) (Reps.length r)
theorem Reps.get {K:W.Frag}{H:Hp}:∀ {v:List V} {d:List Dt} {i:Nat} {x:Dt},Reps K H v d->d[i]?=some x->∃ y,v[i]?=some y/\Rep K H y x
 | _,_,_,_,.nil,e=>by simp at e
 | _,_,0,_,.cons h _,e=>by simp at e;subst e;exact⟨_,rfl,h⟩
 | _,_,i+1,x,.cons _ r,e=>by
   obtain⟨y,h1,h2⟩:=Reps.get (i:=i) (x:=x) r (by simpa using e);exact⟨y,by simpa using h1,h2⟩
theorem Reps.get' {K:W.Frag}{H:Hp}{v:List V}{d:List Dt}{i:Nat}{y:V}(r:Reps K H v d)(e:v[i]?=some y):∃ x,d[i]?=some x/\Rep K H y x:=by
 have hi:i < v.length:=(aC.mp e).1;have hi':i < d.length:=by rw[<- r.length];exact hi
 obtain⟨z,h1,h2⟩:=r.get (ak hi');rw[e] at h1;cases h1;exact⟨_,ak hi',h2⟩
theorem Reps.append {K:W.Frag}{H:Hp}:∀ {v:List V} {d:List Dt} {v':List V} {d':List Dt},Reps K H v d->Reps K H v' d'->Reps K H (v ++ v') (d ++ d')
 | _,_,_,_,.nil,s=>s
 | _,_,_,_,.cons h r,s=>.cons h (Reps.append r s)
theorem RepF.none_of {K:W.Frag}{H:Hp}{f:Str}:∀ {v:List (Str×V)} {d:List (Str×Dt)},RepF K H v d->d.lookup f=none->v.lookup f=none
 | _,_,.nil,_=>rfl
 | (k,v)::r,(_,d)::s,.cons h t,e=>by
   rw[bc] at e ⊢;cases q:(f == k) with
   | true=>rw[q] at e;cases e
   | false=>rw[q] at e;exact RepF.none_of t e
structure Grow (Hf H Hf' H':Hp):Prop where
 big:Same H H'
 frz:Same Hf Hf'
 sub:Same Hf' H'
 new:∀ a o,Hf' a=some o->(∃ o,Hf a=some o)\/H a=Option.none\/Kept o
theorem Grow.refl {Hf H:Hp}(s:Same Hf H):Grow Hf H Hf H:=⟨Same.refl _,Same.refl _,s,fun a o h=>.inl ⟨o,h⟩⟩
theorem Grow.trans {Hf H Hf1 H1 Hf2 H2:Hp}(a:Grow Hf H Hf1 H1)(b:Grow Hf1 H1 Hf2 H2):Grow Hf H Hf2 H2:=
 ⟨a.big.trans b.big,a.frz.trans b.frz,b.sub,fun x o h=>by
   rcases b.new x o h with⟨o',h'⟩ | h' | h'
   . have e:=b.frz _ _ h'
     rw[h] at e;cases e;exact a.new x o h'
   . exact .inr (.inl (a.big.free h'))
   . exact .inr (.inr h')⟩
theorem Grow.notNew {Hf H Hf' H':Hp}(g:Grow Hf H Hf' H'){a:Addr}{u o:HO}(h:H a=some u)(nk:¬ Kept u)(q:Hf' a=some o):∃ o,Hf a=some o:=by
 rcases g.new a o q with z | z | z
 . exact z
 . rw[h] at z;cases z
 . have e:=g.big _ _ h
   rw[g.sub _ _ q] at e;cases e;exact absurd z nk
theorem same_upd {H:Hp}{p:Addr}{o:HO}(n:H p=Option.none):Same H (upd H p o):=fun b u e=>by
 rw[upd_ne (ne_of_none e n)];exact e
theorem same_upd2 {Hf H:Hp}{p:Addr}{o:HO}(s:Same Hf H):Same (upd Hf p o) (upd H p o):=fun b u e=>by
 by_cases hb:b=p
 . subst hb;rw[upd_same] at e ⊢;exact e
 . rw[upd_ne hb] at e ⊢;exact s _ _ e
theorem same_updO {Hf H:Hp}{p:Addr}{o:HO}(s:Same Hf H)(n:Hf p=Option.none):Same Hf (upd H p o):=fun b u e=>by
 rw[upd_ne (ne_of_none e n)];exact s _ _ e
theorem Grow.alloc {Hf H:Hp}{p:Addr}{o:HO}(s:Same Hf H)(n:H p=Option.none):Grow Hf H (upd Hf p o) (upd H p o):=
 ⟨same_upd n,same_upd (s.free n),same_upd2 s,fun a u h=>by
   by_cases hb:a=p
   . subst hb;exact .inr (.inl n)
   . rw[upd_ne hb] at h;exact .inl ⟨u,h⟩⟩
theorem Grow.allocO {Hf H:Hp}{p:Addr}{o:HO}(s:Same Hf H)(n:H p=Option.none):Grow Hf H Hf (upd H p o):=
 ⟨same_upd n,Same.refl _,same_updO s (s.free n),fun a u h=>.inl ⟨u,h⟩⟩
inductive Own where
 | lst (ds:List Dt)
 | dic (kds:List (Key×Dt))
 | obj (C:Addr) (fs:List (Str×Dt))
 | slf (x:Addr) (C:Addr) (fs:List (Str×Dt))
 | objG (C:Addr) (fs:List (Str×Dt)) (gs:List (Nat->List (Key×FD))) (nm:List Str) (n:Nat)
 | slfG (x:Addr) (C:Addr) (fs:List (Str×Dt)) (gs:List (Nat->List (Key×FD))) (nm:List Str) (n:Nat)
 | dicT (kis:List (List Key×Int))
inductive Slot where
 | unk
 | val (d:Dt)
 | own (o:Own)
def OwnAt (K:W.Frag)(Hf H:Hp)(a:Addr):Own->Prop
 | .lst ds=>∃ vs,H a=some (.lst vs)/\Reps K Hf vs ds
 | .dic kds=>∃ kvs,H a=some (.dK kvs)/\RepK K Hf kvs kds
 | .obj C ds=>∃ dx fs,H a=some (.ins C dx fs)/\RepF K Hf fs ds
 | .slf x C ds=>a=x/\∃ dx fs,H a=some (.ins C dx fs)/\RepF K Hf fs ds
 | .objG C ds gs nm n=>∃ dx fs b ls,(ls:MLs).map (·.2)=gs/\H a=some (.ins C dx fs)/\RepF K Hf fs (grF ds nm b ls n)
 | .slfG x C ds gs nm n=>a=x/\∃ dx fs b ls,(ls:MLs).map (·.2)=gs/\H a=some (.ins C dx fs)/\RepF K Hf fs (grF ds nm b ls n)
 | .dicT kis=>H a=some (.dT (kis.map fun k=>(k.1,V.int k.2)))
theorem OwnAt.someN {K:W.Frag}{Hf H:Hp}{a:Addr}:∀ {o:Own},OwnAt K Hf H a o->∃ u,H a=some u/\¬ Kept u
 | .lst _,⟨_,h,_⟩=>⟨_,h,fun z=>z⟩
 | .dic _,⟨_,h,_⟩=>⟨_,h,fun z=>z⟩
 | .obj _ _,⟨_,_,h,_⟩=>⟨_,h,fun z=>z⟩
 | .slf _ _ _,⟨_,_,_,h,_⟩=>⟨_,h,fun z=>z⟩
 | .objG _ _ _ _ _,⟨_,_,_,_,_,h,_⟩=>⟨_,h,fun z=>z⟩
 | .slfG _ _ _ _ _ _,⟨_,_,_,_,_,_,h,_⟩=>⟨_,h,fun z=>z⟩
 | .dicT _,h=>⟨_,h,fun z=>z⟩
theorem OwnAt.some {K:W.Frag}{Hf H:Hp}{a:Addr}:∀ {o:Own},OwnAt K Hf H a o->∃ u,H a=some u
 | .lst _,⟨_,h,_⟩=>⟨_,h⟩
 | .dic _,⟨_,h,_⟩=>⟨_,h⟩
 | .obj _ _,⟨_,_,h,_⟩=>⟨_,h⟩
 | .slf _ _ _,⟨_,_,_,h,_⟩=>⟨_,h⟩
 | .objG _ _ _ _ _,⟨_,_,_,_,_,h,_⟩=>⟨_,h⟩
 | .slfG _ _ _ _ _ _,⟨_,_,_,_,_,_,h,_⟩=>⟨_,h⟩
 | .dicT _,h=>⟨_,h⟩
theorem OwnAt.grow {K:W.Frag}{Hf H Hf' H':Hp}{a:Addr}(e:H' a=H a)(f:Same Hf Hf'):∀ {o:Own},OwnAt K Hf H a o->OwnAt K Hf' H' a o
 | .lst _,⟨vs,h,r⟩=>⟨vs,by rw[e];exact h,r.mono f⟩
 | .dic _,⟨vs,h,r⟩=>⟨vs,by rw[e];exact h,r.mono f⟩
 | .obj _ _,⟨dx,fs,h,r⟩=>⟨dx,fs,by rw[e];exact h,r.mono f⟩
 | .slf _ _ _,⟨q,dx,fs,h,r⟩=>⟨q,dx,fs,by rw[e];exact h,r.mono f⟩
 | .objG _ _ _ _ _,⟨dx,fs,b,ls,q,h,r⟩=>⟨dx,fs,b,ls,q,by rw[e];exact h,r.mono f⟩
 | .slfG _ _ _ _ _ _,⟨q0,dx,fs,b,ls,q,h,r⟩=>⟨q0,dx,fs,b,ls,q,by rw[e];exact h,r.mono f⟩
 | .dicT kis,h=>(show H' a=Option.some (HO.dT (kis.map fun k=>(k.1,V.int k.2))) from by rw[e];exact h)
structure Gr where
 Hf:Hp
 H:Hp
structure Stt (K:W.Frag)(G:Gr)(st:L2.St)(Hf H:Hp)(dl:List Slot):Prop where
 gr:Grow G.Hf G.H Hf H
 len:st.length=dl.length
 val:∀ (i:Nat) d,dl[i]?=some (.val d)->∃ v,st[i]?=some (some v)/\Rep K Hf v d
 own:∀ (i:Nat) o,dl[i]?=some (.own o)->∃ a,st[i]?=some (some (.ref a))/\Hf a=Option.none/\G.H a=Option.none/\OwnAt K Hf H a o
 dis:∀ (i j:Nat) o o' a,dl[i]?=some (.own o)->dl[j]?=some (.own o')->st[i]?=some (some (.ref a))->st[j]?=some (some (.ref a))->i=j
section
variable {K:W.Frag}{G:Gr}{st:L2.St}{Hf H Hf' H':Hp}{dl dl':List Slot}
theorem Stt.sub (S:Stt K G st Hf H dl):Same Hf H:=S.gr.sub
theorem Stt.grow (S:Stt K G st Hf H dl)(g:Grow Hf H Hf' H'):Stt K G st Hf' H' dl:=by
 refine⟨S.gr.trans g,S.len,fun i d h=>let ⟨v,h1,h2⟩:=S.val i d h;⟨v,h1,h2.mono g.frz⟩,fun i o h=>?_,S.dis⟩;obtain⟨a,h1,h2,h3,h4⟩:=S.own i o h;obtain⟨u,hu,nk⟩:=h4.someN;refine⟨a,h1,?_,h3,h4.grow (by rw[hu];exact g.big _ _ hu) g.frz⟩;cases q:Hf' a with
 | none=>rfl
 | some u'=>
   obtain⟨o',z⟩:=g.notNew hu nk q;rw[h2] at z;cases z
theorem Stt.set (S:Stt K G st Hf H dl){i:Nat}{v:V}{d:Dt}(r:Rep K Hf v d):Stt K G (st.set i (some v)) Hf H (dl.set i (.val d)):=by
 have ln:=S.len;refine⟨S.gr,by simp[S.len],fun j x h=>?_,fun j o h=>?_,fun j k o o' a h1 h2 h3 h4=>?_⟩
 . by_cases e:i=j
   . subst e
     by_cases hl:i < dl.length
     . rw[ao hl] at h;cases h
       exact⟨v,ao (by omega),r⟩
     . rw[aE (by simp;omega)] at h;cases h
   . rw[ar e] at h ⊢;exact S.val j x h
 . by_cases e:i=j
   . subst e
     by_cases hl:i < dl.length
     . rw[ao hl] at h;cases h
     . rw[aE (by simp;omega)] at h;cases h
   . rw[ar e] at h ⊢;exact S.own j o h
 . have nj:i≠j:=fun e=>by
     subst e;by_cases hl:i < dl.length
     . rw[ao hl] at h1;cases h1
     . rw[aE (by simp;omega)] at h1;cases h1
   have nk:i≠k:=fun e=>by
     subst e;by_cases hl:i < dl.length
     . rw[ao hl] at h2;cases h2
     . rw[aE (by simp;omega)] at h2;cases h2
   rw[ar nj] at h1 h3;rw[ar nk] at h2 h4;exact S.dis j k o o' a h1 h2 h3 h4
theorem Stt.updO (S:Stt K G st Hf H dl){i:Nat}{p:Addr}{o:HO}{w w':Own}(hi:dl[i]?=some (.own w))(hp:st[i]?=some (some (.ref p)))(r:OwnAt K Hf (upd H p o) p w'):Stt K G st Hf (upd H p o) (dl.set i (.own w')):=by
 have ln:=S.len;obtain⟨p',q1,q2,q3,q4⟩:=S.own i w hi;rw[hp] at q1;cases q1;have hl:i < dl.length:=(aC.mp hi).1;have g:Grow G.Hf G.H Hf (upd H p o):=⟨fun b u e=>by rw[upd_ne (ne_of_none e q3)];exact S.gr.big _ _ e,S.gr.frz,same_updO S.sub q2,S.gr.new⟩
 refine⟨g,by simp[S.len],fun j x h=>?_,fun j o' h=>?_,fun j k o1 o2 a h1 h2 h3 h4=>?_⟩
 . by_cases e:i=j
   . subst e;rw[ao hl] at h;cases h
   . rw[ar e] at h;exact S.val j x h
 . by_cases e:i=j
   . subst e;rw[ao hl] at h;cases h
     exact⟨p,hp,q2,q3,r⟩
   . rw[ar e] at h
     obtain⟨a,z1,z2,z3,z4⟩:=S.own j o' h;have:a≠p:=fun q=>by subst q;exact e (S.dis i j _ _ _ hi h hp z1)
     exact⟨a,z1,z2,z3,z4.grow (upd_ne this) (Same.refl _)⟩
 . have tr:∀ (j:Nat) o',(dl.set i (.own w'))[j]?=some (.own o')->∃ o'',dl[j]?=some (.own o''):=fun j o' h=>by
     by_cases e:i=j
     . subst e;exact⟨_,hi⟩
     . rw[ar e] at h;exact⟨_,h⟩
   obtain⟨_,t1⟩:=tr j o1 h1;obtain⟨_,t2⟩:=tr k o2 h2;exact S.dis j k _ _ a t1 t2 h3 h4
def Le (dl dl':List Slot):Prop:=dl.length=dl'.length/\∀ (i:Nat) s,dl[i]?=some s->s≠.unk->dl'[i]?=some s
theorem Le.refl (dl:List Slot):Le dl dl:=⟨rfl,fun _ _ h _=>h⟩
theorem Stt.weak (S:Stt K G st Hf H dl')(l:Le dl dl'):Stt K G st Hf H dl:=
 ⟨S.gr,by rw[S.len,l.1],fun i d h=>S.val i d (l.2 i _ h (by intro z;cases z)),fun i o h=>S.own i o (l.2 i _ h (by intro z;cases z)),
  fun i j o o' a h1 h2=>S.dis i j o o' a (l.2 i _ h1 (by intro z;cases z)) (l.2 j _ h2 (by intro z;cases z))⟩
def leb:List Slot->List Slot->Prop
 | [],[]=>True
 | .unk::r,_::s=>leb r s
 | x::r,y::s=>x=y/\leb r s
 | _,_=>False
theorem Le.of:∀ {dl dl':List Slot},leb dl dl'->Le dl dl'
 | [],[],_=>Le.refl _
 | .unk::r,y::s,h=>by
   have q:=Le.of (dl:=r) (dl':=s) h;refine⟨congrArg (·+1) q.1,fun i x e n=>?_⟩;cases i with
   | zero=>simp at e;exact absurd e.symm n
   | succ i=>exact q.2 i x (by simpa using e) n
 | .val d::r,y::s,h=>by
   obtain⟨h1,h2⟩:=(show Slot.val d=y/\leb r s from h)
   subst h1;have q:=Le.of h2;refine⟨congrArg (·+1) q.1,fun i x e n=>?_⟩;cases i with
   | zero=>exact e
   | succ i=>exact q.2 i x (by simpa using e) n
 | .own d::r,y::s,h=>by
   obtain⟨h1,h2⟩:=(show Slot.own d=y/\leb r s from h)
   subst h1;have q:=Le.of h2;refine⟨congrArg (·+1) q.1,fun i x e n=>?_⟩;cases i with
   | zero=>exact e
   | succ i=>exact q.2 i x (by simpa using e) n
end
def tD (K:PySem.W.Frag)(G:Gr)(dl:List Slot)(d:Dt):TE:=fun st H Q=>∃ Hf,Stt K G st Hf H dl/\∀ v Hf' H',Grow Hf H Hf' H'->Rep K Hf' v d->Q v H'
def tDs (K:PySem.W.Frag)(G:Gr)(dl:List Slot)(ds:List Dt):TA:=fun st H Q=>∃ Hf,Stt K G st Hf H dl/\∀ vs Hf' H',Grow Hf H Hf' H'->Reps K Hf' vs ds->Q vs H'
def tDB (K:PySem.W.Frag)(G:Gr)(dl:List Slot)(b:Bool):TT:=fun st H Q=>∃ Hf,Stt K G st Hf H dl/\∀ Hf' H',Grow Hf H Hf' H'->Q b H'
abbrev EE (X:Cx)(G:Gr)(dl:List Slot)(e:Expr)(d:Dt):Prop:=PE X e (tD X.K G dl d)
abbrev EA (X:Cx)(G:Gr)(dl:List Slot)(es:List Expr)(ds:List Dt):Prop:=PA X es (tDs X.K G dl ds)
abbrev EB (X:Cx)(G:Gr)(dl:List Slot)(e:Expr)(b:Bool):Prop:=PT X e (tDB X.K G dl b)
def ExcAt (K:PySem.W.Frag)(Hf:Hp)(od:Option Addr)(fs:List (Str×Dt)):Prop:=match od with
 | none=>fs=[]
 | some dx=>∃ fv,Hf dx=some (.xd fv)/\RepF K Hf fv fs
inductive Out where
 | nx (dl:List Slot)
 | rt (d:Dt)
 | ro (w:Own)
 | bk (dl:List Slot)
 | ct (dl:List Slot)
 | ex (c:Value) (fs:List (Str×Dt))
 | raw (R:L2.St->Hp->Prop)
def OutK (K:W.Frag)(G:Gr)(E:XK)(D:Ends)(Hf:Hp):Out->Prop
 | .nx dl=>∀ st Hf' H,Same Hf Hf'->Stt K G st Hf' H dl->D.nx st H
 | .bk dl=>∀ st Hf' H,Same Hf Hf'->Stt K G st Hf' H dl->D.bk st H
 | .ct dl=>∀ st Hf' H,Same Hf Hf'->Stt K G st Hf' H dl->D.ct st H
 | .rt d=>∀ v Hf' H,Grow G.Hf G.H Hf' H->Rep K Hf' v d->D.rt v H
 | .ro o=>∀ p Hf' H,Grow G.Hf G.H Hf' H->G.H p=none->Hf' p=none->OwnAt K Hf' H p o->D.rt (.ref p) H
 | .ex c fs=>∀ od Hf' H,Grow G.Hf G.H Hf' H->ExcAt K Hf' od fs->E c od H
 | .raw R=>∀ st H,R st H->D.nx st H
theorem OutK.mono {K:W.Frag}{G:Gr}{E:XK}{D:Ends}{Hf Hf1:Hp}(s:Same Hf Hf1):∀ {o:Out},OutK K G E D Hf o->OutK K G E D Hf1 o
 | .nx _,k=>fun st Hf' H s' S=>k st Hf' H (s.trans s') S
 | .bk _,k=>fun st Hf' H s' S=>k st Hf' H (s.trans s') S
 | .ct _,k=>fun st Hf' H s' S=>k st Hf' H (s.trans s') S
 | .rt _,k=>k
 | .ro _,k=>k
 | .ex _ _,k=>k
 | .raw _,k=>k
def tO (K:W.Frag)(G:Gr)(E:XK)(dl:List Slot)(o:Out):TS:=fun D st H=>∃ Hf,Stt K G st Hf H dl/\OutK K G E D Hf o
abbrev ES (X:Cx)(G:Gr)(E:XK)(dl:List Slot)(s:Stmt)(o:Out):Prop:=PS X s (tO X.K G E dl o)
abbrev ESs (X:Cx)(G:Gr)(E:XK)(dl:List Slot)(s:List Stmt)(o:Out):Prop:=PSs X s (tO X.K G E dl o)
theorem peI {X:Cx}{e:Expr}{t t':TE}(h:PE X e t)(i:∀ st H Q,t' st H Q->t st H Q):PE X e t':=fun pins s st H Q I q=>h pins s st H Q I (i st H Q q)
theorem ptI {X:Cx}{e:Expr}{t t':TT}(h:PT X e t)(i:∀ st H Q,t' st H Q->t st H Q):PT X e t':=fun pins s st H Q I q=>h pins s st H Q I (i st H Q q)
theorem paI {X:Cx}{e:List Expr}{t t':TA}(h:PA X e t)(i:∀ st H Q,t' st H Q->t st H Q):PA X e t':=fun pos pins s st H Q I q=>h pos pins s st H Q I (i st H Q q)
theorem psI {X:Cx}{e:Stmt}{t t':TS}(h:PS X e t)(i:∀ D st H,t' D st H->t D st H):PS X e t':=fun pins s st H D I q=>h pins s st H D I (i D st H q)
theorem pssI {X:Cx}{e:List Stmt}{t t':TS}(h:PSs X e t)(i:∀ D st H,t' D st H->t D st H):PSs X e t':=fun pins s st H D I q=>h pins s st H D I (i D st H q)
section
variable {X:Cx}{G:Gr}{dl:List Slot}{a b e:Expr}{i j:Int}{d d1 d2:Dt}{pos:Pos}{x:Str}{u v:Bool}
theorem ee_var (n:Nat){x:Str}{pos:Pos}(hd:autoParam (dl[n]?=some (.val d)) qc)(hN:autoParam (X.N[n]?=some x) qc)(hv:autoParam (Vis X.env.scope x) qj)(hb:autoParam ((x == ("__debug__":Str))=false) qd)(hcd:autoParam ((x == ("__classdict__":Str))=false) qd):EE X G dl (.Name x pos) d:=
 peI (pe_var hN hv hb hcd) fun st H Q zq=>aj zq fun Hf zq=>have S:=zq.1;have k:=zq.2;let ⟨v,h1,h2⟩:=S.val n d hd;⟨v,h1,k v Hf H (.refl S.sub) h2⟩
theorem ee_int {z:Int}{j pos}:EE X G dl (.Constant (.int z) j pos) (.int z):=peI pe_int fun st H Q zq=>aj zq fun Hf zq=>have S:=zq.1;have k:=zq.2;k _ Hf H (.refl S.sub) (.int z)
theorem ee_bl {z:Bool}{j pos}:EE X G dl (.Constant (.bool z) j pos) (.bl z):=peI pe_bl fun st H Q zq=>aj zq fun Hf zq=>have S:=zq.1;have k:=zq.2;k _ Hf H (.refl S.sub) (.bl z)
def R2D (K:W.Frag)(r:R2)(d1 d2 d:Dt):Prop:=∀ v w Hf H Q,Same Hf H->Rep K Hf v d1->Rep K Hf w d2->(∀ u Hf' H',Grow Hf H Hf' H'->Rep K Hf' u d->Q u H')->r v w H Q
theorem tOp_D {r:R2}(h:R2D X.K r d1 d2 d):∀ st H Q,tD X.K G dl d st H Q->tOp r (tD X.K G dl d1) (tD X.K G dl d2) st H Q:=fun st H Q zq=>aj zq fun Hf zq=>have S:=zq.1;have k:=zq.2;
 ⟨Hf,S,fun v Hf1 H1 g1 r1=>⟨Hf1,S.grow g1,fun w Hf2 H2 g2 r2=>h v w Hf2 H2 Q g2.sub (r1.mono g2.frz) r2 fun u Hf3 H3 g3 r3=>k u Hf3 H3 ((g1.trans g2).trans g3) r3⟩⟩
theorem ee_op {op:Operator}{r:R2}(ho:OpR X (binaryOp op) r)(h:R2D X.K r d1 d2 d)(ha:EE X G dl a d1)(hb:EE X G dl b d2):EE X G dl (.BinOp a op b pos) d:=peI (pe_op ho ha hb) (tOp_D h)
theorem ee_cmp {op:CmpOp}{r:R2}(ho:OpR X (compareOp op) r)(h:R2D X.K r d1 d2 d)(hm:behindInMarks op b=false)(ha:EE X G dl a d1)(hb:EE X G dl b d2):EE X G dl (.Compare a [op] [b] pos) d:=peI (pe_cmpR ho ha hb hm) (tOp_D h)
theorem eb_cmp {op:CmpOp}{r:R2}(ho:OpR X (compareOp op) r)(h:R2D X.K r d1 d2 (.bl u))(hm:behindInMarks op b=false)(ha:EE X G dl a d1)(hb:EE X G dl b d2):EB X G dl (.Compare a [op] [b] pos) u:=
 ptI (pt_cmpR ho ha hb hm) fun st H Q zq=>aj zq fun Hf zq=>have S:=zq.1;have k:=zq.2;tOp_D h st H _ ⟨Hf,S,fun v Hf' H' g r=>by cases r;exact⟨u,rfl,k Hf' H' g⟩⟩
theorem r2_I0 {K:W.Frag}{g:Int->Int->V}{g':Int->Int->Dt}(h:∀ K H i j,Rep K H (g i j) (g' i j)):R2D K (rI0 g) (.int i) (.int j) (g' i j):=fun v w Hf H Q s r1 r2 k=>by
 cases r1;cases r2;exact⟨i,j,rfl,rfl,k _ Hf H (.refl s) (h _ _ _ _)⟩
theorem r2_I {K:W.Frag}{C:Int->Int->Prop}{g:Int->Int->V}{g':Int->Int->Dt}(h:∀ K H i j,Rep K H (g i j) (g' i j))(hc:C i j):R2D K (rI C g) (.int i) (.int j) (g' i j):=fun v w Hf H Q s r1 r2 k=>by
 cases r1;cases r2;exact⟨i,j,rfl,rfl,hc,k _ Hf H (.refl s) (h _ _ _ _)⟩
theorem ee_add (ha:EE X G dl a (.int i))(hb:EE X G dl b (.int j)):EE X G dl (.BinOp a .Add b pos) (.int (i+j)):=ee_op op_add (r2_I0 (g':=fun i j=>.int (i+j)) fun _ _ _ _=>.int _) ha hb
theorem ee_sub (ha:EE X G dl a (.int i))(hb:EE X G dl b (.int j)):EE X G dl (.BinOp a .Sub b pos) (.int (i - j)):=ee_op op_sub (r2_I0 (g':=fun i j=>.int (i - j)) fun _ _ _ _=>.int _) ha hb
theorem op_mulB:OpR X (binaryOp .Mult) (rI IntMulOk fun i j=>.int (i * j)):=opI fun _ _ _ _ _ _ _ hc q=>mul_int q hc
theorem ee_mul (ha:EE X G dl a (.int i))(hb:EE X G dl b (.int j))(hc:IntMulOk i j):EE X G dl (.BinOp a .Mult b pos) (.int (i * j)):=ee_op op_mulB (r2_I (g':=fun i j=>.int (i * j)) (fun _ _ _ _=>.int _) hc) ha hb
theorem op_fdivB:OpR X (binaryOp .FloorDiv) (rI (fun _ j=>0 < j/\j.natAbs.log2 < 9000) fun i j=>.int (i / j)):=opI fun i j _ _ _ _ _ hc q=>by
 refine floordiv_int (Int.ne_of_gt hc.1) ?_ (.inl (PyProof.noPylong_of_log2 hc.2));rw[Int.fdiv_eq_ediv_of_nonneg _ (Int.le_of_lt hc.1)];exact q
theorem ee_fdiv (ha:EE X G dl a (.int i))(hb:EE X G dl b (.int j))(hc:0 < j/\j.natAbs.log2 < 9000):EE X G dl (.BinOp a .FloorDiv b pos) (.int (i / j)):=ee_op op_fdivB (r2_I (g':=fun i j=>.int (i / j)) (fun _ _ _ _=>.int _) hc) ha hb
theorem ee_mod (ha:EE X G dl a (.int i))(hb:EE X G dl b (.int j))(hc:0 < j):EE X G dl (.BinOp a .Mod b pos) (.int (i % j)):=ee_op op_mod (r2_I (g':=fun i j=>.int (i % j)) (fun _ _ _ _=>.int _) hc) ha hb
theorem ee_pow (ha:EE X G dl a (.int i))(hb:EE X G dl b (.int j))(hc:CPow i j):EE X G dl (.BinOp a .Pow b pos) (.int (i ^ j.toNat)):=ee_op op_pow (r2_I (g':=fun i j=>.int (i ^ j.toNat)) (fun _ _ _ _=>.int _) hc) ha hb
theorem ee_neg (ha:EE X G dl a (.int i)):EE X G dl (.UnaryOp .USub a pos) (.int (-i)):=
 peI (pe_un un_neg ha) fun st H Q zq=>zc zq fun Hf S k=>fun v Hf1 H1 g1 r1=>by cases r1;exact⟨i,rfl,k _ Hf1 H1 g1 (.int _)⟩
theorem eb_of (h:EE X G dl e (.bl u))(he:autoParam (∀ whole,isTrue e X.env whole=(do let v <- whole;standAt e.pos;holding [v] (truthy v))) qf):EB X G dl e u:=
 ptI (pt_val h he) fun st H Q zq=>zc zq fun Hf S k=>fun v Hf1 H1 g1 r1=>by cases r1;exact⟨u,rfl,k Hf1 H1 g1⟩
end
section
variable {X:Cx}{G:Gr}{E:XK}{dl dl1:List Slot}{a b c e:Expr}{es:List Expr}{i j:Int}{d d1:Dt}{ds:List Dt}{pos:Pos}{o o':Out}{x:Str}{u v:Bool}{rest:List Expr}{sts sts':List Stmt}{s:Stmt}
theorem pe_nev:PE X e fun _ _ _=>False:=fun _ _ _ _ _ _ h=>h.elim
theorem pw_nev:PW X e fun _ _ _=>False:=fun _ _ _ _ _ _ _ h=>h.elim
abbrev EW (X:Cx)(G:Gr)(dl:List Slot)(e:Expr)(b:Bool):Prop:=PW X e (tDB X.K G dl b)
theorem pwI {e:Expr}{t t':TT}(h:PW X e t)(i:∀ st H Q,t' st H Q->t st H Q):PW X e t':=fun wh pins s st H Q I q=>h wh pins s st H Q I (i st H Q q)
theorem ew_and1 (ha:EB X G dl a u):EW X G dl (.BoolOp .And [a] pos) u:=pw_and1 ha
theorem ew_or1 (ha:EB X G dl a u):EW X G dl (.BoolOp .Or [a] pos) u:=pw_or1 ha
theorem ew_and (ha:EB X G dl a u)(hb:u=true->EW X G dl (.BoolOp .And (b::rest) pos) v):EW X G dl (.BoolOp .And (a::b::rest) pos) (u && v):=by
 cases u with
 | true=>exact pwI (pw_and ha (hb rfl)) fun st H Q zq=>zc zq fun Hf S k=>fun Hf1 H1 g1=>iteT ⟨Hf1,S.grow g1,fun Hf2 H2 g2=>k Hf2 H2 (g1.trans g2)⟩
 | false=>exact pwI (pw_and ha pw_nev) fun st H Q zq=>zc zq fun Hf S k=>fun Hf1 H1 g1=>iteF (k Hf1 H1 g1)
theorem ew_or (ha:EB X G dl a u)(hb:u=false->EW X G dl (.BoolOp .Or (b::rest) pos) v):EW X G dl (.BoolOp .Or (a::b::rest) pos) (u || v):=by
 cases u with
 | false=>exact pwI (pw_or ha (hb rfl)) fun st H Q zq=>zc zq fun Hf S k=>fun Hf1 H1 g1=>iteF ⟨Hf1,S.grow g1,fun Hf2 H2 g2=>k Hf2 H2 (g1.trans g2)⟩
 | true=>exact pwI (pw_or ha pw_nev) fun st H Q zq=>zc zq fun Hf S k=>fun Hf1 H1 g1=>iteT (k Hf1 H1 g1)
theorem eb_w (h:EW X G dl e u):EB X G dl e u:=h.pt
theorem eb_not (ha:EB X G dl a u):EB X G dl (.UnaryOp .Not a pos) (!u):=ptI (pt_not ha) fun st H Q zq=>zc zq fun Hf S k=>fun Hf1 H1 g1=>k Hf1 H1 g1
theorem ee_and1 (ha:EE X G dl a (.bl u)):EE X G dl (.BoolOp .And [a] pos) (.bl u):=pe_one ha
theorem ee_and (ha:EE X G dl a (.bl u))(hb:u=true->EE X G dl (.BoolOp .And (b::rest) pos) (.bl v)):EE X G dl (.BoolOp .And (a::b::rest) pos) (.bl (u && v)):=by
 cases u with
 | true=>exact peI (pe_and ha (hb rfl)) fun st H Q zq=>zc zq fun Hf S k=>fun w Hf1 H1 g1 r1=>by cases r1;exact⟨true,rfl,iteT ⟨Hf1,S.grow g1,fun w Hf2 H2 g2 r2=>k w Hf2 H2 (g1.trans g2) r2⟩⟩
 | false=>exact peI (pe_and ha pe_nev) fun st H Q zq=>zc zq fun Hf S k=>fun w Hf1 H1 g1 r1=>by cases r1;exact⟨false,rfl,iteF (k _ Hf1 H1 g1 (.bl _))⟩
theorem ee_not (ha:EE X G dl a (.bl u)):EE X G dl (.UnaryOp .Not a pos) (.bl (!u)):=peI (pe_not ha) fun st H Q zq=>zc zq fun Hf S k=>fun w Hf1 H1 g1 r1=>by cases r1;exact⟨u,rfl,k _ Hf1 H1 g1 (.bl _)⟩
theorem eb_to (h:EB X G dl e u)(q:u=v):EB X G dl e v:=by subst q;exact h
theorem ee_to (h:EE X G dl e d)(q:d=d1):EE X G dl e d1:=by subst q;exact h
theorem ea_nil:EA X G dl [] []:=paI pa_nil fun st H Q zq=>aj zq fun Hf zq=>have S:=zq.1;have k:=zq.2;k [] Hf H (.refl S.sub) .nil
theorem ea_cons (ha:EE X G dl e d)(hr:EA X G dl es ds)(hs:autoParam (starEach (e::es) X.env=(false,eval e X.env)::starEach es X.env) qc):EA X G dl (e::es) (d::ds):=
 paI (pa_cons ha hr hs) fun st H Q zq=>zc zq fun Hf S k=>fun v Hf1 H1 g1 r1=>⟨Hf1,S.grow g1,fun vs Hf2 H2 g2 r2=>k _ Hf2 H2 (g1.trans g2) (.cons (r1.mono g2.frz) r2)⟩
theorem ee_tup {x1}(h:EA X G dl es ds)(hl:autoParam (ds.length<=sizeLine) qd):EE X G dl (.Tuple es x1 pos) (.tup ds):=
 peI (pe_tup h) fun st H Q zq=>zc zq fun Hf S k=>fun vs Hf1 H1 g1 r1=>⟨by rw[r1.length];exact hl,fun p hp=>k _ (upd Hf1 p (.tup vs)) _ (g1.trans (.alloc g1.sub hp)) (.tup (.of upd_same) (r1.mono (same_upd (g1.sub.free hp))))⟩
theorem ee_lst (h:EA X G dl es ds)(hl:autoParam (ds.length<=sizeLine) qd):EE X G dl (.List es pos) (.lst ds):=
 peI (pe_lst h) fun st H Q zq=>zc zq fun Hf S k=>fun vs Hf1 H1 g1 r1=>⟨by rw[r1.length];exact hl,fun p hp=>k _ (upd Hf1 p (.lst vs)) _ (g1.trans (.alloc g1.sub hp)) (.lst upd_same (r1.mono (same_upd (g1.sub.free hp))))⟩
theorem Reps.atI {K:W.Frag}{H:Hp}{vs:List V}{ds:List Dt}{i:Int}{d:Dt}(r:Reps K H vs ds)(h:L2.atI ds i=some d):∃ v,L2.atI vs i=some v/\Rep K H v d:=by
 unfold L2.atI at h ⊢;rw[r.length];cases q:ixN ds.length i with
 | none=>rw[q] at h;cases h
 | some n=>
   rw[q] at h;exact r.get h
theorem ee_ixT (ha:EE X G dl a (.tup ds))(hb:EE X G dl b (.int i))(h:atI ds i=some d)(hs:autoParam (PlainIx b) qh):EE X G dl (.Subscript a b pos) d:=
 peI (pe_ix ix_tup ha hb hs) (tOp_D fun v w Hf H Q s r1 r2 k=>by
   cases r1 with
   | tup q r=>
     cases r2;obtain⟨v,h1,h2⟩:=r.atI h;exact⟨_,_,i,v,rfl,rfl,SqT_same s q,h1,k v Hf H (.refl s) h2⟩)
theorem ee_ixL (ha:EE X G dl a (.lst ds))(hb:EE X G dl b (.int i))(h:atI ds i=some d)(hs:autoParam (PlainIx b) qh):EE X G dl (.Subscript a b pos) d:=
 peI (pe_ix ix_list ha hb hs) (tOp_D fun v w Hf H Q s r1 r2 k=>by
   cases r1 with
   | lst q r=>
     cases r2;obtain⟨v,h1,h2⟩:=r.atI h;exact⟨_,_,i,v,rfl,rfl,.of (s _ _ q),h1,k v Hf H (.refl s) h2⟩)
theorem ee_ixC {ns:List Int}{z:Int}(ha:EE X G dl a (.scr ns))(hb:EE X G dl b (.int i))(h:atI ns i=some z)(hs:autoParam (PlainIx b) qh):EE X G dl (.Subscript a b pos) (.int z):=
 peI (pe_ix ix_list ha hb hs) (tOp_D fun v w Hf H Q s r1 r2 k=>by
   cases r1 with
   | scr q=>
     cases r2;have h':L2.atI (ns.map V.int) i=some (.int z):=by
       unfold L2.atI at h ⊢;rw[ae];cases q2:ixN ns.length i with
       | none=>rw[q2] at h;cases h
       | some n=>
         rw[q2] at h;show(ns.map V.int)[n]?=_;rw[av,show ns[n]?=some z from h];rfl
     exact⟨_,_,i,_,rfl,rfl,s.seq q,h',k _ Hf H (.refl s) (.int z)⟩)
theorem es_nil:ESs X G E dl [] (.nx dl):=pssI pss_nil fun D st H zq=>aj zq fun Hf zq=>have S:=zq.1;have k:=zq.2;k st Hf H (Same.refl _) S
theorem es_cons (h1:ES X G E dl s (.nx dl1))(h2:ESs X G E dl1 sts o):ESs X G E dl (s::sts) o:=
 pssI (pss_cons h1 h2) fun D st H zq=>zc zq fun Hf S k=>fun st' Hf' H' s' S'=>⟨Hf',S',k.mono s'⟩
theorem es_one (h1:ES X G E dl s o):ESs X G E dl [s] o:=pss_one h1
theorem OutK.stop {K:W.Frag}{D D':Ends}{Hf:Hp}(h:(∀ dl,o≠.nx dl)/\∀ R,o≠.raw R)(hr:D'.rt=D.rt)(hb:D'.bk=D.bk)(hc:D'.ct=D.ct)(k:OutK K G E D Hf o):OutK K G E D' Hf o:=by
 cases o with
 | nx dl=>exact absurd rfl (h.1 dl)
 | raw R=>exact absurd rfl (h.2 R)
 | rt d=>show ∀ v Hf H,_->_->D'.rt v H;rw[hr];exact k
 | ro d=>show ∀ v Hf H,_->_->_->_->D'.rt _ H;rw[hr];exact k
 | bk d=>show ∀ v Hf H,_->_->D'.bk v H;rw[hb];exact k
 | ct d=>show ∀ v Hf H,_->_->D'.ct v H;rw[hc];exact k
 | ex c fs=>exact k
theorem es_stop (h1:ES X G E dl s o)(h:(∀ dl,o≠.nx dl)/\(∀ R,o≠.raw R):=by exact⟨(fun _ z=>nomatch z),(fun _ z=>nomatch z)⟩):ESs X G E dl (s::sts) o:=
 pssI (pss_cons h1 (pss_never (sts:=sts))) fun D st H zq=>zc zq fun Hf S k=>OutK.stop (D:=D) h rfl rfl rfl k
theorem es_if (hc:EB X G dl c u)(h1:u=true->ESs X G E dl sts o)(h2:u=false->ESs X G E dl sts' o):ES X G E dl (.If c sts sts' pos) o:=by
 cases u with
 | true=>exact psI (ps_if hc (h1 rfl) (pss_never (sts:=sts'))) fun D st H zq=>zc zq fun Hf S k=>fun Hf1 H1 g1=>iteT ⟨Hf1,S.grow g1,k.mono g1.frz⟩
 | false=>exact psI (ps_if hc (pss_never (sts:=sts)) (h2 rfl)) fun D st H zq=>zc zq fun Hf S k=>fun Hf1 H1 g1=>iteF ⟨Hf1,S.grow g1,k.mono g1.frz⟩
theorem es_ret (h:EE X G dl e d):ES X G E dl (.Return (some e) pos) (.rt d):=psI (ps_ret h) fun D st H zq=>zc zq fun Hf S k=>fun v Hf1 H1 g1 r1=>k v Hf1 H1 (S.gr.trans g1) r1
theorem es_set (n:Nat){x:Str}{pos':Pos}(hN:X.N.Nodup)(he:EE X G dl e d)(hi:autoParam (X.N[n]?=some x) qc)(hx:autoParam (Loc X.env.scope x) qg)(hs:autoParam (swapsWith e (some (.Name x pos')) pos.line X.env=pure false) qc)(hf:autoParam (X.fn x=true\/X.env.scope.names.lookup x=some .local) qe):ES X G E dl (.Assign [.Name x pos'] e pos) (.nx (dl.set n (.val d))):=
 psI (ps_set hN hi hx he hs hf) fun D st H zq=>zc zq fun Hf S k=>fun v Hf1 H1 g1 r1=>k _ Hf1 H1 g1.frz ((S.grow g1).set r1)
inductive Ends1 (X:Cx)(G:Gr)(E:XK)(body:List Stmt)(S:Nat->List Slot)(pre:Nat->List Slot)(n m:Nat):Out->Prop
 | all (h:m=n):Ends1 X G E body S pre n m (.nx (S n))
 | rt {d:Dt} (h:m < n) (hb:ESs X G E (pre m) body (.rt d)):Ends1 X G E body S pre n m (.rt d)
 | ro {d:Own} (h:m < n) (hb:ESs X G E (pre m) body (.ro d)):Ends1 X G E body S pre n m (.ro d)
 | bk {dl':List Slot} (h:m < n) (hb:ESs X G E (pre m) body (.bk dl')):Ends1 X G E body S pre n m (.nx dl')
 | ex {c:Value} {fs:List (Str×Dt)} (h:m < n) (hb:ESs X G E (pre m) body (.ex c fs)):Ends1 X G E body S pre n m (.ex c fs)
inductive Goes (X:Cx)(G:Gr)(E:XK)(body:List Stmt)(pre post:List Slot):Prop
 | nx {dl':List Slot} (hb:ESs X G E pre body (.nx dl')) (l:Le post dl')
 | ct {dl':List Slot} (hb:ESs X G E pre body (.ct dl')) (l:Le post dl')
def tTurn (X:Cx)(G:Gr)(E:XK)(body:List Stmt):TS:=fun D st H=>∃ pre o,ESs X G E pre body o/\tO X.K G E pre o D st H
theorem pss_turn {body:List Stmt}:PSs X body (tTurn X G E body):=fun pins s st H D J ⟨pre,o,h,q⟩=>h pins s st H D J q
theorem turn_goes {body:List Stmt}{pre post:List Slot}{D:Ends}{st:L2.St}{Hf H:Hp}(g:Goes X G E body pre post)(S:Stt X.K G st Hf H pre)(hn:∀ st Hf' H,Same Hf Hf'->Stt X.K G st Hf' H post->D.nx st H)(hc:∀ st Hf' H,Same Hf Hf'->Stt X.K G st Hf' H post->D.ct st H):tTurn X G E body D st H:=by
 cases g with
 | nx hb l=>exact⟨_,_,hb,Hf,S,fun st' Hf' H' s' S'=>hn st' Hf' H' s' (S'.weak l)⟩
 | ct hb l=>exact⟨_,_,hb,Hf,S,fun st' Hf' H' s' S'=>hc st' Hf' H' s' (S'.weak l)⟩
theorem turn_ends {body:List Stmt}{S pre:Nat->List Slot}{n m:Nat}{D D':Ends}{st:L2.St}{Hf H:Hp}(e:Ends1 X G E body S pre n m o)(hm:m < n)(S':Stt X.K G st Hf H (pre m))(k:OutK X.K G E D Hf o)(hr:D'.rt=D.rt)(hb':D'.bk=D.nx):tTurn X G E body D' st H:=by
 cases e with
 | all h=>omega
 | rt h hb=>exact⟨_,_,hb,Hf,S',by show ∀ v Hf H,_->_->D'.rt v H;rw[hr];exact k⟩
 | ro h hb=>exact⟨_,_,hb,Hf,S',by show ∀ v Hf H,_->_->_->_->D'.rt _ H;rw[hr];exact k⟩
 | bk h hb=>exact⟨_,_,hb,Hf,S',by show ∀ v Hf H,_->_->D'.bk v H;rw[hb'];exact k⟩
 | ex h hb=>exact⟨_,_,hb,Hf,S',k⟩
theorem es_range (nN:Nat){x:Str}{px:Pos}{body:List Stmt}{lo:Int}{n m:Nat}(S:Nat->List Slot)(hN:X.N.Nodup)(hcalm:X.calm=true)(hp:PassesOwn (model X.prog X.w) X.A X.env X.xe){wi:TI}{iter:Expr}(hI:PI X (.Name x px) iter wi)(hw:∀ st Hf H R,Stt X.K G st Hf H dl->(∀ Hf' H',Grow Hf H Hf' H'->R (Itr lo n) H')->wi st H R)(h0:Le (S 0) dl)(hmn:m<=n)(hb:∀ k,k < m->Goes X G E body ((S k).set nN (.val (.int (lo+k)))) (S (k+1)))(he:Ends1 X G E body S (fun k=>(S k).set nN (.val (.int (lo+k)))) n m o)(hi:autoParam (X.N[nN]?=some x) qc)(hx:autoParam (Loc X.env.scope x) qg)(hf:autoParam (X.fn x=true\/X.env.scope.names.lookup x=some .local) qe)(hs:autoParam (∀ x,foldedSetIterable iter X.env x=pure x) qf):ES X G E dl (.For (.Name x px) iter body [] pos) o:=by
 refine psI (ps_for hp hcalm hI (pg_name hN hi hx hf) (pss_turn (G:=G) (E:=E)) hs) fun D st H ⟨Hf,S0,k⟩=>hw st Hf H _ S0 fun Hf' H' g=>?_
 refine for_range (lo:=lo) (n:=n) (fun j st H=>j<=m/\∃ Hf1,Same Hf Hf1/\Stt X.K G st Hf1 H (S j)) ⟨aJ _,Hf',g.frz,(S0.grow g).weak h0⟩ (fun j st H hj ⟨hjm,Hf1,s1,Sj⟩=>?_) (fun st H ⟨hnm,Hf1,s1,Sn⟩=>?_)
 . have Sp:Stt X.K G (st.set nN (some (.int (lo+j)))) Hf1 H ((S j).set nN (.val (.int (lo+j)))):=Sj.set (.int _)
   by_cases hlt:j < m
   . exact turn_goes (hb j hlt) Sp (fun st Hf2 H s2 S'=>⟨hlt,Hf2,s1.trans s2,S'⟩) (fun st Hf2 H s2 S'=>⟨hlt,Hf2,s1.trans s2,S'⟩)
   . have e:j=m:=by omega
     subst e;exact turn_ends he hj Sp (k.mono s1) rfl rfl
 . have e:m=n:=by omega
   subst e;cases he with
   | all _=>exact k st Hf1 H s1 Sn
   | rt h _=>omega
   | ro h _=>omega
   | bk h _=>omega
   | ex h _=>omega
theorem es_range1 (nN:Nat){x:Str}{p px pc:Pos}{body:List Stmt}{n:Int}{m:Nat}(S:Nat->List Slot)(hN:X.N.Nodup)(hcalm:X.calm=true)(hp:PassesOwn (model X.prog X.w) X.A X.env X.xe)(hm0:X.mg "range"=none)(ha:EA X G dl [a] [.int n])(hn:-(2 ^ 62)<=n/\n < 2 ^ 62)(h0:Le (S 0) dl)(hmn:m<=n.toNat)(hb:∀ k:Nat,k < m->Goes X G E body ((S k).set nN (.val (.int k))) (S (k+1)))(he:Ends1 X G E body S (fun k=>(S k).set nN (.val (.int k))) n.toNat m o)(hg:autoParam (Gl X "range") qc)(hi:autoParam (X.N[nN]?=some x) qc)(hx:autoParam (Loc X.env.scope x) qg)(hf:autoParam (X.fn x=true\/X.env.scope.names.lookup x=some .local) qe)(hs1:autoParam (starEach [a] X.env=[(false,eval a X.env)]) qc)(hs:autoParam (∀ z,foldedSetIterable (.Call (.Name "range" p) [a] [] pc) X.env z=pure z) qf):ES X G E dl (.For (.Name x px) (.Call (.Name "range" p) [a] [] pc) body [] pos) o:=by
 have ez:∀ k:Nat,(0:Int)+k=k:=fun k=>Int.zero_add _
 have eS:(fun k:Nat=>(S k).set nN (.val (.int ((0:Int)+k))))=fun k:Nat=>(S k).set nN (.val (.int k)):=by funext k;rw[ez]
 refine es_range nN (lo:=0) (n:=n.toNat) (m:=m) S hN hcalm hp (pi_range1 hg hm0 ha hs1) (fun st Hf H R S0 h=>⟨Hf,S0,fun vs Hf1 H1 g1 r1=>?_⟩) h0 hmn (fun k hk=>by rw[ez];exact hb k hk) (by rw[eS];exact he) hi hx hf hs;cases r1 with
 | cons r t=>cases t;cases r;exact⟨n,rfl,hn.1,hn.2,h Hf1 H1 g1⟩
theorem es_list (nN:Nat){x:Str}{px:Pos}{iter:Expr}{body:List Stmt}{xs:List Dt}{m:Nat}(S:Nat->List Slot)(hN:X.N.Nodup)(hcalm:X.calm=true)(hp:PassesOwn (model X.prog X.w) X.A X.env X.xe)(hl:EE X G dl iter (.lst xs))(h0:Le (S 0) dl)(hmn:m<=xs.length)(hb:∀ (k:Nat) (z:Dt),k < m->xs[k]?=some z->Goes X G E body ((S k).set nN (.val z)) (S (k+1)))(he:Ends1 X G E body S (fun k=>(S k).set nN (.val (xs.getD k .non))) xs.length m o)(hi:autoParam (X.N[nN]?=some x) qc)(hx:autoParam (Loc X.env.scope x) qg)(hf:autoParam (X.fn x=true\/X.env.scope.names.lookup x=some .local) qe)(hs:autoParam (∀ z,foldedSetIterable iter X.env z=pure z) qf):ES X G E dl (.For (.Name x px) iter body [] pos) o:=by
 refine psI (ps_for hp hcalm (pi_list hl) (pg_name hN hi hx hf) (pss_turn (G:=G) (E:=E)) hs) fun D st H ⟨Hf,S0,k⟩=>⟨Hf,S0,fun v Hf' H' g r=>?_⟩
 cases r with
 | @lst a vs _ q r=>
   have hlen:=r.length;refine⟨a,rfl,⟨vs,.of (g.sub _ _ q)⟩,for_list (xs:=vs) (fun j st H=>j<=m/\∃ Hf1,Same Hf' Hf1/\Stt X.K G st Hf1 H (S j)) ⟨aJ _,Hf',Same.refl _,(S0.grow g).weak h0⟩ ?_ ?_ ?_⟩
   . rintro j st H _ ⟨_,Hf1,s1,Sj⟩
     exact .of (Sj.sub _ _ (s1 _ _ q))
   . rintro j v st H hv ⟨hjm,Hf1,s1,Sj⟩
     obtain⟨z,hz,rz⟩:=r.get' hv;have hj:j < xs.length:=(aC.mp hz).1;have Sp:Stt X.K G (st.set nN (some v)) Hf1 H ((S j).set nN (.val z)):=Sj.set (rz.mono s1);by_cases hlt:j < m
     . exact turn_goes (hb j z hlt hz) Sp (fun st Hf2 H s2 S'=>⟨hlt,Hf2,s1.trans s2,S'⟩) (fun st Hf2 H s2 S'=>⟨hlt,Hf2,s1.trans s2,S'⟩)
     . have e:j=m:=by omega
       subst e;have ez:xs.getD j .non=z:=by rw[af,hz];rfl
       exact turn_ends he hj (by show Stt _ _ _ _ _ ((S j).set nN (.val (xs.getD j .non)));rw[ez];exact Sp) (k.mono (g.frz.trans s1)) rfl rfl
   . rintro st H ⟨hnm,Hf1,s1,Sn⟩
     have e:m=xs.length:=by omega
     subst e;rw[hlen] at Sn;cases he with
     | all _=>exact k st Hf1 H (g.frz.trans s1) Sn
     | rt h _=>omega
     | ro h _=>omega
     | bk h _=>omega
     | ex h _=>omega
inductive Res where
 | ret (d:Dt)
 | own (w:Own)
 | exc (c:Value) (fs:List (Str×Dt))
def ResK (K:W.Frag)(Hf H:Hp)(Q:VK)(E:XK):Res->Prop
 | .ret d=>∀ v Hf' H',Grow Hf H Hf' H'->Rep K Hf' v d->Q v H'
 | .own w=>∀ p Hf' H',Grow Hf H Hf' H'->H p=none->Hf' p=none->OwnAt K Hf' H' p w->Q (.ref p) H'
 | .exc c fs=>∀ od Hf' H',Grow Hf H Hf' H'->ExcAt K Hf' od fs->E c od H'
def spR (K:W.Frag)(n:Nat)(R:List Dt->Res->Prop):Sp:=fun vs H Q E=>∃ Hf ds r,Same Hf H/\Reps K Hf vs ds/\ds.length=n/\R ds r/\ResK K Hf H Q E r
def NoX (CX:CXT):Prop:=∀ outer H s e s',CX outer H s E0 e s'->False
theorem nox0:NoX CX0:=fun _ _ _ _ _ h=>h
theorem NoX.passes {CX:CXT}(n:NoX CX):Passes CX X E0:=fun _ _ _ _ _ _ _ h=>(n _ _ _ _ _ h).elim
noncomputable def slots (N:List Str)(ds:List Dt):List Slot:=ds.map Slot.val ++ bC (N.length - ds.length) .unk
theorem stt_start {K:W.Frag}{N:List Str}{Hf H:Hp}{vs:List V}{ds:List Dt}(s:Same Hf H)(r:Reps K Hf vs ds):Stt K ⟨Hf,H⟩ (start N vs) Hf H (slots N ds):=by
 have hl:=r.length;have nown:∀ (i:Nat) o,(slots N ds)[i]?≠some (.own o):=fun i o h=>by
   unfold slots at h;by_cases hi:i < ds.length
   . rw[aH (by simpa using hi),av] at h
     cases e:ds[i]? with
     | none=>rw[e] at h;cases h
     | some a=>rw[e] at h;cases h
   . rw[aG (by simpa using hi),bo] at h
     split at h <;> cases h
 refine⟨.refl s,?_,fun i d h=>?_,fun i o h=>absurd h (nown i o),fun i j o o' a h=>absurd h (nown i o)⟩
 . unfold L2.start slots
   simp[hl]
 . unfold slots at h
   by_cases hi:i < ds.length
   . rw[aH (by simpa using hi),av] at h
     cases e:ds[i]? with
     | none=>rw[e] at h;cases h
     | some a=>
       rw[e] at h;cases h;obtain⟨v,h1,h2⟩:=r.get e;refine⟨v,?_,h2⟩;unfold L2.start;rw[aH (by simp;omega),av,h1];rfl
   . rw[aG (by simpa using hi),bo] at h
     split at h <;> cases h
inductive Comes:Out->Res->Prop
 | rt (d:Dt):Comes (.rt d) (.ret d)
 | ro (d:Own):Comes (.ro d) (.own d)
 | nx (dl:List Slot):Comes (.nx dl) (.ret .non)
 | kn {dl:List Slot} {d:Dt} (h:∀ K G st Hf H,Stt K G st Hf H dl->Rep K Hf .non d):Comes (.nx dl) (.ret d)
 | ex (c:Value) (fs:List (Str×Dt)):Comes (.ex c fs) (.exc c fs)
theorem Comes.ends {K:W.Frag}{Hf H:Hp}{Q:VK}{o:Out}{r:Res}(h:Comes o r)(k:ResK K Hf H Q E r):OutK K ⟨Hf,H⟩ E { nx:=fun _ H'=>Q .non H',rt:=Q} Hf o:=by
 cases h with
 | rt d=>exact k
 | ro d=>exact k
 | nx dl=>exact fun st Hf' H' s' S=>k _ Hf' H' S.gr .non
 | kn h=>exact fun st Hf' H' s' S=>k _ Hf' H' S.gr (h _ _ _ _ _ S)
 | ex c fs=>exact k
theorem fnR {P:Program}{w:World}{K:W.Frag}{mg:Str->Option Value}{base:Heap}{CX:CXT}{x qual:Str}{st:Stmt}{f:Addr}{fd:FuncData}{N ps:List Str}{k n:Nat}{R:List Dt->Res->Prop}(F:Fun K x qual st f fd)(S:FnScope N ps (defScope st))(hn:ps.length=n)(hbody:∀ (cdv:Value) (A:Around) (outer:List Env) (s:Shared) (H:Hp) (E:XK) (G:Gr) (ds:List Dt) (r:Res),Room k (A.deeper (envOfC qual (defScope st) s.heap.objs.size f cdv))->ds.length=n->R ds r->∃ o,Comes o r/\ESs (cxOf CX P w K mg base N qual (defScope st) f cdv A outer s H E) G E (slots N ds) (defBody st) o):FnOk P w K mg base CX (k+1) f fd ps (spR K n R):=by
 obtain⟨oc,od,kV,doc,pm,an,cdv,ct,osl,rfl,lk,hcd⟩:=F.ex;refine fn_of lk hcd S (fun vs H Q E zq=>by obtain⟨Hf,ds,r,s,rp,hl,_⟩:=zq;rw[rp.length,hl,hn]) fun A outer s H vs Q E hr zq=>?_;obtain⟨Hf,ds,r,sm,rp,hl,hR,hk⟩:=zq
 obtain⟨o,hc,hb⟩:=hbody cdv A outer s H E ⟨Hf,H⟩ ds r hr hl hR;exact⟨_,hb,Hf,stt_start sm rp,hc.ends hk⟩
section
variable {CX:CXT}{k n:Nat}{f C:Addr}{fd:FuncData}{ps:List Str}{R:List Dt->Res->Prop}{m:Str}{p apos:Pos}{ob:Expr}{dvs:List Dt}{vds:List V}{dsv:List Value}{fs:List (Str×Dt)}
theorem ee_call (F:FnOk X.prog X.w X.K X.mg X.base CX k f fd ps (spR X.K n R))(nx:NoX CX)(hr:Room k X.A)(hm:X.mg x=some (.ref f))(hk:W.keepIn X.K (.ref f)=true)(hb:Binds X.K fd ps dsv)(hd:Vals vds dsv)(hdd:∀ H,Reps X.K H vds dvs)(ha:EA X G dl (e::es) ds)(hl:(ds ++ dvs).length=n)(h:R (ds ++ dvs) (.ret d))(hg:autoParam (Gl X x) qc)(hdb:autoParam ((x == ("__debug__":Str))=false) qd)(he:autoParam (starEach (e::es) X.env=(false,eval e X.env)::starEach es X.env) qc)(hpl:autoParam ((backTo pos (starEach es X.env)).any (·.1)=false) qc):EE X G dl (.Call (.Name x p) (e::es) [] pos) d:=
 peI (pe_call (E:=E0) F hr hg hm hk hb hd nx.passes ha hdb he hpl) fun st H Q zq=>zc zq fun Hf S k=>fun vs Hf1 H1 g1 r1=>⟨Hf1,ds ++ dvs,.ret d,g1.sub,r1.append (hdd _),hl,h,fun v Hf2 H2 g2 r2=>k v Hf2 H2 (g1.trans g2) r2⟩
theorem ee_meth {pl:Sem Bool}(he:EE X G dl ob (.obj C fs))(c:Cls X.K C)(hm:Meth X.K C m f)(F:FnOk X.prog X.w X.K X.mg X.base CX k f fd ps (spR X.K n R))(nx:NoX CX)(hr:Room k X.A)(hb:Binds X.K fd ps dsv)(hd:Vals vds dsv)(hdd:∀ H,Reps X.K H vds dvs)
   (ha:EA X G dl (e::es) ds) (hl:(.obj C fs::(ds ++ dvs)).length=n) (h:R (.obj C fs::(ds ++ dvs)) (.ret d)) (hno:fs.lookup m=none)
   (hst:autoParam (starEach (e::es) X.env=(false,eval e X.env)::starEach es X.env) qc) (hpl:autoParam ((backTo pos (starEach es X.env)).any (·.1)=false) qc)
   (ht:autoParam (eval (.Call (.Attribute ob m apos) (e::es) [] pos) X.env=(do
     let ov <- eval ob X.env
     standAt apos.atName
     let (f,first) <- holding [ov] (getMethod ov m pl)
     callWith pos f first (backTo pos (starEach (e::es) X.env)) (backToKw pos (keywordEach [] X.env)))) qc):EE X G dl (.Call (.Attribute ob m apos) (e::es) [] pos) d:=
 peI (pe_meth (pl:=pl) (E:=E0) he c hm F hr hb hd nx.passes ha hst hpl ht) fun st H Q zq=>zc zq fun Hf S k=>fun v Hf1 H1 g1 r1=>by
   cases r1 with
   | @obj a _ dx fv _ q r=>
     exact⟨a,dx,fv,rfl,Rd_same g1.sub q,r.none_of hno,Hf1,S.grow g1,fun vs Hf2 H2 g2 r2=>⟨Hf2,_,.ret d,g2.sub,.cons (.obj (Rd_same g2.frz q) (r.mono g2.frz)) (r2.append (hdd _)),hl,h,fun v Hf3 H3 g3 r3=>k v Hf3 H3 ((g1.trans g2).trans g3) r3⟩⟩
theorem ee_meth0 {pl:Sem Bool}(he:EE X G dl ob (.obj C fs))(c:Cls X.K C)(hm:Meth X.K C m f)(F:FnOk X.prog X.w X.K X.mg X.base CX k f fd ps (spR X.K n R))(nx:NoX CX)(hr:Room k X.A)(hb:Binds X.K fd ps dsv)(hd:Vals vds dsv)(hdd:∀ H,Reps X.K H vds dvs)
   (hl:(Dt.obj C fs::dvs).length=n) (h:R (.obj C fs::dvs) (.ret d)) (hno:fs.lookup m=none)
   (ht:autoParam (eval (.Call (.Attribute ob m apos) [] [] pos) X.env=(do
     let ov <- eval ob X.env
     standAt apos.atName
     let (f,first) <- holding [ov] (getMethod ov m pl)
     callWith pos f first (backTo pos (starEach [] X.env)) (backToKw pos (keywordEach [] X.env)))) qc):EE X G dl (.Call (.Attribute ob m apos) [] [] pos) d:=
 peI (pe_meth0 (pl:=pl) (E:=E0) he c hm F hr hb hd nx.passes ht) fun st H Q zq=>zc zq fun Hf S k=>fun v Hf1 H1 g1 r1=>by
   cases r1 with
   | @obj a _ dx fv _ q r=>
     exact⟨a,dx,fv,rfl,Rd_same g1.sub q,r.none_of hno,Hf1,_,.ret d,g1.sub,.cons (.obj q r) (hdd _),hl,h,fun v Hf3 H3 g3 r3=>k v Hf3 H3 (g1.trans g3) r3⟩
end
end
section
variable {X:Cx}{G:Gr}{dl:List Slot}{a b c e:Expr}{i j:Int}{d d1 d2:Dt}{ds:List Dt}{pos p:Pos}{o:Out}{x y:Str}{u v:Bool}{s:Stmt}{C:Addr}{fs:List (Str×Dt)}
theorem ee_ty {T:String}(hm:X.mg x=none)(hv:bootBuiltins x=some (.type T))(hg:autoParam (Gl X x) qc)(hn:autoParam (x≠"__name__") qd)(hd:autoParam ((x == ("__debug__":Str))=false) qd):EE X G dl (.Name x pos) (.ty T):=
 peI (pe_bltn (v:=.ty T) hg hm hv rfl hn hd) fun st H Q zq=>aj zq fun Hf zq=>have S:=zq.1;have k:=zq.2;k _ Hf H (.refl S.sub) (.ty T)
theorem boot_int:bootBuiltins "int"=some (.type "int"):=by decide +kernel
theorem boot_bool:bootBuiltins "bool"=some (.type "bool"):=by decide +kernel
theorem boot_tuple:bootBuiltins "tuple"=some (.type "tuple"):=by decide +kernel
theorem boot_list:bootBuiltins "list"=some (.type "list"):=by decide +kernel
structure Mk0 (K:W.Frag)(C:Addr):Prop where
 makes:W.makesIn K C=true
 init:W.findIn K (.ref C) "__init__"=some (some (.builtin "object.__init__"))
 kp:W.keepIn K (.ref C)=true
theorem run_make0 {pins:List (Addr×Obj)}{st:L2.St}{H:Hp}{s:Shared}{Q:VK}(M:Mk0 X.K C)(I:L2.Inv X pins st H s)(h:∀ x dx,H x=none->H dx=none->dx≠x->Q (.ref x) (upd (upd H dx (.own x)) x (.ins C dx []))):wpAny (model X.prog X.w) X.A (call (.ref C) []) (EP X pins st Q) X.xe s:=by
 have hq:=h (s.heap.objs.size+1) s.heap.objs.size (I.hok.fresh (b6 _)) (I.hok.fresh (ag _)) (au (bI _));have I2:=L2.Inv.made (C:=C) I;refine wpAny_call (make_map0 (s:=s) I.kIn M.makes M.init (fun self=>W.Looks.of_pure (W.oi_bind self)) ?_);obtain⟨hh,g,d,t,os⟩:=s;have Y:=W.makes_of (M:=model X.prog X.w) I.kIn M.makes;have t1:W.Looks (model X.prog X.w) ((hh.push W.emptyDict).push (W.instObj C hh.objs.size)) (typeOf (.ref (hh.objs.size+1))) (.ref C):=by
   have e2:=ax (hh.push W.emptyDict) (o:=W.instObj C hh.objs.size) rfl;rw[bD] at e2;exact(W.Looks.ld e2).andThen .now
 have t2:W.Looks (model X.prog X.w) ((hh.push W.emptyDict).push (W.instObj C hh.objs.size)) (isInstance (.ref (hh.objs.size+1)) (.type "object")) true:=t1.andThen (Y.top.keeps fun b o e=>aa _ (aa _ e));refine codeAny_call_builtin W.oi_plain W.entry_oi (@W.check_slot (model X.prog X.w) _ _ _ "object.__init__" "object" "__init__" (.ref (hh.objs.size+1)) [] [] _ W.oi_kind W.oi_split t2 (W.oi_args (.ref (hh.objs.size+1))) ?_);rw[W.oi_run];exact wpAny_pure (And.intro rfl ⟨V.ref (hh.objs.size+1),_,I2,rfl,hq⟩)
theorem ee_make0 (M:Mk0 X.K C)(hm:X.mg x=some (.ref C))(hg:autoParam (Gl X x) qc)(hdb:autoParam ((x == ("__debug__":Str))=false) qd):EE X G dl (.Call (.Name x p) [] [] pos) (.obj C []):=by
 intro pins s st H Q I ⟨Hf,S,k⟩;refine wpAny_Call_Name_kw (ld_glob I hg hm ?_ hdb);refine W.callWith_K0 I.kIn M.kp (run_make0 M I fun x dx hx hdx ne=>?_);have hx':(upd H dx (.own x)) x=none:=by rw[upd_ne (Ne.symm ne)];exact hx
 have g1:Grow Hf H Hf (upd H dx (.own x)):=.allocO S.sub hdx;have g2:=Grow.alloc (o:=.ins C dx []) g1.sub hx';exact k _ _ _ (g1.trans g2) (.obj (.of upd_same) .nil)
theorem ee_lenC {ns:List Int}(hm:X.mg "len"=none)(ha:EE X G dl a (.scr ns))(hg:autoParam (Gl X "len") qc)(he:autoParam (starEach [a] X.env=[(false,eval a X.env)]) qc):EE X G dl (.Call (.Name "len" p) [a] [] pos) (.int ns.length):=
 peI (pe_callB call_len_seq hg hm PySem.boot_len (ea_cons ha ea_nil he) (he:=he)) fun st H Q zq=>zc zq fun Hf S k=>fun vs Hf1 H1 g1 r1=>by
   cases r1 with
   | cons r t=>cases t;cases r with
     | @scr q _ z=>exact⟨q,_,rfl,.inl (g1.sub.seq z),by rw[ae];exact k _ Hf1 H1 g1 (.int _)⟩
theorem ee_lenT (hm:X.mg "len"=none)(ha:EE X G dl a (.tup ds))(hg:autoParam (Gl X "len") qc)(he:autoParam (starEach [a] X.env=[(false,eval a X.env)]) qc):EE X G dl (.Call (.Name "len" p) [a] [] pos) (.int ds.length):=
 peI (pe_callB call_len_seq hg hm PySem.boot_len (ea_cons ha ea_nil he) (he:=he)) fun st H Q zq=>zc zq fun Hf S k=>fun vs Hf1 H1 g1 r1=>by
   cases r1 with
   | cons r t=>cases t;cases r with
     | @tup q vs _ z w=>exact⟨q,vs,rfl,.inr (SqT_same g1.sub z),by rw[w.length];exact k _ Hf1 H1 g1 (.int _)⟩
noncomputable def tyD:Dt->Value
 | .non=>.type "NoneType"
 | .bl _=>.type "bool"
 | .int _=>.type "int"
 | .str _=>.type "str"
 | .tup _=>.type "tuple"
 | .lst _=>.type "list"
 | .scr _=>.type "list"
 | .dic _=>.type "dict"
 | .obj C _=>.ref C
 | .ty _=>.type "type"
 | .cls _=>.type "type"
 | .xo C=>.ref C
 | .dicF _=>.type "dict"
 | .xof C _=>.ref C
 | .dicK _=>.type "dict"
 | .memo _ _ _ _=>.type "list"
 | .memoY _ _ _ _=>.type "list"
 | .kno _ _ _=>.type "NoneType"
 | .gro C _ _ _ _=>.ref C
 | _=>.type "object"
structure TyC (K:W.Frag)(C:Addr):Prop where
 cl:Cls K C
 ha:W.findIn K (.ref C) "__class__"=some (some (.builtin "object.__class__"))
 hn:W.specialIn K (.builtin "object.__class__") "__get__"=some (some (.builtin "getset_descriptor.__get__"))
 htk:W.takesIn K (.builtin "object.__class__")=some true
 hm:W.mroIn K C (.type "object")=some true
def TyOk (K:W.Frag):Dt->Prop
 | .obj C _=>TyC K C
 | .xo C=>TyX K C
 | .xof C _=>TyX K C
 | .memo _ _ _ _=>False
 | .memoY _ _ _ _=>False
 | .kno _ _ _=>False
 | .gro C _ _ _ _=>TyC K C
 | .kep _=>False
 | .dicT _=>False
 | .ty _=>False
 | .cls _=>False
 | _=>True
noncomputable def clsV:Dt->Option Value
 | .ty n=>some (.type n)
 | .cls C=>some (.ref C)
 | _=>none
theorem isinst_D {pins:List (Addr×Obj)}{st:L2.St}{Hf H:Hp}{s:Shared}{Q:Value->Shared->Prop}{w:V}{z c:Value}{r:Bool}(I:L2.Inv X pins st H s)(sm:Same Hf H)(rp:Rep X.K Hf w d)(rx:RelV w z)(t:TyOk X.K d)(e:W.kitOne X.K (tyD d) c=some r)(h:∀ tk,Q (.bool r) { s with toks:=tk}):wpAny (model X.prog X.w) X.A (call (.builtin "isinstance") [z,c]) Q X.xe s:=by
 cases rp with
 | non=>cases (show z=Value.none from rx);exact W.kia_one W.kitx_none I.kIn True.intro e (fun z=>nomatch z) h
 | bl y=>cases (show z=Value.bool y from rx);exact W.kia_one W.kitx_bool I.kIn True.intro e (fun z=>nomatch z) h
 | int i=>obtain⟨t,q⟩:=(show ∃ t,z=Value.int i t from rx);cases q;exact W.kia_one W.kitx_int I.kIn True.intro e (fun z=>nomatch z) h
 | str y=>obtain⟨t,q⟩:=(show ∃ t,z=Value.str y t from rx);cases q;exact W.kia_one W.kitx_str I.kIn True.intro e (fun z=>nomatch z) h
 | @tup a vs ds q rr=>
   cases (show z=Value.ref a from rx);obtain⟨its,_,⟨o,h1,h2,_⟩,_⟩:=I.tuple (SqT_same sm q);exact W.kia_one W.kitx_tuple I.kIn ⟨o,h1,h2⟩ e (fun z=>nomatch z) h
 | @lst a vs ds q rr=>
   cases (show z=Value.ref a from rx);obtain⟨its,_,⟨o,n,h1,h2,_⟩,_⟩:=I.list (.of (sm _ _ q));exact W.kia_one W.kitx_list I.kIn ⟨o,h1,h2⟩ e (fun z=>nomatch z) h
 | @scr a ns q=>
   cases (show z=Value.ref a from rx);obtain⟨its,_,⟨o,n,h1,h2,_⟩,_⟩:=I.list (sm.seq q);exact W.kia_one W.kitx_list I.kIn ⟨o,h1,h2⟩ e (fun z=>nomatch z) h
 | @dic a kvs kds q rr=>
   cases (show z=Value.ref a from rx);exact isinst_ok (x:=.ref a) I rfl (.dK (sm _ _ q)) e h
 | @obj a C dx fv fs q rr=>
   cases (show z=Value.ref a from rx);have t:TyC X.K C:=t;exact isinst_ok (x:=.ref a) I rfl (.ins (Rd_same sm q) t.cl t.ha t.hn t.htk t.hm) e h
 | ty n=>exact t.elim
 | cls C=>exact t.elim
 | @xo a C ph q hp=>
   cases (show z=Value.ref a from rx);have t:TyX X.K C:=t;have ok:ObjOk X.prog X.w H s.heap a (.ext ph):=I.hok a _ (sm _ _ q);exact W.kia_one (kitx_exc t) I.kIn (hp _ ok.1) e (fun z=>nomatch z) h
 | @dicF a ob kvs kds q rr=>
   cases (show z=Value.ref a from rx);obtain⟨_,_,vs,_,D⟩:=dk_rd (kvs:=kvs) I.hok (.inr (.inl ⟨ob,sm _ _ q⟩));exact W.kia_one W.kitx_dict I.kIn D.typeIs e (fun z=>nomatch z) h
 | @xof a C dx ph fv fs q hp g rr=>
   cases (show z=Value.ref a from rx);have t:TyX X.K C:=t;have ok:ObjOk X.prog X.w H s.heap a (.ext ph):=I.hok a _ (sm _ _ q);exact W.kia_one (kitx_exc t) I.kIn (hp _ ok.1).of e (fun z=>nomatch z) h
 | @dicK a tg ob kvs kds q rr=>
   cases (show z=Value.ref a from rx);obtain⟨_,_,vs,_,D⟩:=dk_rd (kvs:=kvs) I.hok (.inr (.inr (.inl ⟨tg,ob,kvs,sm _ _ q,rfl⟩)));exact W.kia_one W.kitx_dict I.kIn D.typeIs e (fun z=>nomatch z) h
 | memo=>exact t.elim
 | memoY=>exact t.elim
 | kep=>exact t.elim
 | dicT=>exact t.elim
 | kno=>exact t.elim
 | @gro a _ C dx fv fs gs nm n ls _ q rr=>
   cases (show z=Value.ref a from rx);have t:TyC X.K C:=t;exact isinst_ok (x:=.ref a) I rfl (.ins (Rd_same sm q) t.cl t.ha t.hn t.htk t.hm) e h
theorem boot_isinstance:bootBuiltins "isinstance"=some (.builtin "isinstance"):=by decide +kernel
def rIsi (K:W.Frag)(d d2:Dt)(r:Bool):List V->Hp->VK->Prop:=fun xs H Q=>∃ Hf w c,xs=[w,c]/\Same Hf H/\Rep K Hf w d/\Rep K Hf c d2/\Q (.bl r) H
theorem call_isi {r:Bool}{z:Value}(hc:clsV d2=some z)(t:TyOk X.K d)(h:W.kitOne X.K (tyD d) z=some r):CallR X (.builtin "isinstance") (rIsi X.K d d2 r):=by
 intro pins s st H xs us Q I rv zq;obtain⟨Hf,w,c,e,sm,r1,r2,q⟩:=zq;subst e;cases rv with
 | cons q1 t1=>
   cases t1 with
   | cons q2 t2=>
     cases t2;rename_i ud uc;have ez:uc=z:=by
       cases r2 with
       | ty n=>cases hc;exact q2
       | cls C=>cases hc;exact q2
       | _=>cases hc
     subst ez;exact isinst_D I sm r1 q1 t h fun tk=>⟨.bl r,H,I.tok _,rfl,q⟩
theorem ee_isi {r:Bool}{z:Value}(hm:X.mg "isinstance"=none)(ha:EE X G dl a d)(hb:EE X G dl b d2)(hc:clsV d2=some z)(t:TyOk X.K d)(h:W.kitOne X.K (tyD d) z=some r)(hg:autoParam (Gl X "isinstance") qc)(he:autoParam (starEach [a,b] X.env=(false,eval a X.env)::starEach [b] X.env) qc)(he2:autoParam (starEach [b] X.env=[(false,eval b X.env)]) qc)(hpl:autoParam ((backTo pos (starEach [b] X.env)).any (·.1)=false) qc):EE X G dl (.Call (.Name "isinstance" p) [a,b] [] pos) (.bl r):=
 peI (pe_callB (call_isi hc t h) hg hm boot_isinstance (ea_cons ha (ea_cons hb ea_nil he2) he) (by decide) (by decide) he hpl) fun st H Q zq=>zc zq fun Hf S k=>fun vs Hf1 H1 g1 r1=>by
   cases r1 with
   | cons r1 t1=>cases t1 with
     | cons r2 t2=>cases t2;exact⟨Hf1,_,_,rfl,g1.sub,r1,r2,k _ Hf1 H1 g1 (.bl _)⟩
mutual
noncomputable def pd:Dt->PyData
 | .non=>.none
 | .bl b=>.bool b
 | .int i=>.int i
 | .str x=>.str x
 | .tup ds=>.tuple (pds ds)
 | .lst ds=>.list (pds ds)
 | .scr _=>.none
 | .dic _=>.none
 | .obj _ _=>.none
 | .ty _=>.none
 | .cls _=>.none
 | .xo _=>.none
 | .dicF _=>.none
 | .xof _ _=>.none
 | .dicK _=>.none
 | .memo _ _ _ _=>.none
 | .memoY _ _ _ _=>.none
 | .kno _ _ _=>.none
 | .gro _ _ _ _ _=>.none
 | .kep _=>.none
 | .dicT _=>.none
noncomputable def pds:List Dt->List PyData
 | []=>[]
 | d::r=>pd d::pds r
end
mutual
noncomputable def plain:Dt->Bool
 | .tup ds=>plains ds
 | .lst ds=>plains ds
 | .scr _=>false
 | .dic _=>false
 | .obj _ _=>false
 | .ty _=>false
 | .cls _=>false
 | .xo _=>false
 | .dicF _=>false
 | .xof _ _=>false
 | .dicK _=>false
 | .memo _ _ _ _=>false
 | .memoY _ _ _ _=>false
 | .kno _ _ _=>false
 | .gro _ _ _ _ _=>false
 | .kep _=>false
 | .dicT _=>false
 | .non=>true
 | .bl _=>true
 | .int _=>true
 | .str _=>true
noncomputable def plains:List Dt->Bool
 | []=>true
 | d::r=>plain d && plains r
end
section
variable {pins:List (Addr×Obj)}{st:L2.St}{Hf H:Hp}{s:Shared}
theorem reads_of (I:L2.Inv X pins st H s)(sm:Same Hf H):∀ {w:V} {d:Dt} {z:Value},Rep X.K Hf w d->plain d=true->RelV w z->∃ as,Reads s.heap z (pd d) as:=@fun w d z zq=>@Rep.rec X.K Hf (fun w d _=>∀ z,plain d=true->RelV w z->∃ as,Reads s.heap z (pd d) as) (fun vs ds _=>∀ zs,plains ds=true->Vals vs zs->∃ as,ReadsAll s.heap zs (pds ds) as) (fun _ _ _=>True) (fun _ _ _=>True)
  (fun  z _ r=>by cases (show z=Value.none from r);exact⟨_,.none⟩)
  (fun b z _ r=>by cases (show z=Value.bool b from r);exact⟨_,.bool b⟩)
  (fun i z _ r=>by obtain⟨t,q⟩:=(show ∃ t,z=Value.int i t from r);cases q;exact⟨_,.int i t⟩)
  (fun x z _ r=>by obtain⟨t,q⟩:=(show ∃ t,z=Value.str x t from r);cases q;exact⟨_,.str x t⟩)
  (@fun a vs ds q rr zi z h r=>by
   cases (show z=Value.ref a from r);obtain⟨its,rv,⟨o,h1,h2,n,h3⟩,_⟩:=I.tuple (SqT_same sm q);obtain⟨as,ra⟩:=zi _ (by rw[plain] at h;exact h) rv;refine⟨as,?_⟩;rw[pd];exact .tuple h1 h2 h3 (by simpa using ra))
  (@fun a vs ds q rr zi z h r=>by
   cases (show z=Value.ref a from r);obtain⟨its,rv,⟨o,n,h1,h2,_,h3⟩,_⟩:=I.list (.of (sm _ _ q));obtain⟨as,ra⟩:=zi _ (by rw[plain] at h;exact h) rv;refine⟨a::as,?_⟩;rw[pd];exact .list h1 h2 h3 (by simpa using ra))
  (fun _ _ h _=>by rw[plain] at h;cases h)
  (fun _ _ zi _ h _=>by rw[plain] at h;cases h)
  (fun _ _ zi _ h _=>by rw[plain] at h;cases h)
  (fun _ _ h _=>by rw[plain] at h;cases h)
  (fun _ _ h _=>by rw[plain] at h;cases h)
  (fun _ _ _ h _=>by rw[plain] at h;cases h)
  (fun _ _ zi _ h _=>by rw[plain] at h;cases h)
  (fun _ _ _ _ zi _ h _=>by rw[plain] at h;cases h)
  (fun _ _ zi _ h _=>by rw[plain] at h;cases h)
  (fun _ _ _ _ _ h _=>by rw[plain] at h;cases h)
  (fun _ _ _ _ _ h _=>by rw[plain] at h;cases h)
  (fun _ _ h _=>by rw[plain] at h;cases h)
  (fun _ _ _ zi _ h _=>by rw[plain] at h;cases h)
  (fun _ _ h _=>by rw[plain] at h;cases h)
  (fun _ _ h _=>by rw[plain] at h;cases h)
  (fun _ _ w=>by cases w;exact⟨[],by rw[pds];exact .nil⟩) (fun r t zi zj _ h w=>by
   cases w with|cons q w=>rw[plains,bK] at h;obtain⟨as,h1⟩:=zi _ h.1 q;obtain⟨bs,h2⟩:=zj _ h.2 w;exact⟨as ++ bs,by rw[pds];exact .cons h1 h2⟩) ⟨⟩ (fun _ _ _ _=>⟨⟩) ⟨⟩ (fun _ _ _ _=>⟨⟩) _ _ zq z
theorem readss_of (I:L2.Inv X pins st H s)(sm:Same Hf H):∀ {vs:List V} {ds:List Dt} {zs:List Value},Reps X.K Hf vs ds->plains ds=true->Vals vs zs->∃ as,ReadsAll s.heap zs (pds ds) as:=by
 intro vs ds zs q h w;induction ds generalizing vs zs with
 | nil=>cases q;cases w;exact⟨[],by rw[pds];exact .nil⟩
 | cons _ _ ih=>cases q with|cons r t=>cases w with|cons q w=>rw[plains,bK] at h;obtain⟨as,h1⟩:=reads_of I sm r h.1 q;obtain⟨bs,h2⟩:=ih t h.2 w;exact⟨as ++ bs,by rw[pds];exact .cons h1 h2⟩
end
def okD (d:Dt):Prop:=plain d=true/\SeqAt.shaped (pd d)=true
def rEqD (K:PySem.W.Frag)(d1 d2:Dt)(g:Bool->Bool):R2:=fun x y H Q=>∃ Hf,Same Hf H/\Rep K Hf x d1/\Rep K Hf y d2/\okD d1/\okD d2/\Q (.bl (g (PyData.eqv (pd d1) (pd d2)))) H
theorem op_eqD (hu:X.A.units+64 < cLine):OpR X (compareOp .Eq) (rEqD X.K d1 d2 id):=by
 intro pins s st H x y v w Q I rx ry zq;obtain⟨Hf,sm,r1,r2,o1,o2,q⟩:=zq;obtain⟨as,h1⟩:=reads_of I sm r1 o1.1 rx;obtain⟨bs,h2⟩:=reads_of I sm r2 o2.1 ry;exact eq_dataH h1 h2 o1.2 o2.2 hu ⟨.bl _,H,I,rfl,q⟩
theorem op_neD (hu:X.A.units+64 < cLine):OpR X (compareOp .NotEq) (rEqD X.K d1 d2 (!·)):=by
 intro pins s st H x y v w Q I rx ry zq;obtain⟨Hf,sm,r1,r2,o1,o2,q⟩:=zq;obtain⟨as,h1⟩:=reads_of I sm r1 o1.1 rx;obtain⟨bs,h2⟩:=reads_of I sm r2 o2.1 ry;exact ne_dataH h1 h2 o1.2 o2.2 hu ⟨.bl _,H,I,rfl,q⟩
theorem r2_eqD {K:W.Frag}{g:Bool->Bool}(o1:okD d1)(o2:okD d2):R2D K (rEqD K d1 d2 g) d1 d2 (.bl (g (PyData.eqv (pd d1) (pd d2)))):=fun v w Hf H Q s r1 r2 k=>⟨Hf,s,r1,r2,o1,o2,k _ Hf H (.refl s) (.bl _)⟩
mutual
theorem eqv_refl:∀ d:Dt,plain d=true->PyData.eqv (pd d) (pd d)=true
 | .non,_=>by simp[pd,PyData.eqv]
 | .bl b,_=>by simp[pd,PyData.eqv]
 | .int i,_=>by simp[pd,PyData.eqv]
 | .str x,_=>by simp[pd,PyData.eqv]
 | .tup ds,h=>by rw[plain] at h;rw[pd,PyData.eqv];exact eqvs_refl ds h
 | .lst ds,h=>by rw[plain] at h;rw[pd,PyData.eqv];exact eqvs_refl ds h
 | .dic _,h=>by rw[plain] at h;cases h
 | .scr _,h=>by rw[plain] at h;cases h
 | .obj _ _,h=>by rw[plain] at h;cases h
 | .ty _,h=>by rw[plain] at h;cases h
 | .cls _,h=>by rw[plain] at h;cases h
 | .xo _,h=>by rw[plain] at h;cases h
 | .dicF _,h=>by rw[plain] at h;cases h
 | .xof _ _,h=>by rw[plain] at h;cases h
 | .dicK _,h=>by rw[plain] at h;cases h
 | .memo _ _ _ _,h=>by rw[plain] at h;cases h
 | .memoY _ _ _ _,h=>by rw[plain] at h;cases h
 | .kno _ _ _,h=>by rw[plain] at h;cases h
 | .gro _ _ _ _ _,h=>by rw[plain] at h;cases h
theorem eqvs_refl:∀ ds:List Dt,plains ds=true->PyData.eqvAll (pds ds) (pds ds)=true
 | [],_=>by simp[pds,PyData.eqvAll]
 | d::r,h=>by
   rw[plains,bK] at h;rw[pds,PyData.eqvAll,eqv_refl d h.1,eqvs_refl r h.2];rfl
end
theorem ee_eq (hr:X.A.units+64 < cLine)(ha:EE X G dl a d1)(hb:EE X G dl b d2)(o1:okD d1)(o2:okD d2)(hu:PyData.eqv (pd d1) (pd d2)=u):EE X G dl (.Compare a [.Eq] [b] pos) (.bl u):=by
 subst hu;exact ee_cmp (op_eqD hr) (r2_eqD (g:=id) o1 o2) (nomark _) ha hb
theorem eb_ne (hr:X.A.units+64 < cLine)(ha:EE X G dl a d1)(hb:EE X G dl b d2)(o1:okD d1)(o2:okD d2)(hu:(!PyData.eqv (pd d1) (pd d2))=u):EB X G dl (.Compare a [.NotEq] [b] pos) u:=by
 subst hu;exact eb_cmp (op_neD hr) (r2_eqD (g:=(!·)) o1 o2) (nomark _) ha hb
theorem eb_lt (ha:EE X G dl a (.int i))(hb:EE X G dl b (.int j)):EB X G dl (.Compare a [.Lt] [b] pos) (decide (i < j)):=eb_cmp op_lt (r2_I0 (g':=fun i j=>.bl (decide (i < j))) fun _ _ _ _=>.bl _) (nomark _) ha hb
theorem r2_eqS {K:W.Frag}{w1 w2:V}{g:Bool->Bool}(h1:∀ H w,Rep K H w d1->w=w1)(h2:∀ H w,Rep K H w d2->w=w2)(hs:scal w1 w2=true):R2D K (fun x y H Q=>scal x y=true/\Q (.bl (g (decide (x=y)))) H) d1 d2 (.bl (g (decide (w1=w2)))):=fun v w Hf H Q s r1 r2 k=>by
 cases h1 _ _ r1;cases h2 _ _ r2;exact⟨hs,k _ Hf H (.refl s) (.bl _)⟩
theorem dec_int (i j:Int):decide (V.int i=V.int j)=decide (i=j):=by simp
theorem dec_str (i j:Str):decide (V.str i=V.str j)=decide (i=j):=by simp
theorem ee_eqI (ha:EE X G dl a (.int i))(hb:EE X G dl b (.int j)):EE X G dl (.Compare a [.Eq] [b] pos) (.bl (decide (i=j))):=by
 rw[<- dec_int];exact ee_cmp op_eq (r2_eqS (g:=id) (fun _ _ r=>by cases r;rfl) (fun _ _ r=>by cases r;rfl) rfl) (nomark _) ha hb
theorem eb_eqI (ha:EE X G dl a (.int i))(hb:EE X G dl b (.int j)):EB X G dl (.Compare a [.Eq] [b] pos) (decide (i=j)):=by
 rw[<- dec_int];exact eb_cmp op_eq (r2_eqS (g:=id) (fun _ _ r=>by cases r;rfl) (fun _ _ r=>by cases r;rfl) rfl) (nomark _) ha hb
theorem eb_neI (ha:EE X G dl a (.int i))(hb:EE X G dl b (.int j)):EB X G dl (.Compare a [.NotEq] [b] pos) (!decide (i=j)):=by
 rw[<- dec_int];exact eb_cmp op_ne (r2_eqS (g:=(!·)) (fun _ _ r=>by cases r;rfl) (fun _ _ r=>by cases r;rfl) rfl) (nomark _) ha hb
end
structure GF (P:Program)(w:World)(K:W.Frag)(mg:Str->Option Value)(base:Heap)(CX:CXT)(k:Nat)(x:Str)(n:Nat)(R:List Dt->Res->Prop):Prop where
 ex:∃ f fd ps,FnOk P w K mg base CX k f fd ps (spR K n R)/\mg x=some (.ref f)/\W.keepIn K (.ref f)=true/\Binds K fd ps []
structure MF (P:Program)(w:World)(K:W.Frag)(mg:Str->Option Value)(base:Heap)(CX:CXT)(k:Nat)(C:Addr)(m:Str)(n:Nat)(R:List Dt->Res->Prop):Prop where
 cl:Cls K C
 ex:∃ f fd ps,FnOk P w K mg base CX k f fd ps (spR K n R)/\Meth K C m f/\Binds K fd ps []
section
variable {X:Cx}{G:Gr}{dl:List Slot}{e:Expr}{es:List Expr}{d:Dt}{ds:List Dt}{pos p apos:Pos}{x m:Str}{C:Addr}{fs:List (Str×Dt)}{CX:CXT}{k k' n:Nat}{R:List Dt->Res->Prop}{ob:Expr}
theorem ee_gf (F:GF X.prog X.w X.K X.mg X.base CX k x n R)(nx:NoX CX)(hr:Room k' X.A)(ha:EA X G dl (e::es) ds)(h:R ds (.ret d))(hkk:autoParam (k<=k') qd)(hl:autoParam (ds.length=n) qc)(hg:autoParam (Gl X x) qc)(hdb:autoParam ((x == ("__debug__":Str))=false) qd)(he:autoParam (starEach (e::es) X.env=(false,eval e X.env)::starEach es X.env) qc)(hpl:autoParam ((backTo pos (starEach es X.env)).any (·.1)=false) qc):EE X G dl (.Call (.Name x p) (e::es) [] pos) d:=by
 obtain⟨f,fd,ps,F,hm,hk,hb⟩:=F.ex;refine ee_call (dvs:=[]) (vds:=[]) F nx (hr.mono hkk) hm hk hb .nil (fun _=>.nil) ha (by rw[aU];exact hl) (by rw[aU];exact h) hg hdb he hpl
theorem ee_mf {pl:Sem Bool}(he:EE X G dl ob (.obj C fs))(F:MF X.prog X.w X.K X.mg X.base CX k C m n R)(nx:NoX CX)(hr:Room k' X.A)(ha:EA X G dl (e::es) ds)(h:R (.obj C fs::ds) (.ret d))(hkk:autoParam (k<=k') qd)(hl:autoParam ((Dt.obj C fs::ds).length=n) qc)(hno:autoParam (fs.lookup m=none) qc)
   (hst:autoParam (starEach (e::es) X.env=(false,eval e X.env)::starEach es X.env) qc) (hpl:autoParam ((backTo pos (starEach es X.env)).any (·.1)=false) qc)
   (ht:autoParam (eval (.Call (.Attribute ob m apos) (e::es) [] pos) X.env=(do
     let ov <- eval ob X.env
     standAt apos.atName
     let (f,first) <- holding [ov] (getMethod ov m pl)
     callWith pos f first (backTo pos (starEach (e::es) X.env)) (backToKw pos (keywordEach [] X.env)))) qc):EE X G dl (.Call (.Attribute ob m apos) (e::es) [] pos) d:=by
 obtain⟨f,fd,ps,Fo,hm,hb⟩:=F.ex;refine ee_meth (dvs:=[]) (vds:=[]) (pl:=pl) he F.cl hm Fo nx (hr.mono hkk) hb .nil (fun _=>.nil) ha (by rw[aU];exact hl) (by rw[aU];exact h) hno hst hpl ht
theorem ee_mf0 {pl:Sem Bool}(he:EE X G dl ob (.obj C fs))(F:MF X.prog X.w X.K X.mg X.base CX k C m n R)(nx:NoX CX)(hr:Room k' X.A)(h:R [.obj C fs] (.ret d))(hkk:autoParam (k<=k') qd)(hl:autoParam ([Dt.obj C fs].length=n) qc)(hno:autoParam (fs.lookup m=none) qc)
   (ht:autoParam (eval (.Call (.Attribute ob m apos) [] [] pos) X.env=(do
     let ov <- eval ob X.env
     standAt apos.atName
     let (f,first) <- holding [ov] (getMethod ov m pl)
     callWith pos f first (backTo pos (starEach [] X.env)) (backToKw pos (keywordEach [] X.env)))) qc):EE X G dl (.Call (.Attribute ob m apos) [] [] pos) d:=by
 obtain⟨f,fd,ps,Fo,hm,hb⟩:=F.ex;refine ee_meth0 (dvs:=[]) (vds:=[]) (pl:=pl) he F.cl hm Fo nx (hr.mono hkk) hb .nil (fun _=>.nil) hl h hno ht
end
noncomputable def bmV:List Value:=[.type "ValueError",.type "Exception",.type "BaseException",.type "object"]
structure ExC (K:W.Frag)(C:Addr):Prop where
 ex:W.excIn K C bmV "ValueError.__new__"=true
def nvr:Value->Shared->Prop:=fun _ _=>False
theorem lc_loop {P:Program}{w:World}{A:Around}{R:Result->Shared->Prop}{s:Shared}{elt tg iter:Expr}{sc:Scope}{pos:Pos}{it acc:Value}{env:Env}(J:Nat->Shared->Prop)
   (turn:∀ n s,J n s->wpAny (model P w) A (pyNext it) (fun r s1=>match r with
     | none=>R (.ok .next) s1
     | some v=>wpAny (model P w) A (letOwnedTupleGo tg it v) (fun _ s2=>wpAny (model P w) A (assign tg env v) (fun _ s3=>wpAny (model P w) A (eval elt env) (fun x s4=>
         wpAny (model P w) A (call (.builtin "list.append") [acc,x]) (fun _ s5=>∃ m,m < n/\J m s5) nvr s4) nvr s3) nvr s2) nvr s1) nvr s)
   (n:Nat) (h:J n s):codeAny (model P w) A (.compLoop (.ListComp elt [⟨tg,iter,[],0⟩] sc pos) 0 it acc env) R s:=by
 have off:∀ {B:Value->Shared->Prop} (x:Value) (s':Shared),nvr x s'->B x s':=fun _ _ z=>z.elim
 refine codeAny_loop rfl J (fun n s hJ=>?_) n h;show wpAny _ A ((compTurn (.ListComp elt [⟨tg,iter,[],0⟩] sc pos) 0 it acc env).onRaise (fun x=>(do noteFrame x env;theTreesLotGoes x))) _ _ s;refine wpAny_noted ?_;rw[compTurn_list1];refine wpAny_bind (wpAny_standAt (wpAny_bind (wpAny_mono (turn n s hJ) (fun r s1 h1=>?_) off)));cases r with
 | none=>exact wpAny_pure h1
 | some v=>
   refine wpAny_bind (wpAny_mono h1 (fun _ s2 h2=>wpAny_bind (wpAny_mono h2 (fun _ s3 h3=>wpAny_bind (wpAny_bind ?_)) off)) off);exact wpAny_mono h3 (fun x s4 h4=>wpAny_bind (wpAny_mono h4 (fun _ s5 h5=>wpAny_pure (wpAny_pure ⟨rfl,h5⟩)) off)) off
noncomputable def clGo (cells:List (Str×Addr)):List (Str×NameKind)->List (Str×Addr)->List (Str×Addr)
 | [],cs=>cs
 | (n,k)::r,cs=>if k == .free then clGo cells r ((n,(cells.lookup n).getD 0)::cs) else clGo cells r cs
noncomputable def clOf (sc:Scope)(env:Env):List (Str×Addr):=clGo env.cells sc.names []
theorem clGo_eq {env:Env}:∀ (l:List (Str×NameKind)) (cs:List (Str×Addr)),(∀ y∈l,y.2=.free->∃ c,env.cells.lookup y.1=some c) ->
   (forIn l cs fun(x:Str×NameKind) r=>(if x.2 == .free then (do let c <- cellOf env x.1;pure (ForInStep.yield ((x.1,c)::r))) else pure (ForInStep.yield r):Sem _))=pure (clGo env.cells l cs)
 | [],cs,_=>rfl
 | (n,k)::l,cs,h=>by
   have hr:∀ y∈l,y.2=.free->∃ c,env.cells.lookup y.1=some c:=fun y hy=>h y (aF _ hy)
   rw[List.forIn_cons,clGo];by_cases hk:(k == NameKind.free)=true
   . obtain⟨c,hc⟩:=h (n,k) aP (by simpa using hk)
     have hc:env.cells.lookup n=some c:=hc;simp only[hk,if_true,cellOf,hc,pure_bind,Option.getD_some];exact clGo_eq l _ hr
   . simp only[hk,if_false,pure_bind]
     exact clGo_eq l _ hr
theorem clos_eq {sc:Scope}{env:Env}(h:∀ y∈sc.names,y.2=.free->∃ c,env.cells.lookup y.1=some c):closureFor sc env=pure (clOf sc env):=by
 unfold closureFor clOf;have:=clGo_eq (env:=env) sc.names [] h;simp only[bind_pure];refine Eq.trans ?_ this
 congr 1
theorem clGo_in {cells:List (Str×Addr)}{y:Str}{c:Addr}:∀ (l:List (Str×NameKind)) (cs:List (Str×Addr)),(clGo cells l cs).lookup y=some c->((y,NameKind.free)∈l/\(cells.lookup y).getD 0=c)\/cs.lookup y=some c
 | [],cs,h=>.inr h
 | (n,k)::l,cs,h=>by
   rw[clGo] at h;by_cases hk:(k == NameKind.free)=true
   . rw[if_pos hk] at h
     have hk':k=.free:=by simpa using hk
     subst hk';rcases clGo_in l _ h with⟨h1,h2⟩ | h1
     . exact .inl ⟨aF _ h1,h2⟩
     . rw[bc] at h1
       cases q:(y == n) with
       | true=>
         rw[q] at h1;have e:y=n:=by simpa using q
         subst e;exact .inl ⟨aP,Option.some.inj h1⟩
       | false=>rw[q] at h1;exact .inr h1
   . rw[if_neg hk] at h
     rcases clGo_in l _ h with⟨h1,h2⟩ | h1
     . exact .inl ⟨aF _ h1,h2⟩
     . exact .inr h1
theorem clGo_has {cells:List (Str×Addr)}{y:Str}:∀ (l:List (Str×NameKind)) (cs:List (Str×Addr)),((y,NameKind.free)∈l\/∃ c,cs.lookup y=some c)->∃ c,(clGo cells l cs).lookup y=some c
 | [],cs,h=>by
   rcases h with h | h
   . cases h
   . exact h
 | (n,k)::l,cs,h=>by
   rw[clGo];by_cases hk:(k == NameKind.free)=true
   . rw[if_pos hk]
     refine clGo_has l _ ?_;rcases h with h | ⟨c,h⟩
     . rcases aK.mp h with h | h
       . cases h;exact .inr ⟨_,by rw[bc,show(y == y)=true by simp]⟩
       . exact .inl h
     . refine .inr ?_
       rw[bc];cases q:(y == n) with
       | true=>exact⟨_,rfl⟩
       | false=>exact⟨c,h⟩
   . rw[if_neg hk]
     refine clGo_has l _ ?_;rcases h with h | h
     . rcases aK.mp h with h | h
       . cases h;exact absurd rfl hk
       . exact .inl h
     . exact .inr h
theorem relab_kind {env:Env}{y:Str}{k:NameKind}:∀ {names:List (Str×NameKind)},(names.map fun(n,k)=>if (k == NameKind.free && env.scope.kind == .function && env.kindOf n == some .cell) then (n,NameKind.cell) else (n,k)).lookup y=some k->∃ k',(y,k')∈names/\(k=k'\/k'=.free)
 | [],h=>by simp at h
 | (n,kk)::r,h=>by
   rw[aL,bc] at h;by_cases hc:(kk == NameKind.free && env.scope.kind == .function && env.kindOf n == some .cell)=true
   . simp only[hc,if_true] at h
     cases q:(y == n) with
     | true=>
       have e:y=n:=by simpa using q
       subst e;have:kk=.free:=by
         have:=hc;simp at this;exact this.1.1
       exact⟨kk,aP,.inr this⟩
     | false=>
       rw[q] at h;obtain⟨k',h1,h2⟩:=relab_kind h;exact⟨k',aF _ h1,h2⟩
   . simp only[hc,ai,if_false] at h
     cases q:(y == n) with
     | true=>
       have e:y=n:=by simpa using q
       subst e;rw[q] at h;exact⟨kk,aP,.inl (Option.some.inj h).symm⟩
     | false=>
       rw[q] at h;obtain⟨k',h1,h2⟩:=relab_kind h;exact⟨k',aF _ h1,h2⟩
theorem relab_free {env:Env}{y:Str}:∀ {names:List (Str×NameKind)},names.lookup y=some .free->(names.map fun(n,k)=>if (k == NameKind.free && env.scope.kind == .function && env.kindOf n == some .cell) then (n,NameKind.cell) else (n,k)).lookup y=some .cell \/
   (names.map fun(n,k)=>if (k == NameKind.free && env.scope.kind == .function && env.kindOf n == some .cell) then (n,NameKind.cell) else (n,k)).lookup y=some .free
 | [],h=>by simp at h
 | (n,kk)::r,h=>by
   rw[aL,bc];rw[bc] at h;cases q:(y == n) with
   | true=>
     rw[q] at h;have:kk=.free:=Option.some.inj h;subst this;by_cases hc:(NameKind.free == NameKind.free && env.scope.kind == .function && env.kindOf n == some .cell)=true
     . left;simp only[hc,if_true];simp[q]
     . right;simp only[hc,ai,if_false];simp[q]
   | false=>
     rw[q] at h;have ih:=relab_free (env:=env) h;by_cases hc:(kk == NameKind.free && env.scope.kind == .function && env.kindOf n == some .cell)=true
     . simp only[hc,if_true,q];exact ih
     . simp only[hc,ai,if_false,q];exact ih
structure BlkScope (X:Cx)(N:List Str)(ix:List Nat)(x:Str)(sc:Scope):Prop where
 nd:N.Nodup
 nm:N=x::ix.map (fun j=>X.N.getD j "")
 kind:sc.kind=.function
 nocell:∀ y∈sc.names,y.2≠.cell
 names:∀ y∈sc.names,y.2=.local->sc.names.lookup y.1=some .local
 hx:sc.names.lookup x=some .local
 fr:∀ y∈sc.names,y.2=.free->X.env.kindOf y.1=some .cell\/X.env.kindOf y.1=some .free
 ixs:∀ j∈ix,∃ y,X.N[j]?=some y/\sc.names.lookup y=some .free
noncomputable def blkOf (X:Cx)(N:List Str)(sc:Scope)(C:Addr)(fp:List Addr)(s:Shared)(H:Hp):Cx:=
 { X with N:=N,s₀:=s,H₀:=H,env:=compEnvC sc (clOf sc X.env) C X.env,outer:=X.stack,stack:=X.stack,ex:=fp,fn:=fun _=>false,pn:=[],xe:=nvr}
noncomputable def frees (ix:List Nat)(st:L2.St):L2.St:=ix.map fun j=>(st[j]?).join
section
variable {X:Cx}{N:List Str}{ix:List Nat}{x:Str}{sc:Scope}{pins:List (Addr×Obj)}{st:L2.St}{H H':Hp}{s s':Shared}{C D:Addr}{fp:List Addr}{h1:Heap}
theorem clo_of (B:BlkScope X N ix x sc)(ok:X.Ok):closureFor sc X.env=pure (clOf sc X.env):=clos_eq fun y hy hk=>ok.has y.1 (B.fr y hy hk)
theorem cl_sub (B:BlkScope X N ix x sc)(ok:X.Ok){y:Str}{c:Addr}(h:(clOf sc X.env).lookup y=some c):X.env.cells.lookup y=some c/\(y,NameKind.free)∈sc.names:=by
 rcases clGo_in _ _ h with⟨h1,h2⟩ | h1
 . obtain⟨c',h3⟩:=ok.has y (B.fr _ h1 rfl)
   rw[h3] at h2;cases h2;exact⟨h3,h1⟩
 . cases h1
theorem blk_ok (B:BlkScope X N ix x sc)(I:L2.Inv X pins st H s)(hC:s.heap.objs.size<=C)(hf:∀ b∈fp,FpOk X pins H b)(hlt:∀ b∈fp,b < s.heap.objs.size):(blkOf X N sc C fp s H).Ok where
 mod:=I.ok.mod
 kind:=B.kind
 glob:=I.ok.glob
 blt:=I.ok.blt
 above:=hC
 inj:=fun y z c h1 h2=>I.ok.inj y z c (cl_sub B I.ok h1).1 (cl_sub B I.ok h2).1
 has:=fun y hy=>by
   have hy:(relabel sc X.env).names.lookup y=some .cell\/(relabel sc X.env).names.lookup y=some .free:=hy;have:(y,NameKind.free)∈sc.names:=by
     rcases hy with hy | hy
     . obtain⟨k',h1,h2⟩:=relab_kind hy
       rcases h2 with h2 | h2
       . subst h2;exact absurd rfl (B.nocell _ h1)
       . subst h2;exact h1
     . obtain⟨k',h1,h2⟩:=relab_kind hy
       rcases h2 with h2 | h2 <;> subst h2 <;> exact h1
   exact clGo_has _ _ (.inl this)
 cab:=fun y c h=>by cases h
 hd:=I.ok.hd
 frames:=I.ok.frames
 stk:=.inl rfl
 exf:=fun b hb=>⟨au (ay (hlt b hb) hC),fun y c h=>(hf b hb).2.2.2.2.1 y c (cl_sub B I.ok h).1⟩
 bs:=I.bs
 bsz:=aO I.ok.bsz I.sz
 noex:=fun b o e hb=>by
   rcases (hf b hb).2.2.2.1 with z | z
   . exact I.ok.noex b o e z
   . exact absurd (ay (ah e) (aO I.ok.bsz z)) (bu _)
 exfs:=fun b hb z=>by
   rcases aK.mp (I.stkSub b z) with z | z
   . exact(hf b hb).2.1 z
   . exact(hf b hb).2.2.1 z
 funs:=I.stack
 frf:=I.stkFree
theorem blk_start (B:BlkScope X N ix x sc)(I:L2.Inv X pins st H s)(hf:∀ b∈fp,FpOk X pins H b)(hlt:∀ b∈fp,b < s.heap.objs.size)(hC:C=s.heap.objs.size+1)(k:∀ b o,s.heap.get? b=some o->h1.get? b=some o)(hn:h1.Ns C fun _=>none)(hD:h1.get? s.heap.objs.size=some { cls:=.type "list",data:=.seq ([]:List Value).toArray 0}){t':Nat}:L2.Inv (blkOf X N sc C fp s H) [] (none::frees ix st) (upd H s.heap.objs.size (.lst [])) { s with heap:=h1,toks:=t'}:=by
 have hC':s.heap.objs.size<=C:=by rw[hC];exact b6 _
 have fr:∀ a,s.heap.objs.size<=a->H a=none:=fun a ha=>I.hok.fresh ha
 have ok:=blk_ok B I hC' hf hlt;have cne:∀ y c,(clOf sc X.env).lookup y=some c->H c=none/\c < s.heap.objs.size/\∃ v,s.heap.IsCell c v:=fun y c h=>by
   have h:=(cl_sub B I.ok h).1;obtain⟨v,q⟩:=I.cell y c h;exact⟨I.freeC y c h,q.lt,v,q⟩
 refine⟨ok,rfl,I.bare,Un.laid k (ag _) (fr _ (ag _)),⟨_,hn,fun i y v e1 e2 e3=>?_⟩,fun y c h=>?_,?_,fun y c h=>?_,fun p hp=>absurd (show p∈([]:List (Addr×Obj)) from hp) (by simp),?_,?_⟩
 . have e1:N[i]?=some y:=e1
   cases i with
   | zero=>cases e2
   | succ i=>
     rw[B.nm,aW,av] at e1;rw[aW] at e2;unfold frees at e2;rw[av] at e2;cases q:ix[i]? with
     | none=>rw[q] at e1;cases e1
     | some j=>
       rw[q] at e1 e2;obtain⟨y',hy1,hyl⟩:=B.ixs j (bE q);have hy2:=PySem.mem_of_lookup hyl;have ey:y=y':=by
         have e1:X.N.getD j ""=y:=Option.some.inj e1;rw[af,hy1] at e1;exact e1.symm
       subst ey;have e2:(st[j]?).join=some v:=Option.some.inj e2;have e2':st[j]?=some (some v):=by
         cases q2:st[j]? with
         | none=>rw[q2] at e2;cases e2
         | some z=>rw[q2] at e2;rw[show z=some v from e2]
       have kd:=B.fr _ hy2 rfl;have vis:Vis X.env.scope y:=by
         rcases kd with z | z
         . exact .inr (.inl z)
         . exact .inr (.inr z)
       obtain⟨m,_,hl⟩:=I.loc;obtain⟨u,r,l⟩:=hl j y v hy1 e2' vis;refine⟨u,r,.inr ?_⟩;rcases l with⟨z,_⟩ | ⟨_,c,hc,ic⟩
       . rcases kd with z' | z' <;> rw[z] at z' <;> cases z'
       . obtain⟨c',hc'⟩:=clGo_has (cells:=X.env.cells) sc.names [] (.inl hy2)
         have:=(cl_sub B I.ok hc').1;rw[hc] at this;cases this;obtain⟨oc,hoc,hd⟩:=ic;refine⟨?_,c,hc',oc,k _ _ hoc,hd⟩;rcases e3 with e3 | e3 | e3
         . have e3:(relabel sc X.env).names.lookup y=some .local:=e3
           rcases relab_free (env:=X.env) hyl with z | z
           . exact absurd (e3.symm.trans z) (by decide)
           . exact absurd (e3.symm.trans z) (by decide)
         . exact .inl e3
         . exact .inr e3
 . obtain⟨_,_,v,oc,hoc,hd⟩:=cne y c h
   exact⟨v,oc,k _ _ hoc,hd⟩
 . show upd H s.heap.objs.size (.lst []) C=none
   rw[upd_ne (by rw[hC];exact Nat.succ_ne_self _)];exact fr _ hC'
 . show upd H s.heap.objs.size (.lst []) c=none
   obtain⟨q1,q2,_⟩:=cne y c h;rw[upd_ne (au q2)];exact q1
 . exact I.hok.laid k (ag _) ⟨aJ _,[],0,.nil,hD⟩
 . show(none::frees ix st).length=N.length
   rw[B.nm];unfold frees;simp
def tBlk (te:TE)(fs:L2.St)(J:It)(D:Addr)(Q:List V->Hp->Prop)(H:Hp):Prop:=
 ∃ W:Nat->Nat->List V->Hp->Prop,(∃ m,W 0 m [] (upd H D (.lst [])))/\∀ i m ys H1,W i m ys H1 ->
   (J.stop i H1/\Q ys H1)\/(J.go i H1/\ys.length < sizeLine/\∀ v H2,J.yld i H1 v H2->te (some v::fs) H2 fun y H3=>H3 D=some (.lst ys)/\∃ m',m' < m/\W (i+1) m' (ys ++ [y]) (upd H3 D (.lst (ys ++ [y]))))
theorem lc_core {elt iter:Expr}{px pos:Pos}{te:TE}{J:It}{it:Addr}{tn:Nat->Heap->Prop}{Q:Addr->List V->Hp->Prop}{RR:Value->Addr->Result->Shared->Prop}{E:Value->Shared->Prop}(hc:X.calm=true)(B:BlkScope X N ix x sc)(helt:∀ C fp s H,PE (blkOf X N sc C fp s H) elt te)(I:L2.Inv X pins st H s)(T:Turn X.prog X.w X.K (.Name x px) J fp it tn)(h0:tn 0 s.heap)(hf:∀ b∈fp,FpOk X pins H b)(hq:∀ D,H D=none->tBlk te (frees ix st) J D (Q D) H)(hRR:∀ D C ys H' s',L2.Inv X pins st H' s'->(∃ m,s'.heap.Ns C m)->FpOk X pins H' C->Q D ys H'->RR (.ref D) C (.ok .next) s'):wpAny (model X.prog X.w) X.A (newList []) (fun acc s3=>wpAny (model X.prog X.w) X.A (newFunctionEnv sc X.env.globals (clOf sc X.env) [] X.env.qual none .none (some X.env)) (fun cenv s4=>codeAny (model X.prog X.w) X.A (.compStart (.ListComp elt [⟨.Name x px,iter,[],0⟩] sc pos) 0 (.ref it) acc { cenv with scope:=relabel sc X.env}) (RR acc cenv.locals) s4) E s3) E s:=by
 have hlt:∀ b∈fp,b < s.heap.objs.size:=fun b hb=>by
   obtain⟨o,e,_⟩:=T.obj _ _ h0 b hb;exact ah e
 refine wpAny_newObj_type (wpAny_newFunctionEnv B.nocell (fun y hy=>absurd hy (by simp)) (fun h1 hns hsb=>?_) B.kind);dsimp only at hns hsb ⊢;generalize hG:s.heap.push { cls:=.type "list",dict:=none,data:=.seq ([]:List Value).toArray}=g at hns hsb ⊢;have hC:g.objs.size=s.heap.objs.size+1:=by rw[<- hG,bD]
 have hDC:s.heap.objs.size≠g.objs.size:=by rw[hC];exact au (bI _)
 have old:∀ b o,s.heap.get? b=some o->h1.get? b=some o:=fun b o e=>
   hsb.extBut b o (by rw[hC];exact au (a9 (ah e))) (aa _ (hG ▸ aa _ e))
 have hacc:h1.get? s.heap.objs.size=some { cls:=.type "list",data:=.seq ([]:List Value).toArray 0}:=hsb.extBut _ _ hDC (aa _ (hG ▸ ax _ rfl));have hD:H s.heap.objs.size=none:=I.hok.fresh (ag _);obtain⟨W,⟨m0,w0⟩,turn⟩:=hq _ hD;have I0:=blk_start (t':=s.toks+([]:List (Str×Value)).length) B I hf hlt hC old (by simpa using hns) hacc;have st0:tn 0 h1:=T.keep _ _ _ h0 fun b _ o e=>old b o e
 have hCle:s.heap.objs.size<=g.objs.size:=by rw[hC];exact b6 _
 have stat:∀ {H':Hp},(∀ b∈fp,H' b=none)->∀ b∈fp,FpOk (blkOf X N sc g.objs.size fp s H) [] H' b:=fun {H'} hn b hb=>
   ⟨hn b hb,((blk_ok B I hCle hf hlt).exf b hb).1,(blk_ok B I hCle hf hlt).exfs b hb,.inl hb,((blk_ok B I hCle hf hlt).exf b hb).2,fun p hp=>absurd (show p∈([]:List (Addr×Obj)) from hp) (by simp)⟩
 have hN:(blkOf X N sc g.objs.size fp s H).N[0]?=some x:=by
   show N[0]?=some x;rw[B.nm];rfl
 have hxl:(blkOf X N sc g.objs.size fp s H).env.scope.names.lookup x=some .local:=lookup_relabel_local B.hx;have loop:∀ s3:Shared,s3={ s with heap:=h1,toks:=s.toks+([]:List (Str×Value)).length} ->
     codeAny (model X.prog X.w) X.A (.compLoop (.ListComp elt [⟨.Name x px,iter,[],0⟩] sc pos) 0 (.ref it) (.ref s.heap.objs.size) (compEnvC sc (clOf sc X.env) g.objs.size X.env)) (RR (.ref s.heap.objs.size) g.objs.size) s3:=by
   rintro s3 rfl
   refine lc_loop (fun n s'=>∃ i ys σ H',L2.Inv (blkOf X N sc g.objs.size fp s H) [] (σ::frees ix st) H' s'/\tn i s'.heap/\(∀ b∈fp,H' b=none)/\W i n ys H') ?_ m0
     ⟨0,[],none,_,I0,st0,fun b hb=>?_,w0⟩
   . rintro n s5 ⟨i,ys,σ,H5,I5,st5,fr5,w5⟩
     rcases turn i n ys H5 w5 with⟨stop,qn⟩ | ⟨go,hz,step⟩
     . refine thn (T.done (blkOf X N sc g.objs.size fp s H) rfl rfl rfl hc i [] s5 _ H5 nvr I5 (stat fr5) st5 stop) fun r s6 ⟨hr,I6⟩=>?_
       subst hr;refine hRR _ _ ys H5 s6 ?_ ?_ (I.fpOk hCle I6.free) qn
       . exact I.call' I6.os I6.base I6.hok I6.bare fun b hb=>⟨(hf b hb).2.2.2.1,(hf b hb).2.1,(hf b hb).2.2.2.2.1,(hf b hb).2.2.2.2.2⟩
       . obtain⟨m,hm,_⟩:=I6.loc
         exact⟨m,hm⟩
     . refine thn (T.item (blkOf X N sc g.objs.size fp s H) rfl rfl rfl hc i [] s5 _ H5 nvr I5 (stat fr5) st5 go) fun r s6 ⟨u,hr,h6⟩=>?_
       subst hr;refine thn h6 fun _ s7 zq=>?_;obtain⟨v,H7,I7,r7,y7,st7,fr7⟩:=zq
       have I7':=I7.pinned (stat fr7) (T.obj _ _ st7);refine thn (pg_name (X:=blkOf X N sc g.objs.size fp s H) (pos:=px) B.nd hN (.inl hxl) (.inr hxl) _ s7 _ H7 v u (fun σ' H'=>σ'=some v::frees ix st/\H'=H7) I7' r7 ⟨rfl,rfl⟩) fun _ s8 h8=>?_
       obtain⟨σ8,H8,I8,rfl,rfl⟩:=h8;refine thn (helt g.objs.size fp s H _ s8 _ H8 _ I8 (step v H8 y7)) fun z s9 zq=>?_;obtain⟨y,H9,I9,r9,hD9,m',hm,w9⟩:=zq
       refine thn (mt_append _ s9 _ H9 (.ref s.heap.objs.size) [y] (.ref s.heap.objs.size) [z] (fun _ H'=>H'=upd H9 s.heap.objs.size (.lst (ys ++ [y]))) I9 rfl (.cons r9 .nil) ⟨_,ys,y,rfl,rfl,hD9,hz,rfl⟩) fun _ s10 h10=>?_
       obtain⟨_,H10,I10,_,rfl⟩:=h10;refine⟨m',hm,i+1,ys ++ [y],some v,_,I10.unpinned (pins:=[]),T.keep _ _ _ st7 fun b hb o e=>(I10.pin (b,o) (aA _ (aA _ (mem_pinsAt hb e)))).1,fun b hb=>?_,w9⟩;obtain⟨o,e,d⟩:=T.obj _ _ st7 b hb;exact(I10.pin (b,o) (aA _ (aA _ (mem_pinsAt hb e)))).2.1
   . rw[upd_ne (au (hlt b hb))]
     exact(hf b hb).1
 exact codeAny_compStart_list (loop _ rfl) (T.self _ 0 _ _ _ st0 (loop _ rfl))
end
def tDO (K:PySem.W.Frag)(G:Gr)(dl:List Slot)(o:Own):TE:=fun st H Q=>∃ Hf,Stt K G st Hf H dl/\∀ p Hf' H',Grow Hf H Hf' H'->H p=none->Hf' p=none->OwnAt K Hf' H' p o->Q (.ref p) H'
abbrev EO (X:Cx)(G:Gr)(dl:List Slot)(e:Expr)(o:Own):Prop:=PE X e (tDO X.K G dl o)
noncomputable def dtO:Own->Dt
 | .lst ds=>.lst ds
 | .dic k=>.dic k
 | .obj C fs=>.obj C fs
 | .slf _ C fs=>.obj C fs
 | .objG C fs gs nm n=>.gro C fs gs nm n
 | .slfG _ C fs gs nm n=>.gro C fs gs nm n
 | .dicT k=>.dicT k
section
variable {K:W.Frag}{G:Gr}{st:L2.St}{Hf H Hf' H':Hp}{dl:List Slot}{p:Addr}{w:Own}{u:HO}
theorem frz_grow (g:Grow Hf H Hf' H')(n:H p=none)(n':Hf' p=none)(e:H' p=some u):Grow Hf H (upd Hf' p u) H':=
 ⟨g.big,g.frz.trans (same_upd n'),fun b o h=>by
   by_cases hb:b=p
   . subst hb;rw[upd_same] at h;cases h;exact e
   . rw[upd_ne hb] at h;exact g.sub _ _ h,fun a o h=>by
   by_cases hb:a=p
   . subst hb;exact .inr (.inl n)
   . rw[upd_ne hb] at h;exact g.new a o h⟩
theorem own_rep (r:OwnAt K Hf H p w)(n:Hf p=none):∃ u,H p=some u/\Rep K (upd Hf p u) (.ref p) (dtO w):=by
 cases w with
 | lst ds=>obtain⟨vs,h,r⟩:=r;exact⟨_,h,.lst upd_same (r.mono (same_upd n))⟩
 | dic ds=>obtain⟨vs,h,r⟩:=r;exact⟨_,h,.dic upd_same (r.mono (same_upd n))⟩
 | obj C ds=>obtain⟨dx,fs,h,r⟩:=r;exact⟨_,h,.obj (.of upd_same) (r.mono (same_upd n))⟩
 | slf x C ds=>obtain⟨_,dx,fs,h,r⟩:=r;exact⟨_,h,.obj (.of upd_same) (r.mono (same_upd n))⟩
 | objG C ds gs nm k=>obtain⟨dx,fs,b,ls,q,h,r⟩:=r;exact⟨_,h,.gro q (.of upd_same) (r.mono (same_upd n))⟩
 | slfG x C ds gs nm k=>obtain⟨_,dx,fs,b,ls,q,h,r⟩:=r;exact⟨_,h,.gro q (.of upd_same) (r.mono (same_upd n))⟩
 | dicT ks=>exact⟨_,r,.dicT upd_same⟩
theorem Stt.setN (S:Stt K G st Hf H dl)(g:Grow Hf H Hf' H'){i:Nat}(n:H p=none)(n':Hf' p=none)(r:OwnAt K Hf' H' p w):Stt K G (st.set i (some (.ref p))) Hf' H' (dl.set i (.own w)):=by
 have ln:=S.len;have S':=S.grow g;have pn:∀ (j:Nat) (o':Own) (a:Addr),dl[j]?=some (Slot.own o')->st[j]?=some (some (V.ref a))->a≠p:=fun j o' a h1 h2=>by
   obtain⟨b,q1,_,_,q4⟩:=S.own j o' h1;rw[h2] at q1;cases q1;obtain⟨u,hu⟩:=q4.some;exact ne_of_none hu n
 refine⟨S'.gr,by simp[S.len],fun j x h=>?_,fun j o' h=>?_,fun j k o1 o2 a h1 h2 h3 h4=>?_⟩
 . by_cases e:i=j
   . subst e
     by_cases hl:i < dl.length
     . rw[ao hl] at h;cases h
     . rw[aE (by simp;omega)] at h;cases h
   . rw[ar e] at h ⊢;exact S'.val j x h
 . by_cases e:i=j
   . subst e
     by_cases hl:i < dl.length
     . rw[ao hl] at h;cases h
       exact⟨p,ao (by omega),n',S.gr.big.free n,r⟩
     . rw[aE (by simp;omega)] at h;cases h
   . rw[ar e] at h ⊢
     exact S'.own j o' h
 . by_cases ej:i=j
   . by_cases ek:i=k
     . omega
     . subst ej
       rw[ar ek] at h2 h4;by_cases hl:i < st.length
       . rw[ao hl] at h3;cases h3
         exact absurd rfl (pn k o2 _ h2 h4)
       . rw[aE (by simp;omega)] at h3;cases h3
   . rw[ar ej] at h1 h3
     by_cases ek:i=k
     . subst ek
       by_cases hl:i < st.length
       . rw[ao hl] at h4;cases h4
         exact absurd rfl (pn j o1 _ h1 h3)
       . rw[aE (by simp;omega)] at h4;cases h4
     . rw[ar ek] at h2 h4
       exact S.dis j k o1 o2 a h1 h2 h3 h4
theorem Stt.frz (S:Stt K G st Hf H dl){i:Nat}(hd:dl[i]?=some (.own w)):∃ Hf',Same Hf Hf'/\Stt K G st Hf' H (dl.set i (.val (dtO w))):=by
 have ln:=S.len;obtain⟨p,h1,h2,h3,h4⟩:=S.own i w hd;obtain⟨u,hu,rp⟩:=own_rep h4 h2;have hl:i < dl.length:=(aC.mp hd).1;have sm:Same Hf (upd Hf p u):=same_upd h2;refine⟨upd Hf p u,sm,⟨S.gr.big,S.gr.frz.trans sm,fun b o h=>?_,fun a o h=>?_⟩,by simp[S.len],fun j x h=>?_,fun j o' h=>?_,fun j k o1 o2 a q1 q2 q3 q4=>?_⟩
 . by_cases hb:b=p
   . subst hb;rw[upd_same] at h;cases h;exact hu
   . rw[upd_ne hb] at h;exact S.gr.sub _ _ h
 . by_cases hb:a=p
   . subst hb;exact .inr (.inl h3)
   . rw[upd_ne hb] at h;exact S.gr.new a o h
 . by_cases e:i=j
   . subst e
     rw[ao hl] at h;cases h;exact⟨_,h1,rp⟩
   . rw[ar e] at h
     obtain⟨v,z1,z2⟩:=S.val j x h;exact⟨v,z1,z2.mono sm⟩
 . by_cases e:i=j
   . subst e;rw[ao hl] at h;cases h
   . rw[ar e] at h
     obtain⟨a,z1,z2,z3,z4⟩:=S.own j o' h;have ne:a≠p:=fun q=>by subst q;exact e (S.dis i j _ _ _ hd h h1 z1)
     exact⟨a,z1,by rw[upd_ne ne];exact z2,z3,z4.grow rfl sm⟩
 . have tr:∀ (j:Nat) o',(dl.set i (.val (dtO w)))[j]?=some (.own o')->dl[j]?=some (.own o'):=fun j o' h=>by
     by_cases e:i=j
     . subst e;rw[ao hl] at h;cases h
     . rw[ar e] at h;exact h
   exact S.dis j k _ _ a (tr _ _ q1) (tr _ _ q2) q3 q4
end
section
variable {X:Cx}{G:Gr}{E:XK}{dl:List Slot}{a e:Expr}{i:Int}{ds:List Dt}{pos p:Pos}{o:Out}{x:Str}{u:Bool}{sts:List Stmt}{w:Own}
theorem ee_o (h:EO X G dl e w):EE X G dl e (dtO w):=peI h fun st H Q zq=>zc zq fun Hf S k=>fun p Hf' H' g n n' r=>by
 obtain⟨u,hu,rp⟩:=own_rep r n';exact k _ _ H' (frz_grow g n n' hu) rp
theorem ee_ol (h:EO X G dl e (.lst ds)):EE X G dl e (.lst ds):=ee_o h
theorem eo_to {w':Own}(h:EO X G dl e w)(q:w=w'):EO X G dl e w':=by subst q;exact h
theorem es_setO (n:Nat){x:Str}{pos':Pos}(hN:X.N.Nodup)(he:EO X G dl e w)(hi:autoParam (X.N[n]?=some x) qc)(hx:autoParam (Loc X.env.scope x) qg)(hs:autoParam (swapsWith e (some (.Name x pos')) pos.line X.env=pure false) qc)(hf:autoParam (X.fn x=true\/X.env.scope.names.lookup x=some .local) qe):ES X G E dl (.Assign [.Name x pos'] e pos) (.nx (dl.set n (.own w))):=
 psI (ps_set hN hi hx he hs hf) fun D st H zq=>zc zq fun Hf S k=>fun p Hf1 H1 g1 n1 n2 r1=>k _ Hf1 H1 g1.frz (S.setN g1 n1 n2 r1)
theorem es_retO (h:EO X G dl e w):ES X G E dl (.Return (some e) pos) (.ro w):=psI (ps_ret h) fun D st H zq=>zc zq fun Hf S k=>fun p Hf1 H1 g1 n1 n2 r1=>k p Hf1 H1 (S.gr.trans g1) (S.gr.big.free n1) n2 r1
theorem es_frz (i:Nat)(h:ESs X G E (dl.set i (.val (dtO w))) sts o)(hd:autoParam (dl[i]?=some (.own w)) qc):ESs X G E dl sts o:=pssI h fun D st H zq=>aj zq fun Hf zq=>have S:=zq.1;have k:=zq.2;by
 obtain⟨Hf',sm,S'⟩:=S.frz hd;exact⟨Hf',S',k.mono sm⟩
def tOv (K:W.Frag)(G:Gr)(dl:List Slot)(n:Nat)(w:Own):TE:=fun st H Q=>∃ Hf a,Stt K G st Hf H dl/\st[n]?=some (some (.ref a))/\Hf a=none/\OwnAt K Hf H a w/\Q (.ref a) H
theorem pe_ov (n:Nat)(hd:dl[n]?=some (.own w))(hN:X.N[n]?=some x)(hv:Vis X.env.scope x)(hb:(x == ("__debug__":Str))=false)(hcd:(x == ("__classdict__":Str))=false):PE X (.Name x p) (tOv X.K G dl n w):=
 peI (pe_var hN hv hb hcd) fun st H Q ⟨Hf,a,S,h1,_,_,q⟩=>⟨_,h1,q⟩
end
section
variable {X:Cx}{G:Gr}{E:XK}{dl:List Slot}{a b e:Expr}{es:List Expr}{i j:Int}{d:Dt}{ds:List Dt}{pos p apos cpos:Pos}{x:Str}
theorem eo_lst (h:EA X G dl es ds)(hl:autoParam (ds.length<=sizeLine) qd):EO X G dl (.List es pos) (.lst ds):=
 peI (pe_lst h) fun st H Q zq=>zc zq fun Hf S k=>fun vs Hf1 H1 g1 r1=>⟨by rw[r1.length];exact hl,fun p hp=>k p Hf1 _ (g1.trans (.allocO g1.sub hp)) (g1.big.free hp) (g1.sub.free hp) ⟨vs,upd_same,r1⟩⟩
theorem eo_list (hm:X.mg "list"=none)(ha:EE X G dl a (.lst ds))(hg:autoParam (Gl X "list") qc)(he:autoParam (starEach [a] X.env=[(false,eval a X.env)]) qc):EO X G dl (.Call (.Name "list" p) [a] [] pos) (.lst ds):=
 peI (pe_callTy call_list_of hg hm boot_list (ea_cons ha ea_nil he) (he:=he)) fun st H Q zq=>zc zq fun Hf S k=>fun vs Hf1 H1 g1 r1=>by
   cases r1 with
   | cons r t=>cases t;cases r with
     | @lst q vs _ z r=>exact⟨q,vs,rfl,.inl (.of (g1.sub _ _ z)),fun l hl=>k l Hf1 _ (g1.trans (.allocO g1.sub hl)) (g1.big.free hl) (g1.sub.free hl) ⟨vs,upd_same,r⟩⟩
theorem boot_minG:bootBuiltins "min"=some (.builtin "min"):=by decide +kernel
theorem ee_min (hm:X.mg "min"=none)(hc:X.calm=true)(ha:EA X G dl [a,b] [.int i,.int j])(hg:autoParam (Gl X "min") qc)(he:autoParam (starEach [a,b] X.env=(false,eval a X.env)::starEach [b] X.env) qc)(hpl:autoParam ((backTo pos (starEach [b] X.env)).any (·.1)=false) qc) :
   EE X G dl (.Call (.Name "min" p) [a,b] [] pos) (.int (if j < i then j else i)):=
 peI (pe_callB (call_min2 hc) hg hm boot_minG ha (by decide) (by decide) he hpl) fun st H Q zq=>zc zq fun Hf S k=>fun vs Hf1 H1 g1 r1=>by
   cases r1 with
   | cons r1 t1=>cases t1 with
     | cons r2 t2=>cases t2;cases r1;cases r2;exact⟨i,j,rfl,k _ Hf1 H1 g1 (.int _)⟩
theorem es_append (n:Nat){pn:Pos}(he:EE X G dl e d)(hl:ds.length < sizeLine)(hd:autoParam (dl[n]?=some (.own (.lst ds))) qc)(hN:autoParam (X.N[n]?=some x) qc)(hv:autoParam (Vis X.env.scope x) qj)
   (hdb:autoParam ((x == ("__debug__":Str))=false) qd) (hcd:autoParam ((x == ("__classdict__":Str))=false) qd)
   (hbase:autoParam (attributeBase (.Name x pn) "append" X.env (eval (.Name x pn) X.env)=eval (.Name x pn) X.env) qc)
   (hfew:autoParam (((backTo cpos (starEach [e] X.env)).all (fun x=>!x.1) && (backToKw cpos (keywordEach [] X.env)).all (fun x=>x.1.isSome) && decide ([e].length+([]:List Keyword).length+(if ([]:List Keyword).isEmpty then 0 else 1) < 30))=true) qc)
   (hline:autoParam ((apos.endLine == cpos.line)=true) qc) (hst:autoParam (starEach [e] X.env=(false,eval e X.env)::starEach [] X.env) qc) (hs:autoParam (swapsWith (.Call (.Attribute (.Name x pn) "append" apos) [e] [] cpos) none pos.line X.env=pure false) qc) :
   ES X G E dl (.Expr (.Call (.Attribute (.Name x pn) "append" apos) [e] [] cpos) pos) (.nx (dl.set n (.own (.lst (ds ++ [d]))))):=
 psI (ps_expr (pe_bm PySem.F.plainAttrs_list PySem.F.slot_list_append PySem.F.type_list_append mt_append (pe_ov (p:=pn) n hd hN hv hdb hcd) (ea_cons he ea_nil hst) hbase hfew hline hst rfl) hs) fun D st H zq=>aj zq fun Hf zq=>have S:=zq.1;have k:=zq.2;by
   obtain⟨q,z1,z2,z3,vs,hq,rp⟩:=S.own n _ hd;refine⟨Hf,q,S,z1,z2,⟨vs,hq,rp⟩,.inl ⟨rfl,vs,.of hq⟩,Hf,S,fun us Hf1 H1 g1 r1=>?_⟩;cases r1 with
   | cons r1 t1=>
     cases t1;refine⟨q,vs,_,rfl,rfl,g1.big _ _ hq,by rw[rp.length];exact hl,?_⟩;exact k st Hf1 _ g1.frz ((S.grow g1).updO hd z1 ⟨_,upd_same,(rp.mono g1.frz).append (.cons r1 .nil)⟩)
end
noncomputable def valSl:Option Slot->Slot
 | some (.val d)=>.val d
 | _=>.unk
theorem valSl_own {o:Option Slot}{w:Own}(h:valSl o=.own w):False:=by
 unfold valSl at h
 split at h <;> cases h
theorem valSl_val {o:Option Slot}{d:Dt}(h:valSl o=.val d):o=some (.val d):=by
 unfold valSl at h
 split at h
 . cases h;rfl
 . cases h
noncomputable def blkSl (dl:List Slot)(ix:List Nat):List Slot:=ix.map fun j=>valSl dl[j]?
section
variable {K:W.Frag}{G:Gr}{st:L2.St}{Hf H Hf1 H1:Hp}{dl:List Slot}{ix:List Nat}
theorem blk_stt (S:Stt K G st Hf H dl)(s1:Same Hf Hf1)(sb:Same Hf1 H1){v:V}{d:Dt}(r:Rep K Hf1 v d):Stt K ⟨Hf1,H1⟩ (some v::frees ix st) Hf1 H1 (.val d::blkSl dl ix):=by
 have no:∀ (i:Nat) o,(Slot.val d::blkSl dl ix)[i]?≠some (.own o):=fun i o h=>by
   cases i with
   | zero=>cases h
   | succ i=>
     rw[aW] at h;unfold blkSl at h;rw[av] at h;cases q:ix[i]? with
     | none=>rw[q] at h;cases h
     | some j=>
       rw[q] at h;exact valSl_own (Option.some.inj h)
 refine⟨.refl sb,by simp[frees,blkSl],fun i x h=>?_,fun i o h=>absurd h (no i o),fun i j o o' a h=>absurd h (no i o)⟩;cases i with
 | zero=>cases h;exact⟨v,rfl,r⟩
 | succ i=>
   rw[aW] at h ⊢;unfold blkSl at h;unfold frees;rw[av] at h ⊢;cases q:ix[i]? with
   | none=>rw[q] at h;cases h
   | some j=>
     rw[q] at h;have hd:=valSl_val (Option.some.inj h);obtain⟨v',z1,z2⟩:=S.val j x hd;exact⟨v',by rw[Option.map_some,z1];rfl,z2.mono s1⟩
end
section
variable {X:Cx}{G:Gr}{dl:List Slot}{a b elt iter:Expr}{i j:Int}{ys:List Dt}{zs:Nat->Dt}{pos p px:Pos}{o:Out}{x y:Str}{N:List Str}{ix:List Nat}{sc:Scope}{n:Nat}
def EltOk (X:Cx)(N:List Str)(sc:Scope)(dl:List Slot)(ix:List Nat)(elt:Expr)(n:Nat)(zs:Nat->Dt)(ys:List Dt):Prop:=
 ∀ k,k < n->∀ C fp s H G',EE (blkOf X N sc C fp s H) G' (.val (zs k)::blkSl dl ix) elt (ys.getD k .non)
def tElt (K:W.Frag)(dl:List Slot)(ix:List Nat)(n:Nat)(zs:Nat->Dt)(ys:List Dt):TE:=fun st H Q=>∃ k G',k < n/\tD K G' (.val (zs k)::blkSl dl ix) (ys.getD k .non) st H Q
theorem pe_elt (h:EltOk X N sc dl ix elt n zs ys):∀ C fp s H,PE (blkOf X N sc C fp s H) elt (tElt X.K dl ix n zs ys):=fun C fp s H pins s' st H' Q I ⟨k,G',hk,q⟩=>h k hk C fp s H G' pins s' st H' Q I q
theorem blk_data {st:L2.St}{Hf H:Hp}{J:It}{Q:VK}(S:Stt X.K G st Hf H dl)(hys:ys.length=n)(hn:n<=sizeLine)(go:∀ Hf1 H1,Grow Hf H Hf1 H1->∀ i,(i < n->J.go i H1/\∀ v H2,J.yld i H1 v H2->H2=H1/\Rep X.K Hf1 v (zs i))/\(i=n->J.stop i H1))(k:∀ p Hf' H',Grow Hf H Hf' H'->H p=none->Hf' p=none->OwnAt X.K Hf' H' p (.lst ys)->Q (.ref p) H'):∀ D,H D=none->tBlk (tElt X.K dl ix n zs ys) (frees ix st) J D (fun _ H'=>Q (.ref D) H') H:=by
 intro D hD;refine⟨fun i m vs H1=>m=n - i/\i<=n/\∃ Hf1,Grow Hf H Hf1 H1/\Hf1 D=none/\H1 D=some (.lst vs)/\Reps X.K Hf1 vs (ys.take i),⟨n,rfl,aJ _,Hf,.allocO S.sub hD,S.sub.free hD,upd_same,.nil⟩,?_⟩
 rintro i m vs H1 ⟨rfl,hi,Hf1,g1,hD1,hD2,rp⟩
 have hlen:=rp.length;rw[bb] at hlen;by_cases hlt:i < n
 . obtain⟨hgo,hy⟩:=(go Hf1 H1 g1 i).1 hlt
   refine .inr ⟨hgo,by omega,fun v H2 y=>?_⟩;obtain⟨e,rv⟩:=hy v H2 y;subst e;refine⟨i,⟨Hf1,H2⟩,hlt,Hf1,blk_stt S g1.frz g1.sub rv,fun z Hf2 H3 g2 r2=>?_⟩;have hD3:H3 D=some (.lst vs):=g2.big _ _ hD2;have hD4:Hf2 D=none:=by
     cases q:Hf2 D with
     | none=>rfl
     | some u=>
       obtain⟨o,z⟩:=g2.notNew hD2 (fun z=>z) q;rw[hD1] at z;cases z
   have g:=g1.trans g2;refine⟨hD3,n - (i+1),by omega,rfl,hlt,Hf2,⟨fun a o h=>?_,g.frz,fun a o h=>?_,g.new⟩,hD4,upd_same,?_⟩
   . rw[upd_ne (ne_of_none h hD)];exact g.big _ _ h
   . rw[upd_ne (ne_of_none h hD4)];exact g2.sub _ _ h
   . have:ys.take (i+1)=ys.take i ++ [ys.getD i .non]:=by
       rw[bS,af,ak (by omega)];rfl
     rw[this];exact(rp.mono g2.frz).append (.cons r2 .nil)
 . have e:i=n:=by omega
   subst e;refine .inl ⟨(go Hf1 H1 g1 i).2 rfl,k D Hf1 H1 g1 hD hD1 ⟨vs,hD2,?_⟩⟩;rw[List.take_of_length_le (by omega)] at rp;exact rp
def tLc (wi:TI)(ix:List Nat)(te:TE):TE:=fun st H Q=>wi st H fun J H1=>∀ D,H1 D=none->tBlk te (frees ix st) J D (fun _ H'=>Q (.ref D) H') H1
theorem pe_lc {wi:TI}{te:TE}(hc:X.calm=true)(B:BlkScope X N ix x sc)(hi:PI X (.Name x px) iter wi)(helt:∀ C fp s H,PE (blkOf X N sc C fp s H) elt te)(hs:∀ z,foldedSetIterable iter X.env z=pure z):PE X (.ListComp elt [⟨.Name x px,iter,[],0⟩] sc pos) (tLc wi ix te):=by
 intro pins s st H Q I h;rw[eval_ListComp];refine wpAny_comprehension_free (use:=none) rfl hs (clo_of B I.ok) B.kind B.names (thn (hi pins s st H _ I h) fun v s1 h1=>thn h1 fun itv s2 h2=>?_);obtain⟨it,fp,tn,J,H2,e,I2,T,st2,f2,hq⟩:=h2;subst e;refine lc_core (RR:=fun acc C=>compPost (model X.prog X.w) X.A X.xe none (EP X pins st Q) acc C) hc B helt I2 T st2 f2 hq ?_;intro D C ws H' s' I' ⟨m,hn⟩ hfp q;exact⟨m,hn,fun h' hs'=>⟨.ref D,H',I'.turned (t':=s'.toks) (it:=C) (fun b o hb e=>(hs'.2 b hb).trans e) hfp.1 hfp.2.1 hfp.2.2.2.1 hfp.2.2.2.2.1 hfp.2.2.2.2.2,rfl,q⟩⟩
def SrcD (X:Cx)(G:Gr)(dl:List Slot)(n:Nat)(zs:Nat->Dt)(wi:TI):Prop:=∀ st H (R:It->Hp->Prop),(∃ Hf,Stt X.K G st Hf H dl/\∀ J Hf0 H0,Grow Hf H Hf0 H0 ->
 (∀ Hf1 H1,Grow Hf0 H0 Hf1 H1->∀ i,(i < n->J.go i H1/\∀ v H2,J.yld i H1 v H2->H2=H1/\Rep X.K Hf1 v (zs i))/\(i=n->J.stop i H1))->R J H0)->wi st H R
theorem src_range2 (hn:-(2 ^ 62)<=i/\i < 2 ^ 62/\-(2 ^ 62)<=j/\j < 2 ^ 62):SrcD X G dl (j - i).toNat (fun k=>.int (i+k)) (iRng2 (tDs X.K G dl [.int i,.int j])):=fun st H R zq=>zc zq fun Hf S k=>fun vs Hf1 H1 g1 r1=>by
 cases r1 with
 | cons r t=>
   cases r;cases t with
   | cons r t=>
     cases t;cases r;refine⟨i,j,rfl,hn,k _ Hf1 H1 g1 fun Hf2 H2 g2 m=>⟨fun hi=>⟨hi,fun v H3 hy=>?_⟩,fun hi=>by rw[hi];exact ag _⟩⟩;obtain⟨e1,e2⟩:=hy;subst e2;exact⟨e1,.int _⟩
theorem tLc_data {wi:TI}(hs:SrcD X G dl n zs wi)(hys:ys.length=n)(hn:n<=sizeLine):∀ st H Q,tDO X.K G dl (.lst ys) st H Q->tLc wi ix (tElt X.K dl ix n zs ys) st H Q:=fun st H Q zq=>aj zq fun Hf zq=>have S:=zq.1;have k:=zq.2;
 hs st H _ ⟨Hf,S,fun J Hf0 H0 g0 src=>blk_data (S.grow g0) hys hn src fun p Hf' H' g n1 n2 r=>k p Hf' H' (g0.trans g) (g0.big.free n1) n2 r⟩
theorem eo_lc {wi:TI}(hc:X.calm=true)(B:BlkScope X N ix x sc)(hi:PI X (.Name x px) iter wi)(hsrc:SrcD X G dl n zs wi)(helt:EltOk X N sc dl ix elt n zs ys)(hys:ys.length=n)(hn:n<=sizeLine)(hs:autoParam (∀ z,foldedSetIterable iter X.env z=pure z) qf):EO X G dl (.ListComp elt [⟨.Name x px,iter,[],0⟩] sc pos) (.lst ys):=peI (pe_lc hc B hi (pe_elt helt) hs) (tLc_data hsrc hys hn)
end
structure FunG (K:W.Frag)(x qual:Str)(st:Stmt)(f:Addr)(fd:FuncData):Prop where
 ex:∃ (oc:Value) (od:Option Addr) (dV kV doc pm:Value) (an:Option Addr) (cdv ct:Value) (osl:Array (Option Value)),
   fd=W.fnOf x qual (defArgs st) (defBody st) (defScope st) dV kV doc pm an cdv ct/\K.lookup f=some ⟨oc,od,.func fd,osl⟩/\W.codeIn K cdv qual=true
theorem funG_mk {K:W.Frag}{x qual:Str}{st:Stmt}{f:Addr}{oc:Value}{od an:Option Addr}{osl:Array (Option Value)}{dV kV doc pm cdv ct:Value}(l:K.lookup f=some ⟨oc,od,.func (W.fnOf x qual (defArgs st) (defBody st) (defScope st) dV kV doc pm an cdv ct),osl⟩)(c:W.codeIn K cdv qual=true):FunG K x qual st f (W.fnOf x qual (defArgs st) (defBody st) (defScope st) dV kV doc pm an cdv ct):=⟨⟨oc,od,dV,kV,doc,pm,an,cdv,ct,osl,rfl,l,c⟩⟩
section
variable {w:World}{K:W.Frag}{x:Str}{n:Nat}
def ResI (K:W.Frag)(C:Addr)(Hf H:Hp)(x:Addr)(Q:VK)(E:XK):Res->Prop
 | .own w=>((∃ fs,w=.obj C fs)\/∃ fs gs nm n,w=.objG C fs gs nm n)/\∀ Hf' H',Grow Hf H Hf' H'->Hf' x=none->OwnAt K Hf' H' x w->Q .non H'
 | .exc c fs=>∀ od Hf' H',Grow Hf H Hf' H'->ExcAt K Hf' od fs->E c od H'
 | .ret _=>False
def spI (K:W.Frag)(C:Addr)(n:Nat)(R:List Dt->Res->Prop):Sp:=fun vs H Q E=>∃ Hf H1 x dx args ds r,vs=.ref x::args/\H=upd H1 x (.ins C dx [])/\H1 x=none/\Same Hf H1/\Reps K Hf args ds/\ds.length+1=n/\R ds r/\ResI K C Hf H1 x Q E r
inductive ComesI (C x:Addr):Out->Res->Prop
 | nx {dl:List Slot} {fs:List (Str×Dt)} (h:dl[0]?=some (.own (.slf x C fs))):ComesI C x (.nx dl) (.own (.obj C fs))
 | ex (c:Value) (fs:List (Str×Dt)):ComesI C x (.ex c fs) (.exc c fs)
 | nxG {dl:List Slot} {fs:List (Str×Dt)} {gs:List (Nat->List (Key×FD))} {nm:List Str} {n:Nat} (h:dl[0]?=some (.own (.slfG x C fs gs nm n))):ComesI C x (.nx dl) (.own (.objG C fs gs nm n))
end
section
variable {X:Cx}{G:Gr}{E:XK}{dl:List Slot}{e:Expr}{es:List Expr}{ds:List Dt}{pos p:Pos}{x m:Str}{C:Addr}{CX:CXT}{k k' n:Nat}{R:List Dt->Res->Prop}{wo:Own}{dvs:List Dt}
structure MkF (P:Program)(w:World)(K:W.Frag)(mg:Str->Option Value)(base:Heap)(CX:CXT)(k:Nat)(x:Str)(C:Addr)(n:Nat)(R:List Dt->Res->Prop):Prop where
 ex:∃ f fd ps,FnOk P w K mg base CX k f fd ps (spI K C n R)/\L2.Mk K C f/\mg x=some (.ref C)/\Binds K fd ps []
theorem eo_gf (F:GF X.prog X.w X.K X.mg X.base CX k x n R)(nx:NoX CX)(hr:Room k' X.A)(ha:EA X G dl (e::es) ds)(h:R ds (.own wo))(hkk:autoParam (k<=k') qd)(hl:autoParam (ds.length=n) qc)(hg:autoParam (Gl X x) qc)(hdb:autoParam ((x == ("__debug__":Str))=false) qd)(he:autoParam (starEach (e::es) X.env=(false,eval e X.env)::starEach es X.env) qc)(hpl:autoParam ((backTo pos (starEach es X.env)).any (·.1)=false) qc):EO X G dl (.Call (.Name x p) (e::es) [] pos) wo:=by
 obtain⟨f,fd,ps,F,hm,hk,hb⟩:=F.ex;exact peI (pe_call (E:=E0) F (hr.mono hkk) hg hm hk hb .nil nx.passes ha hdb he hpl) fun st H Q zq=>zc zq fun Hf S k=>fun vs Hf1 H1 g1 r1=>⟨Hf1,ds,.own wo,g1.sub,by rw[aU];exact r1,hl,h,fun p Hf2 H2 g2 n1 n2 r2=>k p Hf2 H2 (g1.trans g2) (g1.big.free n1) n2 r2⟩
structure MFd (P:Program)(w:World)(K:W.Frag)(mg:Str->Option Value)(base:Heap)(CX:CXT)(k:Nat)(C:Addr)(m:Str)(n:Nat)(dvs:List Dt)(R:List Dt->Res->Prop):Prop where
 cl:Cls K C
 ex:∃ f fd ps dsv vds,FnOk P w K mg base CX k f fd ps (spR K n R)/\Meth K C m f/\Binds K fd ps dsv/\Vals vds dsv/\∀ H,Reps K H vds dvs
end
noncomputable def chkBlk (sc dsc:Scope)(XN N:List Str)(ix:List Nat)(x:Str):Bool:=
 decide N.Nodup && (decide (N=x::ix.map (fun j=>XN.getD j "")) && (decide (sc.kind=.function) && (sc.names.all (fun y=>decide (y.2≠.cell)) && (sc.names.all (fun y=>decide (y.2=.local->sc.names.lookup y.1=some .local)) && (decide (sc.names.lookup x=some .local) &&
   (sc.names.all (fun y=>decide (y.2=.free->dsc.names.lookup y.1=some .cell\/dsc.names.lookup y.1=some .free)) && ix.all (fun j=>decide (sc.names.lookup (XN.getD j "")=some .free) && decide (j < XN.length))))))))
theorem blk_of {X:Cx}{sc dsc:Scope}{XN N:List Str}{ix:List Nat}{x:Str}(h:chkBlk sc dsc XN N ix x=true)(e1:autoParam (X.env.scope=dsc) qc)(e2:autoParam (X.N=XN) qc):BlkScope X N ix x sc:=by
 subst e1 e2;unfold chkBlk at h;simp only[bK,List.all_eq_true,decide_eq_true_eq] at h;obtain⟨h1,h2,h3,h4,h5,h6,h7,h8⟩:=h;refine⟨h1,h2,h3,h4,h5,h6,h7,fun j hj=>?_⟩;obtain⟨q1,q2⟩:=h8 j hj;refine⟨X.N.getD j "",?_,q1⟩;rw[af,ak q2];rfl
noncomputable def eLc:Expr->Scope
 | .ListComp _ _ sc _=>sc
 | .Call _ (.ListComp _ _ sc _::_) _ _=>sc
 | _=>{ kind:=.function,names:=[],isGenerator:=false,isCoroutine:=false}
noncomputable def sLc:Stmt->Scope
 | .Assign _ e _=>eLc e
 | .Return (some e) _=>eLc e
 | _=>{ kind:=.function,names:=[],isGenerator:=false,isCoroutine:=false}
theorem lcx_loop {P:Program}{w:World}{A:Around}{R:Result->Shared->Prop}{s:Shared}{elt tg iter:Expr}{ifs:List Expr}{sc:Scope}{pos:Pos}{it acc:Value}{env:Env}(J:Nat->Shared->Prop)
   (turn:∀ n s,J n s->wpAny (model P w) A (pyNext it) (fun r s1=>match r with
     | none=>R (.ok .next) s1
     | some v=>wpAny (model P w) A (letOwnedTupleGo tg it v) (fun _ s2=>wpAny (model P w) A (assign tg env v) (fun _ s3=>
         wpAny (model P w) A (forIn ifs true fun c r=>if r=true then do let ok <- isTrue c env (eval c env);pure (ForInStep.yield ok) else pure (ForInStep.yield r)) (fun ok s3'=>
         if ok=true then wpAny (model P w) A (eval elt env) (fun x s4=>wpAny (model P w) A (call (.builtin "list.append") [acc,x]) (fun _ s5=>∃ m,m < n/\J m s5) nvr s4) nvr s3'
         else ∃ m,m < n/\J m s3') nvr s3) nvr s2) nvr s1) nvr s)
   (n:Nat) (h:J n s):codeAny (model P w) A (.compLoop (.ListComp elt [⟨tg,iter,ifs,0⟩] sc pos) 0 it acc env) R s:=by
 have off:∀ {B:Value->Shared->Prop} (x:Value) (s':Shared),nvr x s'->B x s':=fun _ _ z=>z.elim
 refine codeAny_loop rfl J (fun n s hJ=>?_) n h;show wpAny _ A ((compTurn (.ListComp elt [⟨tg,iter,ifs,0⟩] sc pos) 0 it acc env).onRaise (fun x=>(do noteFrame x env;theTreesLotGoes x))) _ _ s;refine wpAny_noted ?_;rw[compTurn_list];refine wpAny_bind (wpAny_standAt (wpAny_bind (wpAny_mono (turn n s hJ) (fun r s1 h1=>?_) off)));cases r with
 | none=>exact wpAny_pure h1
 | some v=>
   refine wpAny_bind (wpAny_mono h1 (fun _ s2 h2=>wpAny_bind (wpAny_mono h2 (fun _ s3 h3=>wpAny_bind (wpAny_mono h3 (fun ok s3' h3'=>?_) off)) off)) off);cases ok with
   | false=>exact wpAny_pure ⟨rfl,h3'⟩
   | true=>exact wpAny_bind (wpAny_bind (wpAny_mono h3' (fun x s4 h4=>wpAny_bind (wpAny_mono h4 (fun _ s5 h5=>wpAny_pure (wpAny_pure ⟨rfl,h5⟩)) off)) off))
structure BlkX (X:Cx)(N tn:List Str)(ix:List Nat)(sc:Scope):Prop where
 nd:N.Nodup
 nm:N=tn ++ ix.map (fun j=>X.N.getD j "")
 kind:sc.kind=.function
 nocell:∀ y∈sc.names,y.2≠.cell
 names:∀ y∈sc.names,y.2=.local->sc.names.lookup y.1=some .local
 hx:∀ x∈tn,sc.names.lookup x=some .local
 fr:∀ y∈sc.names,y.2=.free->X.env.kindOf y.1=some .cell\/X.env.kindOf y.1=some .free
 ixs:∀ j∈ix,∃ y,X.N[j]?=some y/\sc.names.lookup y=some .free
section
variable {X:Cx}{N tn:List Str}{ix:List Nat}{sc:Scope}{pins:List (Addr×Obj)}{st:L2.St}{H H':Hp}{s s':Shared}{C D:Addr}{fp:List Addr}{h1:Heap}
theorem clox_of (B:BlkX X N tn ix sc)(ok:X.Ok):closureFor sc X.env=pure (clOf sc X.env):=clos_eq fun y hy hk=>ok.has y.1 (B.fr y hy hk)
theorem clx_sub (B:BlkX X N tn ix sc)(ok:X.Ok){y:Str}{c:Addr}(h:(clOf sc X.env).lookup y=some c):X.env.cells.lookup y=some c/\(y,NameKind.free)∈sc.names:=by
 rcases clGo_in _ _ h with⟨h1,h2⟩ | h1
 . obtain⟨c',h3⟩:=ok.has y (B.fr _ h1 rfl)
   rw[h3] at h2;cases h2;exact⟨h3,h1⟩
 . cases h1
theorem blkx_ok (B:BlkX X N tn ix sc)(I:L2.Inv X pins st H s)(hC:s.heap.objs.size<=C)(hf:∀ b∈fp,FpOk X pins H b)(hlt:∀ b∈fp,b < s.heap.objs.size):(blkOf X N sc C fp s H).Ok where
 mod:=I.ok.mod
 kind:=B.kind
 glob:=I.ok.glob
 blt:=I.ok.blt
 above:=hC
 inj:=fun y z c h1 h2=>I.ok.inj y z c (clx_sub B I.ok h1).1 (clx_sub B I.ok h2).1
 has:=fun y hy=>by
   have hy:(relabel sc X.env).names.lookup y=some .cell\/(relabel sc X.env).names.lookup y=some .free:=hy;have:(y,NameKind.free)∈sc.names:=by
     rcases hy with hy | hy
     . obtain⟨k',h1,h2⟩:=relab_kind hy
       rcases h2 with h2 | h2
       . subst h2;exact absurd rfl (B.nocell _ h1)
       . subst h2;exact h1
     . obtain⟨k',h1,h2⟩:=relab_kind hy
       rcases h2 with h2 | h2 <;> subst h2 <;> exact h1
   exact clGo_has _ _ (.inl this)
 cab:=fun y c h=>by cases h
 hd:=I.ok.hd
 frames:=I.ok.frames
 stk:=.inl rfl
 exf:=fun b hb=>⟨au (ay (hlt b hb) hC),fun y c h=>(hf b hb).2.2.2.2.1 y c (clx_sub B I.ok h).1⟩
 bs:=I.bs
 bsz:=aO I.ok.bsz I.sz
 noex:=fun b o e hb=>by
   rcases (hf b hb).2.2.2.1 with z | z
   . exact I.ok.noex b o e z
   . exact absurd (ay (ah e) (aO I.ok.bsz z)) (bu _)
 exfs:=fun b hb z=>by
   rcases aK.mp (I.stkSub b z) with z | z
   . exact(hf b hb).2.1 z
   . exact(hf b hb).2.2.1 z
 funs:=I.stack
 frf:=I.stkFree
theorem blkx_start (B:BlkX X N tn ix sc)(I:L2.Inv X pins st H s)(hf:∀ b∈fp,FpOk X pins H b)(hlt:∀ b∈fp,b < s.heap.objs.size)(hC:C=s.heap.objs.size+1)(k:∀ b o,s.heap.get? b=some o->h1.get? b=some o)(hn:h1.Ns C fun _=>none)(hD:h1.get? s.heap.objs.size=some { cls:=.type "list",data:=.seq ([]:List Value).toArray 0}){t':Nat}:L2.Inv (blkOf X N sc C fp s H) [] (bC tn.length none ++ frees ix st) (upd H s.heap.objs.size (.lst [])) { s with heap:=h1,toks:=t'}:=by
 have hC':s.heap.objs.size<=C:=by rw[hC];exact b6 _
 have fr:∀ a,s.heap.objs.size<=a->H a=none:=fun a ha=>I.hok.fresh ha
 have ok:=blkx_ok B I hC' hf hlt;have cne:∀ y c,(clOf sc X.env).lookup y=some c->H c=none/\c < s.heap.objs.size/\∃ v,s.heap.IsCell c v:=fun y c h=>by
   have h:=(clx_sub B I.ok h).1;obtain⟨v,q⟩:=I.cell y c h;exact⟨I.freeC y c h,q.lt,v,q⟩
 refine⟨ok,rfl,I.bare,Un.laid k (ag _) (fr _ (ag _)),⟨_,hn,fun i y v e1 e2 e3=>?_⟩,fun y c h=>?_,?_,fun y c h=>?_,fun p hp=>absurd (show p∈([]:List (Addr×Obj)) from hp) (by simp),?_,?_⟩
 . have e1:N[i]?=some y:=e1
   by_cases hi:i < tn.length
   . rw[aH (by simpa using hi),bo,if_pos hi] at e2
     cases e2
   . have hi:tn.length<=i:=bJ hi
     rw[B.nm,aG hi,av] at e1;rw[aG (by simpa using hi),List.length_replicate] at e2;unfold frees at e2;rw[av] at e2;cases q:ix[i - tn.length]? with
     | none=>rw[q] at e1;cases e1
     | some j=>
       rw[q] at e1 e2;obtain⟨y',hy1,hyl⟩:=B.ixs j (bE q);have hy2:=PySem.mem_of_lookup hyl;have ey:y=y':=by
         have e1:X.N.getD j ""=y:=Option.some.inj e1;rw[af,hy1] at e1;exact e1.symm
       subst ey;have e2:(st[j]?).join=some v:=Option.some.inj e2;have e2':st[j]?=some (some v):=by
         cases q2:st[j]? with
         | none=>rw[q2] at e2;cases e2
         | some z=>rw[q2] at e2;rw[show z=some v from e2]
       have kd:=B.fr _ hy2 rfl;have vis:Vis X.env.scope y:=by
         rcases kd with z | z
         . exact .inr (.inl z)
         . exact .inr (.inr z)
       obtain⟨m,_,hl⟩:=I.loc;obtain⟨u,r,l⟩:=hl j y v hy1 e2' vis;refine⟨u,r,.inr ?_⟩;rcases l with⟨z,_⟩ | ⟨_,c,hc,ic⟩
       . rcases kd with z' | z' <;> rw[z] at z' <;> cases z'
       . obtain⟨c',hc'⟩:=clGo_has (cells:=X.env.cells) sc.names [] (.inl hy2)
         have:=(clx_sub B I.ok hc').1;rw[hc] at this;cases this;obtain⟨oc,hoc,hd⟩:=ic;refine⟨?_,c,hc',oc,k _ _ hoc,hd⟩;rcases e3 with e3 | e3 | e3
         . have e3:(relabel sc X.env).names.lookup y=some .local:=e3
           rcases relab_free (env:=X.env) hyl with z | z
           . exact absurd (e3.symm.trans z) (by decide)
           . exact absurd (e3.symm.trans z) (by decide)
         . exact .inl e3
         . exact .inr e3
 . obtain⟨_,_,v,oc,hoc,hd⟩:=cne y c h
   exact⟨v,oc,k _ _ hoc,hd⟩
 . show upd H s.heap.objs.size (.lst []) C=none
   rw[upd_ne (by rw[hC];exact Nat.succ_ne_self _)];exact fr _ hC'
 . show upd H s.heap.objs.size (.lst []) c=none
   obtain⟨q1,q2,_⟩:=cne y c h;rw[upd_ne (au q2)];exact q1
 . exact I.hok.laid k (ag _) ⟨aJ _,[],0,.nil,hD⟩
 . show(bC tn.length none ++ frees ix st).length=N.length
   rw[B.nm];unfold frees;simp
def PTs (X:Cx)(ifs:List Expr)(tt:TT):Prop:=∀ (pins:List (Addr×Obj)) (s:Shared) (st:L2.St) (H:Hp) (Q:Bool->Hp->Prop),L2.Inv X pins st H s->tt st H Q ->
 wpAny (model X.prog X.w) X.A (forIn ifs true fun c r=>if r=true then do let ok <- isTrue c X.env (eval c X.env);pure (ForInStep.yield ok) else pure (ForInStep.yield r)) (fun b s'=>∃ H',L2.Inv X pins st H' s'/\Q b H') X.xe s
theorem pts_one {c:Expr}{tt:TT}(h:PT X c tt):PTs X [c] tt:=fun pins s st H Q I q=>wpAny_tests_one (thn (h pins s st H _ I q) fun b s' z=>z)
def tBlkX (nt:Nat)(g:TG)(tt:TT)(te:TE)(fs:L2.St)(J:It)(D:Addr)(Q:List V->Hp->Prop)(H:Hp):Prop:=
 ∃ W:Nat->Nat->List V->Hp->Prop,(∃ m,W 0 m [] (upd H D (.lst [])))/\∀ i m ys H1,W i m ys H1 ->
   (J.stop i H1/\Q ys H1)\/(J.go i H1/\ys.length < sizeLine/\∀ σ:L2.St,σ.length=nt->∀ v H2,J.yld i H1 v H2->g v (σ ++ fs) H2 fun σ2 H3=>∃ σ':L2.St,σ2=σ' ++ fs/\σ'.length=nt /\
     tt σ2 H3 fun b H4=>if b=true then te σ2 H4 fun y H5=>H5 D=some (.lst ys)/\∃ m',m' < m/\W (i+1) m' (ys ++ [y]) (upd H5 D (.lst (ys ++ [y]))) else ∃ m',m' < m/\W (i+1) m' ys H4)
theorem lcx_core {elt iter tg:Expr}{ifs:List Expr}{pos:Pos}{g:TG}{tt:TT}{te:TE}{J:It}{it:Addr}{tj:Nat->Heap->Prop}{Q:Addr->List V->Hp->Prop}{RR:Value->Addr->Result->Shared->Prop}{E:Value->Shared->Prop}(hc:X.calm=true)(B:BlkX X N tn ix sc)(hg:∀ C fp s H,PG (blkOf X N sc C fp s H) tg g)(ht:∀ C fp s H,PTs (blkOf X N sc C fp s H) ifs tt)(helt:∀ C fp s H,PE (blkOf X N sc C fp s H) elt te)(I:L2.Inv X pins st H s)(T:Turn X.prog X.w X.K tg J fp it tj)(h0:tj 0 s.heap)(hf:∀ b∈fp,FpOk X pins H b)(hq:∀ D,H D=none->tBlkX tn.length g tt te (frees ix st) J D (Q D) H)(hRR:∀ D C ys H' s',L2.Inv X pins st H' s'->(∃ m,s'.heap.Ns C m)->FpOk X pins H' C->Q D ys H'->RR (.ref D) C (.ok .next) s'):wpAny (model X.prog X.w) X.A (newList []) (fun acc s3=>wpAny (model X.prog X.w) X.A (newFunctionEnv sc X.env.globals (clOf sc X.env) [] X.env.qual none .none (some X.env)) (fun cenv s4=>codeAny (model X.prog X.w) X.A (.compStart (.ListComp elt [⟨tg,iter,ifs,0⟩] sc pos) 0 (.ref it) acc { cenv with scope:=relabel sc X.env}) (RR acc cenv.locals) s4) E s3) E s:=by
 have hlt:∀ b∈fp,b < s.heap.objs.size:=fun b hb=>by
   obtain⟨o,e,_⟩:=T.obj _ _ h0 b hb;exact ah e
 refine wpAny_newObj_type (wpAny_newFunctionEnv B.nocell (fun y hy=>absurd hy (by simp)) (fun h1 hns hsb=>?_) B.kind);dsimp only at hns hsb ⊢;generalize hG:s.heap.push { cls:=.type "list",dict:=none,data:=.seq ([]:List Value).toArray}=g' at hns hsb ⊢;have hC:g'.objs.size=s.heap.objs.size+1:=by rw[<- hG,bD]
 have hDC:s.heap.objs.size≠g'.objs.size:=by rw[hC];exact au (bI _)
 have old:∀ b o,s.heap.get? b=some o->h1.get? b=some o:=fun b o e=>
   hsb.extBut b o (by rw[hC];exact au (a9 (ah e))) (aa _ (hG ▸ aa _ e))
 have hacc:h1.get? s.heap.objs.size=some { cls:=.type "list",data:=.seq ([]:List Value).toArray 0}:=hsb.extBut _ _ hDC (aa _ (hG ▸ ax _ rfl));have hD:H s.heap.objs.size=none:=I.hok.fresh (ag _);obtain⟨W,⟨m0,w0⟩,turn⟩:=hq _ hD;have I0:=blkx_start (t':=s.toks+([]:List (Str×Value)).length) B I hf hlt hC old (by simpa using hns) hacc;have st0:tj 0 h1:=T.keep _ _ _ h0 fun b _ o e=>old b o e
 have hCle:s.heap.objs.size<=g'.objs.size:=by rw[hC];exact b6 _
 have stat:∀ {H':Hp},(∀ b∈fp,H' b=none)->∀ b∈fp,FpOk (blkOf X N sc g'.objs.size fp s H) [] H' b:=fun {H'} hn b hb=>
   ⟨hn b hb,((blkx_ok B I hCle hf hlt).exf b hb).1,(blkx_ok B I hCle hf hlt).exfs b hb,.inl hb,((blkx_ok B I hCle hf hlt).exf b hb).2,fun p hp=>absurd (show p∈([]:List (Addr×Obj)) from hp) (by simp)⟩
 have loop:∀ s3:Shared,s3={ s with heap:=h1,toks:=s.toks+([]:List (Str×Value)).length} ->
     codeAny (model X.prog X.w) X.A (.compLoop (.ListComp elt [⟨tg,iter,ifs,0⟩] sc pos) 0 (.ref it) (.ref s.heap.objs.size) (compEnvC sc (clOf sc X.env) g'.objs.size X.env)) (RR (.ref s.heap.objs.size) g'.objs.size) s3:=by
   rintro s3 rfl
   refine lcx_loop (fun n s'=>∃ i ys σ H',σ.length=tn.length/\L2.Inv (blkOf X N sc g'.objs.size fp s H) [] (σ ++ frees ix st) H' s'/\tj i s'.heap/\(∀ b∈fp,H' b=none)/\W i n ys H') ?_ m0
     ⟨0,[],bC tn.length none,_,by simp,I0,st0,fun b hb=>?_,w0⟩
   . rintro n s5 ⟨i,ys,σ,H5,hσ,I5,st5,fr5,w5⟩
     rcases turn i n ys H5 w5 with⟨stop,qn⟩ | ⟨go,hz,step⟩
     . refine thn (T.done (blkOf X N sc g'.objs.size fp s H) rfl rfl rfl hc i [] s5 _ H5 nvr I5 (stat fr5) st5 stop) fun r s6 ⟨hr,I6⟩=>?_
       subst hr;refine hRR _ _ ys H5 s6 ?_ ?_ (I.fpOk hCle I6.free) qn
       . exact I.call' I6.os I6.base I6.hok I6.bare fun b hb=>⟨(hf b hb).2.2.2.1,(hf b hb).2.1,(hf b hb).2.2.2.2.1,(hf b hb).2.2.2.2.2⟩
       . obtain⟨m,hm,_⟩:=I6.loc
         exact⟨m,hm⟩
     . refine thn (T.item (blkOf X N sc g'.objs.size fp s H) rfl rfl rfl hc i [] s5 _ H5 nvr I5 (stat fr5) st5 go) fun r s6 ⟨u,hr,h6⟩=>?_
       subst hr;refine thn h6 fun _ s7 zq=>?_;obtain⟨v,H7,I7,r7,y7,st7,fr7⟩:=zq
       have I7':=I7.pinned (stat fr7) (T.obj _ _ st7);refine thn (hg g'.objs.size fp s H _ s7 _ H7 v u _ I7' r7 (step σ hσ v H7 y7)) fun _ s8 h8=>?_
       obtain⟨σ8,H8,I8,σ',e8,hl8,h8⟩:=h8;subst e8;have pinned:∀ {σ9:L2.St} {H9:Hp} {s9:Shared},L2.Inv (blkOf X N sc g'.objs.size fp s H) ([] ++ pinsAt fp s7.heap) σ9 H9 s9->tj (i+1) s9.heap/\∀ b∈fp,H9 b=none:=fun {σ9 H9 s9} I9=>by
         refine⟨T.keep _ _ _ st7 fun b hb o e=>(I9.pin (b,o) (aA _ (aA _ (mem_pinsAt hb e)))).1,fun b hb=>?_⟩;obtain⟨o,e,d⟩:=T.obj _ _ st7 b hb;exact(I9.pin (b,o) (aA _ (aA _ (mem_pinsAt hb e)))).2.1
       refine thn (ht g'.objs.size fp s H _ s8 _ H8 _ I8 h8) fun ok s8' h8'=>?_
       obtain⟨H8',I8',h8'⟩:=h8';cases ok with
       | false=>
         obtain⟨m',hm,w8⟩:=h8';exact⟨m',hm,i+1,ys,σ',_,hl8,I8'.unpinned (pins:=[]),(pinned I8').1,(pinned I8').2,w8⟩
       | true=>
         refine thn (helt g'.objs.size fp s H _ s8' _ H8' _ I8' h8') fun z s9 zq=>?_;obtain⟨y,H9,I9,r9,hD9,m',hm,w9⟩:=zq
         refine thn (mt_append _ s9 _ H9 (.ref s.heap.objs.size) [y] (.ref s.heap.objs.size) [z] (fun _ H'=>H'=upd H9 s.heap.objs.size (.lst (ys ++ [y]))) I9 rfl (.cons r9 .nil) ⟨_,ys,y,rfl,rfl,hD9,hz,rfl⟩) fun _ s10 h10=>?_
         obtain⟨_,H10,I10,_,rfl⟩:=h10;exact⟨m',hm,i+1,ys ++ [y],σ',_,hl8,I10.unpinned (pins:=[]),(pinned I10).1,(pinned I10).2,w9⟩
   . rw[upd_ne (au (hlt b hb))]
     exact(hf b hb).1
 exact codeAny_compStart_list (loop _ rfl) (T.self _ 0 _ _ _ st0 (loop _ rfl))
end
section
variable {K:W.Frag}{G:Gr}{st:L2.St}{Hf H Hf1 H1:Hp}{dl:List Slot}{ix:List Nat}
structure TgV (K:W.Frag)(Hf:Hp)(σ:L2.St)(sl:List Slot):Prop where
 len:σ.length=sl.length
 val:∀ (i:Nat) d,sl[i]?=some (.val d)->∃ v,σ[i]?=some (some v)/\Rep K Hf v d
 no:∀ (i:Nat) o,sl[i]?≠some (.own o)
theorem TgV.mono {σ:L2.St}{sl:List Slot}(h:TgV K Hf σ sl)(s:Same Hf Hf1):TgV K Hf1 σ sl:=⟨h.len,fun i d e=>let ⟨v,h1,h2⟩:=h.val i d e;⟨v,h1,h2.mono s⟩,h.no⟩
theorem blkx_stt {σ:L2.St}{sl:List Slot}(S:Stt K G st Hf H dl)(s1:Same Hf Hf1)(sb:Same Hf1 H1)(r:TgV K Hf1 σ sl):Stt K ⟨Hf1,H1⟩ (σ ++ frees ix st) Hf1 H1 (sl ++ blkSl dl ix):=by
 have no:∀ (i:Nat) o,(sl ++ blkSl dl ix)[i]?≠some (.own o):=fun i o h=>by
   by_cases hi:i < sl.length
   . rw[aH hi] at h
     exact r.no i o h
   . rw[aG (bJ hi)] at h
     unfold blkSl at h;rw[av] at h;cases q:ix[i - sl.length]? with
     | none=>rw[q] at h;cases h
     | some j=>
       rw[q] at h;exact valSl_own (Option.some.inj h)
 refine⟨.refl sb,by simp[frees,blkSl,r.len],fun i x h=>?_,fun i o h=>absurd h (no i o),fun i j o o' a h=>absurd h (no i o)⟩;by_cases hi:i < sl.length
 . rw[aH hi] at h
   rw[aH (by rw[r.len];exact hi)];exact r.val i x h
 . have hi:=bJ hi
   rw[aG hi] at h;rw[aG (by rw[r.len];exact hi),r.len];unfold blkSl at h;unfold frees;rw[av] at h ⊢;cases q:ix[i - sl.length]? with
   | none=>rw[q] at h;cases h
   | some j=>
     rw[q] at h;have hd:=valSl_val (Option.some.inj h);obtain⟨v',z1,z2⟩:=S.val j x hd;exact⟨v',by rw[Option.map_some,z1];rfl,z2.mono s1⟩
def TgD (K:W.Frag)(nt:Nat)(g:TG)(z:Dt)(sl:List Slot):Prop:=∀ (σ fs:L2.St) (Hf H:Hp) (v:V) (Q:L2.St->Hp->Prop),σ.length=nt->Same Hf H->Rep K Hf v z ->
 (∀ σ':L2.St,σ'.length=nt->TgV K Hf σ' sl->Q (σ' ++ fs) H)->g v (σ ++ fs) H Q
theorem tg_name {z:Dt}:TgD K 1 (gName 0) z [.val z]:=fun σ fs Hf H v Q hl s r k=>by
 cases σ with
 | nil=>cases hl
 | cons a σ=>
   have:σ=[]:=List.eq_nil_of_length_eq_zero (by simpa using hl);subst this;refine k [some v] rfl ⟨rfl,fun i d h=>?_,fun i o h=>?_⟩
   . cases i with
     | zero=>cases h;exact⟨v,rfl,r⟩
     | succ i=>cases h
   . cases i with
     | zero=>cases h
     | succ i=>cases h
abbrev gPair (K:W.Frag):TG:=gTup K 2 (gCons (gName 0) (gCons (gName 1) gNil))
theorem tg_pair {a b:Dt}:TgD K 2 (gPair K) (.tup [a,b]) [.val a,.val b]:=fun σ fs Hf H v Q hl s r k=>by
 cases σ with
 | nil=>cases hl
 | cons x σ=>cases σ with
   | nil=>cases hl
   | cons y σ=>
     have:σ=[]:=List.eq_nil_of_length_eq_zero (by simpa using hl);subst this;cases r with
     | @tup q vs _ hq rp=>
       cases rp with
       | cons r1 t1=>cases t1 with
         | cons r2 t2=>
           cases t2;refine⟨q,_,rfl,SqT_same s hq,rfl,_,_,rfl,_,_,rfl,rfl,k [some _,some _] rfl ⟨rfl,fun i d h=>?_,fun i o h=>?_⟩⟩
           . cases i with
             | zero=>cases h;exact⟨_,rfl,r1⟩
             | succ i=>cases i with
               | zero=>cases h;exact⟨_,rfl,r2⟩
               | succ i=>cases h
           . cases i with
             | zero=>cases h
             | succ i=>cases i with
               | zero=>cases h
               | succ i=>cases h
end
section
variable {X:Cx}{G:Gr}{E:XK}{dl:List Slot}{a b c elt iter tg:Expr}{ifs:List Expr}{i:Int}{pos p px py spos:Pos}{o:Out}{x y:Str}{N tn:List Str}{ix:List Nat}{sc:Scope}{n:Nat}
def SrcX (X:Cx)(G:Gr)(dl:List Slot)(zs:List Dt)(wi:TI):Prop:=∀ st H (R:It->Hp->Prop),(∃ Hf,Stt X.K G st Hf H dl/\∀ J Hf0 H0,Grow Hf H Hf0 H0 ->
 (∀ Hf1 H1,Same Hf0 Hf1->Same Hf1 H1->∀ i,(∀ z,zs[i]?=some z->J.go i H1/\∀ v H2,J.yld i H1 v H2->∃ Hf2,Grow Hf1 H1 Hf2 H2/\Rep X.K Hf2 v z)/\(i=zs.length->J.stop i H1))->R J H0)->wi st H R
theorem srcx_list {xs:List Dt}:SrcX X G dl xs (iList X.K (tD X.K G dl (.lst xs))):=fun st H R zq=>zc zq fun Hf S k=>fun v Hf1 H1 g1 r1=>by
 cases r1 with
 | @lst q vs _ hq rp=>
   have hl:=rp.length;refine⟨q,rfl,⟨vs,.of (g1.sub _ _ hq)⟩,k _ Hf1 H1 g1 fun Hf2 H2 s1 s2 i=>⟨fun z hz=>?_,fun hi=>⟨vs,.of (s2 _ _ (s1 _ _ hq)),by omega⟩⟩⟩;obtain⟨u,z1,z2⟩:=rp.get hz;have hs:SqL X.K H2 q vs:=.of (s2 _ _ (s1 _ _ hq));refine⟨⟨vs,u,hs,z1⟩,fun v H3 hy=>?_⟩;obtain⟨e1,e2⟩:=hy;have e2:=e2 vs hs;rw[z1] at e2;cases e2;subst e1;exact⟨Hf2,.refl s2,z2.mono s1⟩
variable {α:Type}{as:List α}{z f:α->Dt}{sl:α->List Slot}{keep:α->Bool}{g:TG}{wi:TI}
def tTst (K:W.Frag)(dl:List Slot)(ix:List Nat)(as:List α)(sl:α->List Slot)(keep:α->Bool):TT:=fun st H Q=>∃ a G',a∈as/\tDB K G' (sl a ++ blkSl dl ix) (keep a) st H Q
def tElx (K:W.Frag)(dl:List Slot)(ix:List Nat)(as:List α)(sl:α->List Slot)(keep:α->Bool)(f:α->Dt):TE:=fun st H Q=>∃ a G',a∈as/\keep a=true/\tD K G' (sl a ++ blkSl dl ix) (f a) st H Q
inductive TstOk (X:Cx)(N:List Str)(sc:Scope)(dl:List Slot)(ix:List Nat)(as:List α)(sl:α->List Slot)(keep:α->Bool):List Expr->Prop
 | nil:(∀ a∈as,keep a=true)->TstOk X N sc dl ix as sl keep []
 | one {c:Expr}:(∀ a∈as,∀ C fp s H G',EB (blkOf X N sc C fp s H) G' (sl a ++ blkSl dl ix) c (keep a))->TstOk X N sc dl ix as sl keep [c]
theorem pts_of (h:TstOk X N sc dl ix as sl keep ifs):∀ C fp s H,PTs (blkOf X N sc C fp s H) ifs (tTst X.K dl ix as sl keep):=fun C fp s H=>by
 cases h with
 | nil h=>exact fun pins s' st H' Q I ⟨a,G',ha,Hf,S,k⟩=>wpAny_tests_nil ⟨H',I,by have:=k Hf H' (.refl S.sub);rw[h a ha] at this;exact this⟩
 | one h=>exact pts_one fun pins s' st H' Q I ⟨a,G',ha,q⟩=>h a ha C fp s H G' pins s' st H' Q I q
def EltX (X:Cx)(N:List Str)(sc:Scope)(dl:List Slot)(ix:List Nat)(as:List α)(sl:α->List Slot)(keep:α->Bool)(f:α->Dt)(elt:Expr):Prop:=∀ a∈as,keep a=true->∀ C fp s H G',EE (blkOf X N sc C fp s H) G' (sl a ++ blkSl dl ix) elt (f a)
theorem pe_elx (h:EltX X N sc dl ix as sl keep f elt):∀ C fp s H,PE (blkOf X N sc C fp s H) elt (tElx X.K dl ix as sl keep f):=fun C fp s H pins s' st H' Q I ⟨a,G',ha,hk,q⟩=>h a ha hk C fp s H G' pins s' st H' Q I q
theorem blkx_data {nt:Nat}{st:L2.St}{Hf H:Hp}{J:It}{Q:VK}(S:Stt X.K G st Hf H dl)(hn:as.length<=sizeLine)(htg:∀ a∈as,TgD X.K nt g (z a) (sl a))(go:∀ Hf1 H1,Grow Hf H Hf1 H1->∀ i,(∀ y,(as.map z)[i]?=some y->J.go i H1/\∀ v H2,J.yld i H1 v H2->∃ Hf2,Grow Hf1 H1 Hf2 H2/\Rep X.K Hf2 v y)/\(i=(as.map z).length->J.stop i H1))(k:∀ p Hf' H',Grow Hf H Hf' H'->H p=none->Hf' p=none->OwnAt X.K Hf' H' p (.lst ((as.filter keep).map f))->Q (.ref p) H'):∀ D,H D=none->tBlkX nt g (tTst X.K dl ix as sl keep) (tElx X.K dl ix as sl keep f) (frees ix st) J D (fun _ H'=>Q (.ref D) H') H:=by
 intro D hD;refine⟨fun i m vs H1=>m=as.length - i/\i<=as.length/\∃ Hf1,Grow Hf H Hf1 H1/\Hf1 D=none/\H1 D=some (.lst vs)/\Reps X.K Hf1 vs (((as.take i).filter keep).map f),⟨as.length,rfl,aJ _,Hf,.allocO S.sub hD,S.sub.free hD,upd_same,.nil⟩,?_⟩
 rintro i m vs H1 ⟨rfl,hi,Hf1,g1,hD1,hD2,rp⟩
 have hlen:=rp.length;rw[ae] at hlen;have hfl:((as.take i).filter keep).length<=i:=aO (bw _ _) (by rw[bb];omega);have keepsD:∀ {Hfa Ha Hfb Hb:Hp},Grow Hfa Ha Hfb Hb->Hfa D=none->Ha D=some (.lst vs)->Hfb D=none/\Hb D=some (.lst vs):=fun {Hfa Ha Hfb Hb} gg e1 e2=>by
   refine⟨?_,gg.big _ _ e2⟩;cases q:Hfb D with
   | none=>rfl
   | some u=>
     obtain⟨o,z⟩:=gg.notNew e2 (fun z=>z) q;rw[e1] at z;cases z
 by_cases hlt:i < as.length
 . have hmem:as[i]∈as:=bL hlt
   have et:as.take (i+1)=as.take i ++ [as[i]]:=by rw[bS,ak hlt];rfl
   obtain⟨hgo,hy⟩:=(go Hf1 H1 g1 i).1 (z as[i]) (by rw[av,ak hlt];rfl);refine .inr ⟨hgo,by omega,fun σ hσ v H2 y=>?_⟩;obtain⟨Hf2,g2,rv⟩:=hy v H2 y;obtain⟨d2,d2'⟩:=keepsD g2 hD1 hD2;refine htg as[i] hmem σ _ Hf2 H2 v _ hσ g2.sub rv fun σ' hl' tv=>⟨σ',rfl,hl',as[i],⟨Hf2,H2⟩,hmem,Hf2,blkx_stt S (g1.frz.trans g2.frz) g2.sub tv,fun Hf3 H3 g3=>?_⟩
   obtain⟨d3,d3'⟩:=keepsD g3 d2 d2';cases hk:keep as[i] with
   | false=>
     refine⟨as.length - (i+1),by omega,rfl,hlt,Hf3,(g1.trans g2).trans g3,d3,d3',?_⟩;rw[et,List.filter_append,List.filter_cons_of_neg (by simp[hk]),List.filter_nil,aU];exact rp.mono (g2.frz.trans g3.frz)
   | true=>
     refine⟨as[i],⟨Hf3,H3⟩,hmem,hk,Hf3,blkx_stt S ((g1.frz.trans g2.frz).trans g3.frz) g3.sub (tv.mono g3.frz),fun y Hf4 H4 g4 r4=>?_⟩;obtain⟨d4,d4'⟩:=keepsD g4 d3 d3';have gg:=((g1.trans g2).trans g3).trans g4;refine⟨d4',as.length - (i+1),by omega,rfl,hlt,Hf4,⟨fun a o h=>?_,gg.frz,fun a o h=>?_,gg.new⟩,d4,upd_same,?_⟩
     . rw[upd_ne (ne_of_none h hD)];exact gg.big _ _ h
     . rw[upd_ne (ne_of_none h d4)];exact g4.sub _ _ h
     . rw[et,List.filter_append,List.filter_cons_of_pos (by simpa using hk),List.filter_nil,bQ]
       exact(rp.mono ((g2.frz.trans g3.frz).trans g4.frz)).append (.cons r4 .nil)
 . have e:i=as.length:=by omega
   subst e;refine .inl ⟨(go Hf1 H1 g1 _).2 (by simp),k D Hf1 H1 g1 hD hD1 ⟨vs,hD2,?_⟩⟩;rw[List.take_length] at rp;exact rp
def tLcx (wi:TI)(nt:Nat)(ix:List Nat)(g:TG)(tt:TT)(te:TE):TE:=fun st H Q=>wi st H fun J H1=>∀ D,H1 D=none->tBlkX nt g tt te (frees ix st) J D (fun _ H'=>Q (.ref D) H') H1
theorem pe_lcx {tt:TT}{te:TE}(hc:X.calm=true)(B:BlkX X N tn ix sc)(hi:PI X tg iter wi)(hg:∀ C fp s H,PG (blkOf X N sc C fp s H) tg g)(ht:∀ C fp s H,PTs (blkOf X N sc C fp s H) ifs tt)(helt:∀ C fp s H,PE (blkOf X N sc C fp s H) elt te)(hs:∀ z,foldedSetIterable iter X.env z=pure z):PE X (.ListComp elt [⟨tg,iter,ifs,0⟩] sc pos) (tLcx wi tn.length ix g tt te):=by
 intro pins s st H Q I h;rw[eval_ListComp];refine wpAny_comprehension_free (use:=none) rfl hs (clox_of B I.ok) B.kind B.names (thn (hi pins s st H _ I h) fun v s1 h1=>thn h1 fun itv s2 h2=>?_);obtain⟨it,fp,tj,J,H2,e,I2,T,st2,f2,hq⟩:=h2;subst e;refine lcx_core (RR:=fun acc C=>compPost (model X.prog X.w) X.A X.xe none (EP X pins st Q) acc C) hc B hg ht helt I2 T st2 f2 hq ?_;intro D C ws H' s' I' ⟨m,hn⟩ hfp q;exact⟨m,hn,fun h' hs'=>⟨.ref D,H',I'.turned (t':=s'.toks) (it:=C) (fun b o hb e=>(hs'.2 b hb).trans e) hfp.1 hfp.2.1 hfp.2.2.2.1 hfp.2.2.2.2.1 hfp.2.2.2.2.2,rfl,q⟩⟩
theorem ps_lcx {tt:TT}{te:TE}{nN:Nat}(hc:X.calm=true)(B:BlkX X N tn ix sc)(hi:PI X tg iter wi)(hg:∀ C fp s H,PG (blkOf X N sc C fp s H) tg g)(ht:∀ C fp s H,PTs (blkOf X N sc C fp s H) ifs tt)(helt:∀ C fp s H,PE (blkOf X N sc C fp s H) elt te)(hs:∀ z,foldedSetIterable iter X.env z=pure z)(hsw:swapsWith (.ListComp elt [⟨tg,iter,ifs,0⟩] sc pos) (some (.Name y py)) spos.line X.env=pure true)(hN:X.N.Nodup)(hy:X.N[nN]?=some y)(hl:Loc X.env.scope y)(hf:X.fn y=true\/X.env.scope.names.lookup y=some .local):PS X (.Assign [.Name y py] (.ListComp elt [⟨tg,iter,ifs,0⟩] sc pos) spos) (fun D st H=>tLcx wi tn.length ix g tt te st H fun v H'=>D.nx (st.set nN (some v)) H'):=by
 intro pins s st H D0 I h;rw[exec_Assign_Name_used _ _ _ _ hsw];refine wpAny_bind (wpAny_standAt (wpAny_bind ?_));show wpAny _ X.A (do let _ <- comprehension (.ListComp elt [⟨tg,iter,ifs,0⟩] sc pos) sc X.env _ (newList []) false (eval iter X.env) (some (assign (.Name y py) X.env))) _ _ s;refine wpAny_bind (wpAny_mono (wpAny_comprehension_free (use:=some (assign (.Name y py) X.env)) (Q:=fun _ s'=>SP X pins D0 .next s') rfl hs (clox_of B I.ok) B.kind B.names (thn (hi pins s st H _ I h) fun v s1 h1=>thn h1 fun itv s2 h2=>?_)) (fun _ s' hq=>wpAny_pure (wpAny_pure hq)) fun _ _ z=>z);obtain⟨it,fp,tj,J,H2,e,I2,T,st2,f2,hq⟩:=h2;subst e;refine lcx_core (RR:=fun acc C=>compPost (model X.prog X.w) X.A X.xe (some (assign (.Name y py) X.env)) (fun _ s'=>SP X pins D0 .next s') acc C) hc B hg ht helt I2 T st2 f2 hq ?_;intro D C ws H' s' I' ⟨m,hn⟩ hfp q;refine wpAny_assign_Name (store_ok2 I' hN hy hl (v:=.ref D) rfl (fun s'' I'' ⟨ad,hsb,ha⟩=>?_) hf);have ne:C≠ad:=by
   rcases ha with z | z
   . rw[z];exact hfp.2.1
   . exact Ne.symm (hfp.2.2.2.2.1 _ _ z)
 exact⟨m,hn.sameBut hsb ne,fun h' hs'=>⟨_,H',I''.turned (t':=s''.toks) (it:=C) (fun b o hb e=>(hs'.2 b hb).trans e) hfp.1 hfp.2.1 hfp.2.2.2.1 hfp.2.2.2.2.1 hfp.2.2.2.2.2,q⟩⟩
theorem tLcx_data (hs:SrcX X G dl (as.map z) wi)(htg:∀ a∈as,TgD X.K n g (z a) (sl a))(hn:as.length<=sizeLine):∀ st H Q,tDO X.K G dl (.lst ((as.filter keep).map f)) st H Q->tLcx wi n ix g (tTst X.K dl ix as sl keep) (tElx X.K dl ix as sl keep f) st H Q:=fun st H Q zq=>aj zq fun Hf zq=>have S:=zq.1;have k:=zq.2;
 hs st H _ ⟨Hf,S,fun J Hf0 H0 g0 src=>blkx_data (S.grow g0) hn htg (fun Hf1 H1 g1 i=>src Hf1 H1 g1.frz g1.sub i) fun p Hf' H' g n1 n2 r=>k p Hf' H' (g0.trans g) (g0.big.free n1) n2 r⟩
theorem eo_lcx (as:List α)(z f:α->Dt)(sl:α->List Slot)(keep:α->Bool)(hc:X.calm=true)(B:BlkX X N tn ix sc)(hi:PI X tg iter wi)(hg:∀ C fp s H,PG (blkOf X N sc C fp s H) tg g)(hsrc:SrcX X G dl (as.map z) wi)(htg:∀ a∈as,TgD X.K tn.length g (z a) (sl a))(htst:TstOk X N sc dl ix as sl keep ifs)(helt:EltX X N sc dl ix as sl keep f elt)(hn:as.length<=sizeLine)(hs:autoParam (∀ z,foldedSetIterable iter X.env z=pure z) qf):EO X G dl (.ListComp elt [⟨tg,iter,ifs,0⟩] sc pos) (.lst ((as.filter keep).map f)):=peI (pe_lcx hc B hi hg (pts_of htst) (pe_elx helt) hs) (tLcx_data hsrc htg hn)
theorem es_lcx (nN:Nat)(as:List α)(z f:α->Dt)(sl:α->List Slot)(keep:α->Bool)(hc:X.calm=true)(hN:X.N.Nodup)(B:BlkX X N tn ix sc)(hi:PI X tg iter wi)(hg:∀ C fp s H,PG (blkOf X N sc C fp s H) tg g)(hsrc:SrcX X G dl (as.map z) wi)(htg:∀ a∈as,TgD X.K tn.length g (z a) (sl a))(htst:TstOk X N sc dl ix as sl keep ifs)(helt:EltX X N sc dl ix as sl keep f elt)(hn:as.length<=sizeLine)(hs:autoParam (∀ z,foldedSetIterable iter X.env z=pure z) qf)(hsw:autoParam (swapsWith (.ListComp elt [⟨tg,iter,ifs,0⟩] sc pos) (some (.Name y py)) spos.line X.env=pure true) qc)(hy:autoParam (X.N[nN]?=some y) qc)(hl:autoParam (Loc X.env.scope y) qg)(hf:autoParam (X.fn y=true\/X.env.scope.names.lookup y=some .local) qe):ES X G E dl (.Assign [.Name y py] (.ListComp elt [⟨tg,iter,ifs,0⟩] sc pos) spos) (.nx (dl.set nN (.own (.lst ((as.filter keep).map f))))):=
 psI (ps_lcx hc B hi hg (pts_of htst) (pe_elx helt) hs hsw hN hy hl hf) fun D st H zq=>aj zq fun Hf zq=>have S:=zq.1;have k:=zq.2;tLcx_data hsrc htg hn st H _ ⟨Hf,S,fun p Hf' H' g n1 n2 r=>k _ Hf' H' g.frz (S.setN g n1 n2 r)⟩
theorem pgb_name (B:BlkX X N tn ix sc)(h:tn=[x]):∀ C fp s H,PG (blkOf X N sc C fp s H) (.Name x px) (gName 0):=fun C fp s H=>by
 have hN:(blkOf X N sc C fp s H).N[0]?=some x:=by
   show N[0]?=some x;rw[B.nm,h];rfl
 have hxl:(blkOf X N sc C fp s H).env.scope.names.lookup x=some .local:=lookup_relabel_local (B.hx x (by rw[h];simp));exact pg_name (X:=blkOf X N sc C fp s H) B.nd hN (.inl hxl) (.inr hxl)
theorem pgb_pair {k:Nat}(hc:X.calm=true)(B:BlkX X N tn ix sc)(h:tn=[x,y]):∀ C fp s H,PG (blkOf X N sc C fp s H) (.Tuple [.Name x px,.Name y py] k p) (gPair X.K):=fun C fp s H=>by
 have h0:(blkOf X N sc C fp s H).N[0]?=some x:=by
   show N[0]?=some x;rw[B.nm,h];rfl
 have h1:(blkOf X N sc C fp s H).N[1]?=some y:=by
   show N[1]?=some y;rw[B.nm,h];rfl
 have hxl:(blkOf X N sc C fp s H).env.scope.names.lookup x=some .local:=lookup_relabel_local (B.hx x (by rw[h];simp));have hyl:(blkOf X N sc C fp s H).env.scope.names.lookup y=some .local:=lookup_relabel_local (B.hx y (by rw[h];simp));exact pg_tup (X:=blkOf X N sc C fp s H) hc (pgs_cons (pg_name B.nd h0 (.inl hxl) (.inr hxl)) (pgs_cons (pg_name B.nd h1 (.inl hyl) (.inr hyl)) pgs_nil rfl) rfl) rfl rfl
end
noncomputable def chkBx (sc dsc:Scope)(XN N tn:List Str)(ix:List Nat):Bool:=
 decide N.Nodup && (decide (N=tn ++ ix.map (fun j=>XN.getD j "")) && (decide (sc.kind=.function) && (sc.names.all (fun y=>decide (y.2≠.cell)) && (sc.names.all (fun y=>decide (y.2=.local->sc.names.lookup y.1=some .local)) && (tn.all (fun x=>decide (sc.names.lookup x=some .local)) &&
   (sc.names.all (fun y=>decide (y.2=.free->dsc.names.lookup y.1=some .cell\/dsc.names.lookup y.1=some .free)) && ix.all (fun j=>decide (sc.names.lookup (XN.getD j "")=some .free) && decide (j < XN.length))))))))
theorem bx_of {X:Cx}{sc dsc:Scope}{XN N tn:List Str}{ix:List Nat}(h:chkBx sc dsc XN N tn ix=true)(e1:autoParam (X.env.scope=dsc) qc)(e2:autoParam (X.N=XN) qc):BlkX X N tn ix sc:=by
 subst e1 e2;unfold chkBx at h;simp only[bK,List.all_eq_true,decide_eq_true_eq] at h;obtain⟨h1,h2,h3,h4,h5,h6,h7,h8⟩:=h;refine⟨h1,h2,h3,h4,h5,h6,h7,fun j hj=>?_⟩;obtain⟨q1,q2⟩:=h8 j hj;refine⟨X.N.getD j "",?_,q1⟩;rw[af,ak q2];rfl
section
variable {X:Cx}{G:Gr}{E:XK}{dl:List Slot}{a b e:Expr}{d1 d2:Dt}{pos:Pos}{x y:Str}{w:Own}{u:Bool}
theorem es_par (n1 n2:Nat){px py pt pt2:Pos}{kt k2}(hN:X.N.Nodup)(hc:X.calm=true)(ha:EA X G dl [a,b] [d1,d2])(hi:autoParam (X.N[n1]?=some x) qc)(hj:autoParam (X.N[n2]?=some y) qc)(hij:autoParam (n1≠n2) qd)(hx:autoParam (X.env.scope.names.lookup x=some .local) qc)(hy:autoParam (X.env.scope.names.lookup y=some .local) qc)(hw:autoParam (swappedStores [.Tuple [.Name x px,.Name y py] kt pt] (.Tuple [a,b] k2 pt2) X.env=pure (some [x,y])) qc)(hs:autoParam (swapsWithSole [.Tuple [.Name x px,.Name y py] kt pt] (.Tuple [a,b] k2 pt2) pos.line X.env=pure false) qc):ES X G E dl (.Assign [.Tuple [.Name x px,.Name y py] kt pt] (.Tuple [a,b] k2 pt2) pos) (.nx ((dl.set n1 (.val d1)).set n2 (.val d2))):=
 psI (ps_par hc hN hi hj hij hx hy ha hw hs) fun D st H zq=>zc zq fun Hf S k=>fun vs Hf1 H1 g1 r1=>by
   cases r1 with
   | cons r1 t1=>cases t1 with
     | cons r2 t2=>
       cases t2;exact⟨_,_,rfl,k _ Hf1 H1 g1.frz (((S.grow g1).set r1).set r2)⟩
theorem unfrz {Hf H Hf1 Hf' H':Hp}(s:Same Hf H)(g:Grow Hf1 H Hf' H'):Grow Hf H Hf H':=⟨g.big,Same.refl _,s.trans g.big,fun a o h=>.inl ⟨o,h⟩⟩
theorem eb_lent (n:Nat)(h:EB X G (dl.set n (.val (dtO w))) e u)(hd:autoParam (dl[n]?=some (.own w)) qc):EB X G dl e u:=ptI h fun st H Q zq=>aj zq fun Hf zq=>have S:=zq.1;have k:=zq.2;by
 obtain⟨Hf1,_,S1⟩:=S.frz hd;exact⟨Hf1,S1,fun Hf' H' g=>k Hf H' (unfrz S.sub g)⟩
end
section
variable {X:Cx}{G:Gr}{E:XK}{dl:List Slot}{e:Expr}{d1 d2:Dt}{pos:Pos}
theorem es_unp2 (n1 n2:Nat){a b:Str}{pa pb tp:Pos}{cx:Nat}(hN:X.N.Nodup)(hc:X.calm=true)(he:EE X G dl e (.tup [d1,d2]))(hi1:autoParam (X.N[n1]?=some a) qc)(hi2:autoParam (X.N[n2]?=some b) qc)(hx1:autoParam (Loc X.env.scope a) qg)(hx2:autoParam (Loc X.env.scope b) qg)(hf1:autoParam (X.fn a=true\/X.env.scope.names.lookup a=some .local) qi)(hf2:autoParam (X.fn b=true\/X.env.scope.names.lookup b=some .local) qi)(hn:autoParam ((assignEach [.Name a pa,.Name b pb] X.env).length=2) qc)(hst:autoParam ((assignEach [.Name a pa,.Name b pb] X.env).findIdx? (·.1)=none) qc)(q1:autoParam ((assignEach [.Name a pa,.Name b pb] X.env).map (·.2)=assign (.Name a pa) X.env::(assignEach [.Name b pb] X.env).map (·.2)) qc)(q2:autoParam ((assignEach [.Name b pb] X.env).map (·.2)=assign (.Name b pb) X.env::(assignEach [] X.env).map (·.2)) qc)(hs:autoParam (swapsWithSole [.Tuple [.Name a pa,.Name b pb] cx tp] e pos.line X.env=pure false) qc)(hw:autoParam (swappedStores [.Tuple [.Name a pa,.Name b pb] cx tp] e X.env=pure none) qc)(h1:autoParam ((assignEach [.Tuple [.Name a pa,.Name b pb] cx tp] X.env).map (·.2)=[assign (.Tuple [.Name a pa,.Name b pb] cx tp) X.env]) qc):ES X G E dl (.Assign [.Tuple [.Name a pa,.Name b pb] cx tp] e pos) (.nx ((dl.set n1 (.val d1)).set n2 (.val d2))):=
 psI (ps_asg he (pg_tup hc (pgs_cons (pg_name (pos:=pa) hN hi1 hx1 hf1) (pgs_cons (pg_name (pos:=pb) hN hi2 hx2 hf2) pgs_nil q2) q1) hn hst) hs hw h1) fun D st H zq=>zc zq fun Hf S k=>fun v Hf1 H1 g1 r1=>by
   cases r1 with
   | @tup q vs _ hq rp=>
     cases rp with
     | cons r1 t1=>cases t1 with
       | cons r2 t2=>
         cases t2;exact⟨q,_,rfl,SqT_same g1.sub hq,rfl,_,_,rfl,_,_,rfl,rfl,k _ Hf1 H1 g1.frz (((S.grow g1).set r1).set r2)⟩
end
noncomputable def asciiS (x:Str):Bool:=x.cps.all (· < 128)
noncomputable def signs (x:Str):List Dt:=x.cps.toList.map fun c=>.str ⟨#[c]⟩
section
theorem boot_tuple':bootBuiltins "tuple"=some (.type "tuple"):=by decide +kernel
end
end Sg
namespace Sg
open PySem PySem.Spec PyProof.Rows L2
open Sem (wp)
structure ZApart (z tI tO j1 j2:Addr)(f1 f2:List Addr):Prop where
 tz:tI≠z
 oz:tO≠z
 az:j1≠z
 bz:j2≠z
 to:tI≠tO
 ta:tI≠j1
 tb:tI≠j2
 oa:tO≠j1
 ob:tO≠j2
 ab:j1≠j2
 z1:z ∉ f1
 o1:tO ∉ f1
 b1:j2 ∉ f1
 z2:z ∉ f2
 o2:tO ∉ f2
 a2:j1 ∉ f2
inductive ZS where
 | txt (x:Str) (t:Tok)
 | lst (l:Addr)
noncomputable def ZS.val:ZS->Value
 | .txt x t=>.str x t
 | .lst l=>.ref l
noncomputable def ZS.obj:ZS->Obj
 | .txt x t=>{ cls:=.type (strIterType x),data:=.fields #[.str x t,.int 0 0]}
 | .lst l=>{ cls:=.type "list_iterator",data:=.fields #[.ref l,.int 0 0]}
def ZS.ok (h:Heap):ZS->Prop
 | .txt x _=>asciiS x=true
 | .lst l=>∃ xs,h.IsList l xs
def ZS.at (it:Addr)(i:Nat)(h:Heap):ZS->Prop
 | .txt x t=>h.IsStrIter it "str_ascii_iterator" x t i
 | .lst l=>h.IsListIter it l i
noncomputable def ZS.v:ZS->V
 | .txt x _=>.str x
 | .lst l=>.ref l
section
inductive ZD:Dt->List Dt->Prop
 | lst (xs:List Dt):ZD (.lst xs) xs
 | str (x:Str):asciiS x=true->ZD (.str x) (Sg.signs x)
end
noncomputable def exO (C t:Addr)(od:Option Addr):Obj:={ cls:=.ref C,dict:=od,data:=.fields #[.ref t,.none,.none,.none,.bool false,.none]}
def ExB (h:Heap)(e C:Addr)(od:Option Addr):Prop:=∃ t:Addr,h.get? e=some (exO C t od)
section
variable {C:Addr}
structure StX (K:W.Frag)(C:Addr)(f:Str):Prop where
 sa:W.findIn K (.ref C) "__setattr__"=some (some (.builtin "object.__setattr__"))
 na:W.findIn K (.ref C) f=some none
 ob:W.mroIn K C (.type "object")=some true
 mr:∃ G,(W.clsIn K C).map (·.mro)=some [.ref C,.ref G,.type "ValueError",.type "Exception",.type "BaseException",.type "object"]
 hd:(W.clsIn K C).map (·.hasDict)=some true
end
noncomputable def excInI (K:PySem.W.Frag)(C:Addr)(bmB:List Value)(nw:String)(fI:Addr):Bool:=match K.lookup C with
 | some ⟨.type "type",_,.cls cd,sl⟩=>(match cd.mro,sl.toList with
   | .ref D::tl,[_,_,_,_,some (.builtin n),_]=>D == C && (n == nw && (!cd.hasDel && (PySem.W.tailIn K bmB tl && (PySem.W.nsOkIn K cd.ns && (PySem.W.nsIn K cd.ns "__init__" == some (some (.ref fI)))))))
   | _,_=>false)
 | _=>false
structure XcI (K:W.Frag)(C fI:Addr):Prop where
 ex:excInI K C bmV "ValueError.__new__" fI=true
 fn:W.typeIn K (.ref fI)=some (.type "function")
 kp:W.keepIn K (.ref C)=true
structure XcB (K:W.Frag)(G:Addr):Prop where
 sp:W.specialIn K (.ref G) "__getattribute__"=some (some (.builtin "type.__getattribute__"))
 rd:W.readsIn K G (.type "type")=true
 fc:W.findCls K (.ref G) (.type "type") "__init__"=some (.val (.builtin "ValueError.__init__"))
noncomputable abbrev xT (z C:Addr)(od:Option Addr):HO:=.ext fun h=>ExB h z C od
def spX (K:W.Frag)(C:Addr)(f:Str)(ok:Dt->Prop):Sp:=fun vs H Q E=>∃ Hf H1 z v d,vs=[.ref z,v]/\H=upd H1 z (xT z C none)/\H1 z=none/\Same Hf H1/\Rep K Hf v d/\ok d /\
 ∀ Hf2 H2 dx,Grow Hf H Hf2 H2->H2 dx=none->dx≠z->Q .non (upd (upd H2 dx (.xd [(f,v)])) z (xT z C (some dx)))
structure XF (P:Program)(w:World)(K:W.Frag)(mg:Str->Option Value)(base:Heap)(CX:CXT)(k:Nat)(x:Str)(C:Addr)(f:Str)(ok:Dt->Prop):Prop where
 ex:∃ fI fd ps,FnOk P w K mg base CX k fI fd ps (spX K C f ok)/\XcI K C fI/\mg x=some (.ref C)/\Binds K fd ps []
mutual
noncomputable def noL:Dt->Bool
 | .lst _=>false
 | .scr _=>false
 | .tup ds=>noLs ds
 | .dic kds=>noLk kds
 | .obj _ fs=>noLf fs
 | .dicF _=>false
 | .xo _=>false
 | .xof _ _=>false
 | .dicK _=>false
 | .memo _ _ _ _=>false
 | .memoY _ _ _ _=>false
 | .kno _ _ _=>false
 | .gro _ _ _ _ _=>false
 | .dicT _=>false
 | _=>true
noncomputable def noLs:List Dt->Bool
 | []=>true
 | d::r=>noL d && noLs r
noncomputable def noLk:List (Key×Dt)->Bool
 | []=>true
 | (_,d)::r=>noL d && noLk r
noncomputable def noLf:List (Str×Dt)->Bool
 | []=>true
 | (_,d)::r=>noL d && noLf r
end
structure RoomH (k:Nat)(A:Around):Prop where
 dp:A.depth+3 * k+5 < recursionLimit
 un:A.units+16 * k+200 < cLine
structure FnOkH (P:Program)(w:World)(K:W.Frag)(mg:Str->Option Value)(base:Heap)(CX:CXT)(k:Nat)(f:Addr)(fd:FuncData)(ps:List Str)(sp:Sp):Prop where
 len:∀ vs H Q E,sp vs H Q E->vs.length=ps.length
 run:∀ (A:Around) (outer:List Env) (s:Shared) (H:Hp) (args:Args) (us:List Value) (vs:List V) (Q:VK) (E:XK),RoomH k A->Env0 P w K mg base A outer s H->BindsTo s fd args (ps.zip us)->Vals vs us->sp vs H Q E ->
   codeAny (model P w) A (.call (.ref f) args) (CR CX outer P w H s Q E) s
structure GFH (P:Program)(w:World)(K:W.Frag)(mg:Str->Option Value)(base:Heap)(CX:CXT)(k:Nat)(x:Str)(n:Nat)(R:List Dt->Res->Prop):Prop where
 ex:∃ f fd ps,FnOkH P w K mg base CX k f fd ps (spR K n R)/\mg x=some (.ref f)/\W.keepIn K (.ref f)=true/\Binds K fd ps []
inductive Prs (K:W.Frag)(H:Hp):List V->List (Key×V)->Prop
 | nil:Prs K H [] []
 | cons {t:Addr} {k:Key} {v:V} {xs:List V} {kvs:List (Key×V)}:SqT K H t [kV k,v]->Prs K H xs kvs->Prs K H (.ref t::xs) ((k,v)::kvs)
section
inductive SameI:List (Key×Value)->List (Key×Value)->Prop
 | nil:SameI [] []
 | cons {k:Key} {i:Int} {t u:Tok} {xs ys:List (Key×Value)}:SameI xs ys->SameI ((k,.int i t)::xs) ((k,.int i u)::ys)
end
structure BlkC (X:Cx)(N:List Str)(xt:Str)(ix:List Nat)(sc:Scope):Prop where
 nd:N.Nodup
 nm:N=xt::ix.map (fun j=>X.N.getD j "")
 kind:sc.kind=.function
 one:sc.names.filter (fun y=>y.2 == .cell)=[(xt,.cell)]
 names:∀ y∈sc.names,y.2=.local->sc.names.lookup y.1=some .local
 hx:sc.names.lookup xt=some .cell
 nofr:∀ y∈sc.names,y.2=.free->y.1≠xt
 fr:∀ y∈sc.names,y.2=.free->X.env.kindOf y.1=some .cell\/X.env.kindOf y.1=some .free
 ixs:∀ j∈ix,∃ y,X.N[j]?=some y/\sc.names.lookup y=some .free
noncomputable def blkC (X:Cx)(N:List Str)(sc:Scope)(xt:Str)(c C:Addr)(fp:List Addr)(s:Shared)(H:Hp):Cx:=
 { X with N:=N,s₀:=s,H₀:=H,env:=compEnvC sc ((xt,c)::clOf sc X.env) C X.env,outer:=X.stack,stack:=X.stack,ex:=fp,fn:=fun y=>y == xt,pn:=[],xe:=nvr}
section
variable {X:Cx}{dl:List Slot}{a:Expr}{xt:Str}{N:List Str}{ix:List Nat}{sc:Scope}
variable {α:Type}{as:List α}{sl:α->List Slot}{keep:α->Bool}
inductive TstOkC (X:Cx)(N:List Str)(xt:Str)(sc:Scope)(dl:List Slot)(ix:List Nat)(as:List α)(sl:α->List Slot)(keep:α->Bool):List Expr->Prop
 | nil:(∀ a∈as,keep a=true)->TstOkC X N xt sc dl ix as sl keep []
 | one {ce:Expr}:(∀ a∈as,∀ c C fp s H G',EB (blkC X N sc xt c C fp s H) G' (sl a ++ blkSl dl ix) ce (keep a))->TstOkC X N xt sc dl ix as sl keep [ce]
end
noncomputable def mk:HO->Bool
 | .memo _=>true
 | .memoX _ _=>true
 | _=>false
section
variable {a:Addr}
mutual
noncomputable def noS (a:Addr):Dt->Bool
 | .tup ds=>noSs a ds
 | .lst ds=>noSs a ds
 | .dic kds=>noSk a kds
 | .dicF kds=>noSk a kds
 | .dicK kds=>noSk a kds
 | .obj _ fs=>noSf a fs
 | .xof _ fs=>noSf a fs
 | .memo b _ _ _=>decide (b≠a)
 | .gro _ _ _ _ _=>false
 | _=>true
noncomputable def noSs (a:Addr):List Dt->Bool
 | []=>true
 | d::r=>noS a d && noSs a r
noncomputable def noSk (a:Addr):List (Key×Dt)->Bool
 | []=>true
 | (_,d)::r=>noS a d && noSk a r
noncomputable def noSf (a:Addr):List (Str×Dt)->Bool
 | []=>true
 | (_,d)::r=>noS a d && noSf a r
end
end
section
variable {ns:List Int}
theorem vals_ints:∀ {ns:List Int} {its:List Value},Vals (ns.map V.int) its->IntsAre its ns
 | [],_,r=>by cases r;exact .nil
 | n::ns,_,r=>by
   cases r with
   | cons h t=>obtain⟨tk,rfl⟩:=h;exact .cons _ tk (vals_ints t)
theorem boot_sorted:bootBuiltins "sorted"=some (.builtin "sorted"):=by decide +kernel
end
section
open PySem.Builtin.Str in
end
structure Two (K:W.Frag)(G0 Hf H:Hp)(a p q:Addr)(ds xs ys:List Dt)(d6:Dt):Prop where
 tu:∃ vs v6,SqT K Hf a (vs ++ [.ref p,.ref q,v6])/\Reps K Hf vs ds/\Rep K Hf v6 d6
 lp:∃ vs,H p=some (.lst vs)/\Reps K Hf vs xs
 lq:∃ vs,H q=some (.lst vs)/\Reps K Hf vs ys
 ne:p≠q
 fp:Hf p=none
 fq:Hf q=none
 gp:G0 p=none
 gq:G0 q=none
section
variable {Hf H Hf' H':Hp}{dl:List Slot}{p:Addr}
theorem fr_of {vs:List V}(g:Grow Hf H Hf' H')(h:H p=some (.lst vs))(n:Hf p=none):Hf' p=none:=by
 cases e:Hf' p with
 | none=>rfl
 | some o=>
   obtain⟨o',h'⟩:=g.notNew h (fun z=>z) e;rw[n] at h';cases h'
def NoOwn (dl:List Slot):Prop:=∀ (i:Nat) (o:Own),dl[i]?≠some (.own o)
end
structure Thr (K:W.Frag)(G0 Hf H:Hp)(a p q h:Addr)(ds xs ys zs:List Dt)(d6:Dt):Prop where
 two:Two K G0 Hf H a p q ds xs ys d6
 lh:∃ vs,H h=some (.lst vs)/\Reps K Hf vs zs
 nph:p≠h
 nqh:q≠h
 fh:Hf h=none
 gh:G0 h=none
section
variable {dl:List Slot}
theorem noOwn_setD (no:NoOwn dl)(m:Nat)(d:Dt):NoOwn (dl.set m (.val d)):=fun j o hj=>by
 by_cases e:m=j
 . subst e
   by_cases hl:m < dl.length
   . rw[ao hl] at hj;cases hj
   . rw[aE (by simp;omega)] at hj;cases hj
 . rw[ar e] at hj;exact no j o hj
end
section
variable {G:Gr}{e b:Expr}{o:Out}
theorem th_upd {K:W.Frag}{st:L2.St}{Hf H:Hp}{dl0:List Slot}{r:Addr}{u:HO}(S:Stt K G st Hf H dl0)(no:NoOwn dl0)(fr:Hf r=none)(gr:G.H r=none):Stt K G st Hf (upd H r u) dl0:=
 ⟨⟨fun b u e=>by rw[upd_ne (ne_of_none e gr)];exact S.gr.big _ _ e,S.gr.frz,same_updO S.sub fr,S.gr.new⟩,S.len,S.val,fun i o z=>absurd z (no i o),fun i j o o' b z=>absurd z (no i o)⟩
end
structure Nst (K:W.Frag)(G0 Hf H:Hp)(a p q:Addr)(xs ys:List Dt):Prop where
 la:H a=some (.lst [.ref p,.ref q])
 lp:∃ vs,H p=some (.lst vs)/\Reps K Hf vs xs
 lq:∃ vs,H q=some (.lst vs)/\Reps K Hf vs ys
 ap:a≠p
 aq:a≠q
 pq:p≠q
 fa:Hf a=none
 fp:Hf p=none
 fq:Hf q=none
 ga:G0 a=none
 gp:G0 p=none
 gq:G0 q=none
section
variable {K:W.Frag}{G:Gr}{st:L2.St}{G0 Hf H Hf' H':Hp}{dl:List Slot}{a p q:Addr}{xs ys:List Dt}
theorem Nst.grow (T:Nst K G0 Hf H a p q xs ys)(g:Grow Hf H Hf' H'):Nst K G0 Hf' H' a p q xs ys:=by
 obtain⟨vx,hx,rx⟩:=T.lp;obtain⟨vy,hy,ry⟩:=T.lq;exact⟨g.big _ _ T.la,⟨vx,g.big _ _ hx,rx.mono g.frz⟩,⟨vy,g.big _ _ hy,ry.mono g.frz⟩,T.ap,T.aq,T.pq,fr_of g T.la T.fa,fr_of g hx T.fp,fr_of g hy T.fq,T.ga,T.gp,T.gq⟩
theorem Nst.frz (T:Nst K G.H Hf H a p q xs ys)(S:Stt K G st Hf H dl){n:Nat}(hn:st[n]?=some (some (.ref a)))(no:NoOwn dl):∃ Hf',Same Hf Hf'/\Stt K G st Hf' H (dl.set n (.val (.lst [.lst xs,.lst ys]))):=by
 obtain⟨vx,hx,rx⟩:=T.lp;obtain⟨vy,hy,ry⟩:=T.lq;let H1:=upd Hf p (.lst vx);let H2:=upd H1 q (.lst vy);let H3:=upd H2 a (.lst [.ref p,.ref q]);have s1:Same Hf H1:=same_upd T.fp;have s2:Same H1 H2:=same_upd (by show upd Hf p _ q=none;rw[upd_ne (Ne.symm T.pq)];exact T.fq);have s3:Same H2 H3:=same_upd (by show upd (upd Hf p _) q _ a=none;rw[upd_ne T.aq,upd_ne T.ap];exact T.fa);have sm:Same Hf H3:=(s1.trans s2).trans s3;have a3:H3 a=some (.lst [.ref p,.ref q]):=upd_same;have p3:H3 p=some (.lst vx):=by show upd H2 a _ p=_;rw[upd_ne (Ne.symm T.ap)];show upd H1 q _ p=_;rw[upd_ne T.pq];exact upd_same
 have q3:H3 q=some (.lst vy):=by show upd H2 a _ q=_;rw[upd_ne (Ne.symm T.aq)];exact upd_same
 have cs:∀ b o,H3 b=some o->b=a\/b=p\/b=q\/Hf b=some o:=fun b o e=>by
   by_cases e1:b=a
   . exact .inl e1
   . by_cases e2:b=q
     . exact .inr (.inr (.inl e2))
     . by_cases e3:b=p
       . exact .inr (.inl e3)
       . have e:upd H2 a _ b=some o:=e
         rw[upd_ne e1] at e;have e:upd H1 q _ b=some o:=e;rw[upd_ne e2] at e;have e:upd Hf p _ b=some o:=e;rw[upd_ne e3] at e;exact .inr (.inr (.inr e))
 refine⟨H3,sm,⟨S.gr.big,S.gr.frz.trans sm,fun b o e=>?_,fun b o e=>?_⟩,by simp[S.len],fun j d hj=>?_,fun j o hj=>?_,fun i j o o' b hi=>?_⟩
 . rcases cs b o e with rfl | rfl | rfl | z
   . rw[a3] at e;cases e;exact T.la
   . rw[p3] at e;cases e;exact hx
   . rw[q3] at e;cases e;exact hy
   . exact S.gr.sub _ _ z
 . rcases cs b o e with rfl | rfl | rfl | z
   . exact .inr (.inl T.ga)
   . exact .inr (.inl T.gp)
   . exact .inr (.inl T.gq)
   . exact S.gr.new b o z
 . by_cases e:n=j
   . subst e
     have hl:n < dl.length:=by
       have:=(aC.mp hn).1;rw[S.len] at this;exact this
     rw[ao hl] at hj;cases hj;exact⟨_,hn,.lst a3 (.cons (.lst p3 (rx.mono sm)) (.cons (.lst q3 (ry.mono sm)) .nil))⟩
   . rw[ar e] at hj
     obtain⟨v,z1,z2⟩:=S.val j d hj;exact⟨v,z1,z2.mono sm⟩
 . by_cases e:n=j
   . subst e
     by_cases hl:n < dl.length
     . rw[ao hl] at hj;cases hj
     . rw[aE (by simp;omega)] at hj;cases hj
   . rw[ar e] at hj;exact absurd hj (no j o)
 . by_cases e:n=i
   . subst e
     by_cases hl:n < dl.length
     . rw[ao hl] at hi;cases hi
     . rw[aE (by simp;omega)] at hi;cases hi
   . rw[ar e] at hi;exact absurd hi (no i o)
end
section
variable {X:Cx}{G:Gr}{E:XK}{dl:List Slot}{e ie iter:Expr}{sts:List Stmt}{o:Out}{x y:Str}{n c:Nat}{α:Type}{wi:TI}{px p0 p1 p2 py pn pq apos cpos pos pos2 pos3:Pos}
noncomputable def twoL (as:List α)(pick:α->Bool)(dd:α->Dt)(b:Bool)(k:Nat):List Dt:=((as.take k).filter fun a=>pick a == b).map dd
theorem twoL_succ {as:List α}{pick:α->Bool}{dd:α->Dt}{b:Bool}{k:Nat}{a:α}(h:as[k]?=some a):twoL as pick dd b (k+1)=if pick a == b then twoL as pick dd b k ++ [dd a] else twoL as pick dd b k:=by
 unfold twoL;rw[bS,h,List.filter_append,bQ];cases hq:pick a == b with
 | true=>simp[hq]
 | false=>simp[hq]
theorem twoL_len {as:List α}{pick:α->Bool}{dd:α->Dt}{b:Bool}{k:Nat}:(twoL as pick dd b k).length<=as.length:=by
 unfold twoL;rw[ae];exact aO (bw ..) (List.length_take_le' ..)
theorem ess_figs (n c:Nat)(as:List α)(z dd:α->Dt)(pick:α->Bool)(hcalm:X.calm=true)(hp:PassesOwn (model X.prog X.w) X.A X.env X.xe)(hN:X.N.Nodup)(hnc:n≠c)(no:NoOwn dl)(hlen:as.length < sizeLine)
   (hd:∀ f,(dl.set n (.val (.cls f)))[n]?=some (.val (.cls f))) (hle:∀ f d,Le (dl.set n (.val (.cls f))) ((dl.set n (.val (.cls f))).set c (.val d)))
   (hI:PI X (.Name y py) iter wi) (hsrc:∀ f,SrcX X G (dl.set n (.val (.cls f))) (as.map z) wi)
   (hix:∀ a∈as,∀ f,EE X G ((dl.set n (.val (.cls f))).set c (.val (z a))) ie (.int (if pick a then 1 else 0))) (he:∀ a∈as,∀ f,EE X G ((dl.set n (.val (.cls f))).set c (.val (z a))) e (dd a))
   (h2:ESs X G E (dl.set n (.val (.lst [.lst ((as.filter fun a=>pick a == false).map dd),.lst ((as.filter fun a=>pick a == true).map dd)]))) sts o)
   (hi:autoParam (X.N[n]?=some x) qc) (hx:autoParam (Loc X.env.scope x) qg) (hf:autoParam (X.fn x=true\/X.env.scope.names.lookup x=some .local) qi)
   (hv:autoParam (Vis X.env.scope x) qj) (hdb:autoParam ((x == ("__debug__":Str))=false) qd) (hcd:autoParam ((x == ("__classdict__":Str))=false) qd)
   (hyi:autoParam (X.N[c]?=some y) qc) (hyx:autoParam (Loc X.env.scope y) qg) (hyf:autoParam (X.fn y=true\/X.env.scope.names.lookup y=some .local) qi)
   (hs0:autoParam (starEach [.List [] p1,.List [] p2] X.env=(false,eval (.List [] p1) X.env)::starEach [.List [] p2] X.env) qc) (hs1:autoParam (starEach [.List [] p2] X.env=(false,eval (.List [] p2) X.env)::starEach [] X.env) qc)
   (hsw:autoParam (swapsWith (.List [.List [] p1,.List [] p2] p0) (some (.Name x px)) pos.line X.env=pure false) qc)
   (hpi:autoParam (PlainIx ie) qh)
   (hbase:autoParam (attributeBase (.Subscript (.Name x pn) ie pq) "append" X.env (eval (.Subscript (.Name x pn) ie pq) X.env)=eval (.Subscript (.Name x pn) ie pq) X.env) qc)
   (hfew:autoParam (((backTo cpos (starEach [e] X.env)).all (fun x=>!x.1) && (backToKw cpos (keywordEach [] X.env)).all (fun x=>x.1.isSome) && decide ([e].length+([]:List Keyword).length+(if ([]:List Keyword).isEmpty then 0 else 1) < 30))=true) qc)
   (hline:autoParam ((apos.endLine == cpos.line)=true) qc) (hst:autoParam (starEach [e] X.env=(false,eval e X.env)::starEach [] X.env) qc) (hs:autoParam (swapsWith (.Call (.Attribute (.Subscript (.Name x pn) ie pq) "append" apos) [e] [] cpos) none pos2.line X.env=pure false) qc)
   (hfs:autoParam (∀ z,foldedSetIterable iter X.env z=pure z) qf) :
   ESs X G E dl (.Assign [.Name x px] (.List [.List [] p1,.List [] p2] p0) pos::.For (.Name y py) iter [.Expr (.Call (.Attribute (.Subscript (.Name x pn) ie pq) "append" apos) [e] [] cpos) pos2] [] pos3::sts) o:=by
 have hbody:PSs X [.Expr (.Call (.Attribute (.Subscript (.Name x pn) ie pq) "append" apos) [e] [] cpos) pos2] (fun D st H=>∃ (a:α) (k:Nat) (Hf:Hp) (f p q:Addr),as[k]?=some a/\Stt X.K G st Hf H ((dl.set n (.val (.cls f))).set c (.val (z a)))/\Nst X.K G.H Hf H f p q (twoL as pick dd false k) (twoL as pick dd true k) /\
     ∀ st' Hf' H',Same Hf Hf'->Stt X.K G st' Hf' H' ((dl.set n (.val (.cls f))).set c (.val (z a)))->Nst X.K G.H Hf' H' f p q (twoL as pick dd false (k+1)) (twoL as pick dd true (k+1))->D.nx st' H'):=by
   intro pins s0 st H D I zq;obtain⟨a,k,Hf,f,p,q,hk,S,T,kk⟩:=zq;have ha:a∈as:=bE hk;have no2:NoOwn ((dl.set n (.val (.cls f))).set c (.val (z a))):=noOwn_setD (noOwn_setD no n _) c _;obtain⟨v,hv',rv⟩:=S.val n (.cls f) (by rw[ar (Ne.symm hnc)];exact hd f);cases rv;refine pss_cons (ps_expr (pe_bm PySem.F.plainAttrs_list PySem.F.slot_list_append PySem.F.type_list_append mt_append (pe_ix ix_list (pe_var (pos:=pn) hi hv hdb hcd) (hix a ha f) hpi) (ea_cons (he a ha f) ea_nil hst) hbase hfew hline hst rfl) hs) pss_nil pins s0 st H D I ?_;refine⟨_,hv',Hf,S,fun iv Hf1 H1 g1 r1=>?_⟩;have T1:=T.grow g1;have S1:=S.grow g1;cases hpk:pick a with
   | false=>
     rw[hpk] at r1;cases r1;obtain⟨vx,hx1,rx1⟩:=T1.lp;refine⟨f,_,0,.ref p,rfl,rfl,.of T1.la,rfl,.inl ⟨rfl,vx,.of hx1⟩,Hf1,S1,fun us Hf2 H2 g2 r2=>?_⟩;cases r2 with
     | @cons y1 _ _ _ r2 tt=>
       cases tt;have T2:=T1.grow g2;have S2:=S1.grow g2;obtain⟨vy,hy2,ry2⟩:=T2.lq;refine⟨p,vx,_,rfl,rfl,g2.big _ _ hx1,by rw[rx1.length];exact bR twoL_len hlen,?_⟩;refine kk _ Hf2 _ (g1.frz.trans g2.frz) (th_upd S2 no2 T2.fp T2.gp) ⟨by rw[upd_ne T2.ap];exact T2.la,⟨_,upd_same,?_⟩,⟨vy,by rw[upd_ne (Ne.symm T2.pq)];exact hy2,?_⟩,T2.ap,T2.aq,T2.pq,T2.fa,T2.fp,T2.fq,T2.ga,T2.gp,T2.gq⟩
       . rw[twoL_succ hk,hpk]
         exact(rx1.mono g2.frz).append (.cons r2 .nil)
       . rw[twoL_succ hk,hpk]
         exact ry2
   | true=>
     rw[hpk] at r1;cases r1;obtain⟨vx,hx1,rx1⟩:=T1.lq;refine⟨f,_,1,.ref q,rfl,rfl,.of T1.la,rfl,.inl ⟨rfl,vx,.of hx1⟩,Hf1,S1,fun us Hf2 H2 g2 r2=>?_⟩;cases r2 with
     | @cons y1 _ _ _ r2 tt=>
       cases tt;have T2:=T1.grow g2;have S2:=S1.grow g2;obtain⟨vy,hy2,ry2⟩:=T2.lp;refine⟨q,vx,_,rfl,rfl,g2.big _ _ hx1,by rw[rx1.length];exact bR twoL_len hlen,?_⟩;refine kk _ Hf2 _ (g1.frz.trans g2.frz) (th_upd S2 no2 T2.fq T2.gq) ⟨by rw[upd_ne T2.aq];exact T2.la,⟨vy,by rw[upd_ne T2.pq];exact hy2,?_⟩,⟨_,upd_same,?_⟩,T2.ap,T2.aq,T2.pq,T2.fa,T2.fp,T2.fq,T2.ga,T2.gp,T2.gq⟩
       . rw[twoL_succ hk,hpk]
         exact ry2
       . rw[twoL_succ hk,hpk]
         exact(rx1.mono g2.frz).append (.cons r2 .nil)
 refine pssI (pss_cons (ps_set hN hi hx (pe_lst (pa_cons (pe_lst pa_nil) (pa_cons (pe_lst pa_nil) pa_nil hs1) hs0)) hsw hf) (pss_cons (ps_for hp hcalm hI (pg_name hN hyi hyx hyf) hbody hfs) h2)) fun D st H zq=>aj zq fun Hf zq=>have S:=zq.1;have k:=zq.2;?_
 refine⟨aJ _,fun p hpn=>⟨aJ _,fun q hqn=>⟨?_,fun a han=>?_⟩⟩⟩
 . rw[sizeLine_eq];show 2<=16777216;decide
 have gA:Grow Hf H Hf (upd H p (.lst [])):=.allocO S.sub hpn;have gB:Grow Hf (upd H p (.lst [])) Hf (upd (upd H p (.lst [])) q (.lst [])):=.allocO gA.sub hqn;have gC:Grow Hf (upd (upd H p (.lst [])) q (.lst [])) Hf (upd (upd (upd H p (.lst [])) q (.lst [])) a (.lst [.ref p,.ref q])):=.allocO gB.sub han;have g3:=(gA.trans gB).trans gC;have hap:a≠p:=fun z=>by subst z;rw[gB.big _ _ upd_same] at han;cases han
 have haq:a≠q:=fun z=>by subst z;rw[upd_same] at han;cases han
 have hpq:p≠q:=fun z=>by subst z;rw[upd_same] at hqn;cases hqn
 have hqn0:H q=none:=gA.big.free hqn;have han0:H a=none:=(gA.trans gB).big.free han;have S1:Stt X.K G (st.set n (some (.ref a))) Hf _ (dl.set n (.val (.cls a))):=(S.grow g3).set (.cls a);have T0:Nst X.K G.H Hf (upd (upd (upd H p (.lst [])) q (.lst [])) a (.lst [.ref p,.ref q])) a p q (twoL as pick dd false 0) (twoL as pick dd true 0):=
   ⟨upd_same,⟨[],by rw[upd_ne (Ne.symm hap),upd_ne hpq];exact upd_same,.nil⟩,⟨[],by rw[upd_ne (Ne.symm haq)];exact upd_same,.nil⟩,hap,haq,hpq,S.sub.free han0,S.sub.free hpn,S.sub.free hqn0,S.gr.big.free han0,S.gr.big.free hpn,S.gr.big.free hqn0⟩
 refine hsrc a (st.set n (some (.ref a))) _ _ ⟨Hf,S1,fun J Hf0 H0 g0 src=>?_⟩;refine⟨fun i m st H=>m=as.length - i/\i<=as.length/\∃ Hf1,Same Hf0 Hf1/\Stt X.K G st Hf1 H (dl.set n (.val (.cls a)))/\Nst X.K G.H Hf1 H a p q (twoL as pick dd false i) (twoL as pick dd true i),⟨as.length,rfl,aJ _,Hf0,Same.refl _,S1.grow g0,T0.grow g0⟩,?_⟩
 rintro i m st1 H1 ⟨rfl,him,Hf1,s1,S2,T2⟩
 have sr:=src Hf1 H1 s1 S2.sub i;by_cases hlt:i < as.length
 . have hz:as[i]?=some as[i]:=ak hlt
   obtain⟨hgo,hy⟩:=sr.1 (z as[i]) (by rw[av,hz];rfl);refine .inr ⟨hgo,fun st' H'=>∃ Hf2,Same Hf0 Hf2/\Stt X.K G st' Hf2 H' (dl.set n (.val (.cls a)))/\Nst X.K G.H Hf2 H' a p q (twoL as pick dd false (i+1)) (twoL as pick dd true (i+1)),fun st' H' h=>⟨as.length - (i+1),by omega,rfl,by omega,h⟩,fun x H' y=>?_⟩;obtain⟨Hf2,g2,rv⟩:=hy x H' y;exact⟨as[i],i,Hf2,a,p,q,hz,(S2.grow g2).set rv,T2.grow g2,fun st' Hf' H' sm S' T'=>⟨Hf',(s1.trans g2.frz).trans sm,S'.weak (hle a _),T'⟩⟩
 . have e:i=as.length:=by omega
   subst e;refine .inl ⟨sr.2 (by simp),?_⟩;obtain⟨v,hv',rv⟩:=S2.val n (.cls a) (hd a);cases rv;obtain⟨Hf3,s3,S3⟩:=T2.frz S2 hv' (noOwn_setD no n _);refine⟨Hf3,?_,k.mono ((g0.frz.trans s1).trans s3)⟩;rw[List.set_set] at S3;unfold twoL at S3;rw[List.take_length] at S3;exact S3
end
end Sg
namespace Sg
open PySem PySem.W PyProof.Rows
section
variable {O:KeyOrd}{ky:Nat->O.α}{n:Nat}{I:Shared->Prop}{cmp:Nat->Nat->(Bool->Shared->Prop)->Shared->Prop}{p:Array Nat}{s:Shared}
def AskOk (O:KeyOrd)(ky:Nat->O.α)(n:Nat)(I:Shared->Prop)(cmp:Nat->Nat->(Bool->Shared->Prop)->Shared->Prop):Prop:=
 ∀ (i j:Nat) (C:Bool->Shared->Prop) (s:Shared),i < n->j < n->I s->(∀ s',I s'->C (O.blt (ky i) (ky j)) s')->cmp i j C s
def PP (n:Nat)(p:Array Nat):Prop:=p.Perm (aR n).toArray
noncomputable def KN (O:KeyOrd)(ky:Nat->O.α)(p:Array Nat)(i:Nat):O.α:=ky (p.getD i 0)
def SoT (O:KeyOrd)(ky:Nat->O.α)(p:Array Nat)(k:Nat):Prop:=∀ i j,i<=j->j < k->O.kle (KN O ky p i) (KN O ky p j)
def NoI (O:KeyOrd)(ky:Nat->O.α)(p:Array Nat)(k:Nat):Prop:=∀ i j,i<=j->j < k->O.kle (KN O ky p j) (KN O ky p i)
theorem PP.size (h:PP n p):p.size=n:=by have:=Array.Perm.size_eq h;simpa using this
theorem PP.lt (h:PP n p){i:Nat}(hi:i < n):p.getD i 0 < n:=by
 have hi':i < p.size:=by rw[h.size];exact hi
 have e:p.getD i 0=p[i]:=by simp[bU,hi']
 rw[e];have hm:p[i]∈p.toList:=by simp
 have:=(bg.mp h).mem_iff.mp hm;simpa using this
theorem KN_congr {p q:Array Nat}{i j:Nat}(h:p[i]?=q[j]?):KN O ky p i=KN O ky q j:=by
 unfold KN;rw[aB,aB,h]
theorem KN_bubble {src d:Nat}(hs:src < p.size)(hd:d<=src)(k:Nat):KN O ky (bubble p src d) k=if k=src - d then KN O ky p src else if src - d < k/\k<=src then KN O ky p (k - 1) else KN O ky p k:=by
 have e:=getElem?_bubble hs d hd k;by_cases h1:k=src - d
 . rw[if_pos h1] at e ⊢;exact KN_congr e
 . rw[if_neg h1] at e ⊢
   by_cases h2:src - d < k/\k<=src
   . rw[if_pos h2] at e ⊢;exact KN_congr e
   . rw[if_neg h2] at e ⊢;exact KN_congr e
theorem KN_mirror {i j:Nat}(hj:j<=p.size)(k:Nat):KN O ky (kas_rev p i j) k=if i<=k/\k < j then KN O ky p (i+j - 1 - k) else KN O ky p k:=by
 have e:=getElem?_mirror_all (i:=i) hj k;by_cases h1:i<=k/\k < j
 . rw[if_pos h1] at e ⊢;exact KN_congr e
 . rw[if_neg h1] at e ⊢;exact KN_congr e
theorem KN_mirror_equal {i j:Nat}(hj:j<=p.size)(heq:∀ k,i<=k->k < j->KN O ky p k=KN O ky p (j - 1))(k:Nat):KN O ky (kas_rev p i j) k=KN O ky p k:=by
 rw[KN_mirror hj]
 split
 . rw[heq _ (by omega) (by omega),heq k (by omega) (by omega)]
 . rfl
theorem PP.rev (h:PP n p)(i j:Nat):PP n (kas_rev p i j):=(mirror_perm _ _ _ _).trans h
theorem kasAsk {α:Type}{k:Bool->KasT α}{Q:α->Shared->Prop}(hc:AskOk O ky n I cmp)(hp:PP n p){i j:Nat}(hi:i < n)(hj:j < n)(hI:I s)(h:∀ s',I s'->(k (O.blt (KN O ky p i) (KN O ky p j))).kasWp cmp Q s'):(KasT.ask (p.getD i 0) (p.getD j 0) k).kasWp cmp Q s:=hc _ _ _ _ (hp.lt hi) (hp.lt hj) hI h
theorem so_asc (hc:AskOk O ky n I cmp)(hp:PP n p){Q:Nat->Shared->Prop}:∀ (f a:Nat) (s:Shared),1<=a->a+f<=n->SoT O ky p a->I s->(∀ m s',a<=m->m<=a+f->SoT O ky p m->(m=a+f\/O.klt (KN O ky p m) (KN O ky p (m - 1)))->I s'->Q m s')->(kas_asc p f a).kasWp cmp Q s
 | 0,a,s,_,_,hs,hI,h=>h a s (ag _) (ag _) hs (.inl rfl) hI
 | f+1,a,s,h1,hn,hs,hI,h=>by
   unfold kas_asc;refine kasAsk hc hp (by omega) (by omega) hI fun s' hI'=>?_
   cases hless:O.blt (KN O ky p a) (KN O ky p (a - 1))
   case true=>rw[if_pos rfl];exact h a s' (ag _) (by omega) hs (.inr hless) hI'
   case false=>
     rw[if_neg (by simp)];refine so_asc hc hp f (a+1) s' (by omega) (by omega) (fun i j hij hj=>?_) hI' fun m s'' a1 a2 a3 a4 a5=>h m s'' (by omega) (by omega) a3 (by rcases a4 with a4 | a4;exact .inl (by omega);exact .inr a4) a5
     by_cases hjx:j < a
     . exact hs i j hij hjx
     . have hj':j=a:=by omega
       subst hj';by_cases hi':i=j
       . subst hi';exact KeyOrd.kle_refl _
       . exact KeyOrd.kle_trans (hs i (j - 1) (by omega) (by omega)) hless
theorem so_tail3 (hc:AskOk O ky n I cmp)(hp:PP n p){Q:Nat×Array Nat->Shared->Prop}{m:Nat}(h1:1<=m)(hm:m<=n)(hs:NoI O ky p m)(hI:I s)(h:∀ k q s',1<=k->k<=n->PP n q->SoT O ky q k->I s'->Q (k,q) s'):(kas_tail3 m n p).kasWp cmp Q s:=by
 unfold kas_tail3;rw[KasT.kasWp_bind];refine so_asc hc (hp.rev 0 m) (n - m) m s h1 (by omega) (fun i j hij hj=>?_) hI fun k s' a1 a2 a3 _ a5=>h k _ s' (by omega) (by omega) (hp.rev 0 m) a3 a5
 have hz:m<=p.size:=by rw[hp.size];exact hm
 rw[KN_mirror hz,KN_mirror hz,if_pos (by omega),if_pos (by omega)];exact hs _ _ (by omega) (by omega)
theorem so_desc (hc:AskOk O ky n I cmp){Q:Array Nat×Nat×Nat->Shared->Prop}:∀ (f:Nat) (p:Array Nat) (x q:Nat) (s:Shared),PP n p->q+1<=x->x+f<=n->NoI O ky p x->(∀ i,x - (q+1)<=i->i < x->KN O ky p i=KN O ky p (x - 1))->I s->(∀ p' m q' s',PP n p'->x<=m->m<=n->NoI O ky p' m->q'+1<=m->(∀ i,m - (q'+1)<=i->i < m->KN O ky p' i=KN O ky p' (m - 1))->I s'->Q (p',m,q') s')->(kas_desc f p x q).kasWp cmp Q s
 | 0,p,x,q,s,hp,hq,hn,hs,he,hI,h=>h p x q s hp (ag _) (by omega) hs hq he hI
 | f+1,p,x,q,s,hp,hq,hn,hs,he,hI,h=>by
   have hz:x<=p.size:=by rw[hp.size];omega
   unfold kas_desc;refine kasAsk hc hp (by omega) (by omega) hI fun s' hI'=>?_
   cases hless:O.blt (KN O ky p x) (KN O ky p (x - 1))
   case true=>
     rw[if_pos rfl];have step1:∀ xs:Array Nat,(∀ k,KN O ky xs k=KN O ky p k)->NoI O ky xs (x+1):=by
       intro xs hk i j hij hj;rw[hk,hk];by_cases hjx:j < x
       . exact hs i j hij hjx
       . have hj':j=x:=by omega
         subst hj';by_cases hi':i=j
         . subst hi';exact KeyOrd.kle_refl _
         . exact KeyOrd.kle_trans (KeyOrd.kle_of_klt hless) (hs i (j - 1) (by omega) (by omega))
     by_cases hneq:q > 0
     . rw[if_pos hneq]
       exact so_desc hc f _ (x+1) 0 s' (hp.rev _ _) (by omega) (by omega) (step1 _ (KN_mirror_equal hz he)) (fun i h1 h2=>by congr 1;omega) hI' fun p' m q' s'' a1 a2 a3 a4 a5 a6 a7=>h p' m q' s'' a1 (by omega) a3 a4 a5 a6 a7
     . rw[if_neg hneq]
       exact so_desc hc f _ (x+1) 0 s' hp (by omega) (by omega) (step1 _ fun _=>rfl) (fun i h1 h2=>by congr 1;omega) hI' fun p' m q' s'' a1 a2 a3 a4 a5 a6 a7=>h p' m q' s'' a1 (by omega) a3 a4 a5 a6 a7
   case false=>
     rw[if_neg (by simp)];refine kasAsk hc hp (by omega) (by omega) hI' fun s2 hI2=>?_
     cases hlarger:O.blt (KN O ky p (x - 1)) (KN O ky p x)
     case true=>rw[if_pos rfl];exact h p x q s2 hp (ag _) (by omega) hs hq he hI2
     case false=>
       rw[if_neg (by simp)];have heqx:KN O ky p x=KN O ky p (x - 1):=KeyOrd.kle_antisymm hlarger hless;refine so_desc hc f p (x+1) (q+1) s2 hp (by omega) (by omega) (fun i j hij hj=>?_) (fun i h1 h2=>?_) hI2 fun p' m q' s'' a1 a2 a3 a4 a5 a6 a7=>h p' m q' s'' a1 (by omega) a3 a4 a5 a6 a7
       . by_cases hjx:j < x
         . exact hs i j hij hjx
         . have hj':j=x:=by omega
           subst hj';by_cases hi':i=j
           . subst hi';exact KeyOrd.kle_refl _
           . rw[heqx];exact hs i (j - 1) (by omega) (by omega)
       . rw[show x+1 - 1=x by omega]
         by_cases hix:i=x
         . subst hix;rfl
         . rw[heqx];exact he i (by omega) (by omega)
theorem so_descPart (hc:AskOk O ky n I cmp)(hp:PP n p){Q:Nat×Array Nat->Shared->Prop}{m:Nat}(hm:m+1<=n)(hs:NoI O ky p (m+1))(hI:I s)(h:∀ k q s',1<=k->k<=n->PP n q->SoT O ky q k->I s'->Q (k,q) s'):(kas_descPart m n p).kasWp cmp Q s:=by
 unfold kas_descPart;rw[KasT.kasWp_bind];refine so_desc hc _ p (m+1) 0 s hp (by omega) (by omega) hs (fun i h1 h2=>by congr 1;omega) hI fun p' x q s' hp' h1 h2 h3 h4 h5 hI'=>?_
 dsimp only;have hz:x<=p'.size:=by rw[hp'.size];exact h2
 by_cases hq:q > 0
 . rw[if_pos hq]
   refine so_tail3 hc (hp'.rev _ _) (by omega) h2 (fun i j hij hj=>?_) hI' h;rw[KN_mirror_equal hz h5,KN_mirror_equal hz h5];exact h3 i j hij hj
 . rw[if_neg hq]
   exact so_tail3 hc hp' (by omega) h2 h3 hI' h
theorem so_count (hc:AskOk O ky n I cmp)(hp:PP n p){Q:Nat×Array Nat->Shared->Prop}(h1:1<=n)(hI:I s)(h:∀ k q s',1<=k->k<=n->PP n q->SoT O ky q k->I s'->Q (k,q) s'):(kas_count n p).kasWp cmp Q s:=by
 unfold kas_count;rw[KasT.kasWp_bind];refine so_asc hc hp (n - 1) 1 s (ag _) (by omega) (fun i j hij hj=>by have:i=j:=(by omega);subst this;exact KeyOrd.kle_refl _) hI fun m s' a1 a2 hsn hor hI'=>?_
 have hz:m<=p.size:=by rw[hp.size];omega
 by_cases hnn:m=n
 . rw[if_pos (by simpa using hnn)]
   exact h m p s' a1 (by omega) hp hsn hI'
 . rw[if_neg (by simpa using hnn)]
   have hlt:O.klt (KN O ky p m) (KN O ky p (m - 1)):=hor.resolve_left (by omega);by_cases hgt:m > 1
   . rw[if_pos hgt]
     refine kasAsk hc hp (by omega) (by omega) hI' fun s2 hI2=>?_
     cases hrose:O.blt (KN O ky p 0) (KN O ky p (m - 1))
     case true=>rw[if_pos rfl];exact h m p s2 a1 (by omega) hp hsn hI2
     case false=>
       rw[if_neg (by simp)];have hall:∀ k,0<=k->k < m->KN O ky p k=KN O ky p (m - 1):=by
         intro k _ hk;have b1:=hsn 0 k (by omega) hk;have b2:=hsn k (m - 1) (by omega) (by omega);exact KeyOrd.kle_antisymm b2 (KeyOrd.kle_trans hrose b1)
       refine so_descPart hc (hp.rev _ _) (by omega) (fun i j hij hj=>?_) hI2 h;rw[KN_mirror_equal hz hall,KN_mirror_equal hz hall];by_cases hjn:j < m
       . rw[hall i (by omega) (by omega),hall j (by omega) hjn];exact KeyOrd.kle_refl _
       . have hj':j=m:=by omega
         subst hj';by_cases hi':i=j
         . subst hi';exact KeyOrd.kle_refl _
         . rw[hall i (by omega) (by omega)];exact KeyOrd.kle_of_klt hlt
   . rw[if_neg hgt]
     have hm1:m=1:=by omega
     subst hm1;refine so_descPart hc hp (by omega) (fun i j hij hj=>?_) hI' h;by_cases hi':i=j
     . subst hi';exact KeyOrd.kle_refl _
     . have hi0:i=0:=by omega
       have hj1:j=1:=by omega
       subst hi0;subst hj1;exact KeyOrd.kle_of_klt hlt
theorem so_place (hc:AskOk O ky n I cmp)(hp:PP n p){k:Nat}(hk:k < n)(hs:SoT O ky p k){Q:Nat->Shared->Prop}:∀ (f l r:Nat) (s:Shared),r - l<=f->l<=r->r<=k->(∀ i,i < l->O.kle (KN O ky p i) (KN O ky p k))->(∀ i,r<=i->i < k->O.klt (KN O ky p k) (KN O ky p i))->I s->(∀ l s',l<=k->(∀ i,i < l->O.kle (KN O ky p i) (KN O ky p k))->(∀ i,l<=i->i < k->O.klt (KN O ky p k) (KN O ky p i))->I s'->Q l s')->(kas_place p k f l r).kasWp cmp Q s
 | 0,l,r,s,hf,hlr,hrk,hlo,hhi,hI,h=>h l s (by omega) hlo (fun i h1 h2=>hhi i (by omega) h2) hI
 | f+1,l,r,s,hf,hlr,hrk,hlo,hhi,hI,h=>by
   unfold kas_place;by_cases hge:l >= r
   . rw[if_pos hge];exact h l s (by omega) hlo (fun i h1 h2=>hhi i (by omega) h2) hI
   . rw[if_neg hge]
     refine kasAsk hc hp hk (by omega) hI fun s' hI'=>?_
     cases hless:O.blt (KN O ky p k) (KN O ky p ((l+r) / 2))
     case true=>
       rw[if_pos rfl];exact so_place hc hp hk hs f l ((l+r) / 2) s' (by omega) (by omega) (by omega) hlo (fun i h1 h2=>KeyOrd.klt_of_klt_of_kle hless (hs _ _ h1 h2)) hI' h
     case false=>
       rw[if_neg (by simp)];exact so_place hc hp hk hs f ((l+r) / 2+1) r s' (by omega) (by omega) hrk (fun i h1=>KeyOrd.kle_trans (hs i ((l+r) / 2) (by omega) (by omega)) (show O.kle _ _ from hless)) hhi hI' h
theorem so_bin (hc:AskOk O ky n I cmp){Q:Array Nat->Shared->Prop}:∀ (f:Nat) (p:Array Nat) (k:Nat) (s:Shared),PP n p->k+f=n->SoT O ky p k->I s->(∀ q s',PP n q->SoT O ky q n->I s'->Q q s')->(kas_bin f p k).kasWp cmp Q s
 | 0,p,k,s,hp,hn,hs,hI,h=>h p s hp (by rw[show n=k by omega];exact hs) hI
 | f+1,p,k,s,hp,hn,hs,hI,h=>by
   unfold kas_bin;rw[KasT.kasWp_bind];refine so_place hc hp (by omega) hs k 0 k s (by omega) (by omega) (ag _) (fun i hi=>absurd hi (by omega)) (fun i h1 h2=>absurd h2 (by omega)) hI fun l s' hl hlo hhi hI'=>?_
   refine so_bin hc f _ (k+1) s' ((bubble_perm _ _ _).trans hp) (by omega) (fun i j hij hj=>?_) hI' h;have hks:k < p.size:=by rw[hp.size];omega
   rw[KN_bubble hks (by omega),KN_bubble hks (by omega),show k - (k - l)=l by omega]
   repeat' split
   all_goals first
     | (exfalso;omega)
     | exact KeyOrd.kle_refl _
     | exact hlo _ (by omega)
     | exact KeyOrd.kle_of_klt (hhi _ (by omega) (by omega))
     | exact hs _ _ (by omega) (by omega)
theorem so_sort (hc:AskOk O ky n I cmp){Q:Array Nat->Shared->Prop}(h1:1<=n)(hI:I s)(h:∀ q s',PP n q->SoT O ky q n->I s'->Q q s'):(kas_sort n).kasWp cmp Q s:=by
 unfold kas_sort;rw[KasT.kasWp_bind];refine so_count hc (Array.Perm.refl _) h1 hI fun k q s' a1 a2 hq hs hI'=>?_
 dsimp only;by_cases hk:k < n
 . rw[if_pos hk]
   have e:max k 1=k:=by omega
   rw[e];exact so_bin hc (n - k) q k s' hq (by omega) hs hI' h
 . rw[if_neg hk]
   exact h q s' hq (by rw[show n=k by omega];exact hs) hI'
end
end Sg
namespace Sg
open PySem
noncomputable def stp (mask:Nat)(p:SetTable.Probe):SetTable.Probe:=
 if p.more > 0 then { p with j:=p.j+1,more:=p.more - 1} else
 { p with j:=(SetTable.leap mask p.i p.perturb).1,more:=SetTable.runEnd mask (SetTable.leap mask p.i p.perturb).1 - (SetTable.leap mask p.i p.perturb).1,i:=(SetTable.leap mask p.i p.perturb).1,perturb:=(SetTable.leap mask p.i p.perturb).2}
theorem advance_eq (t:SetTable)(p:SetTable.Probe):t.advance p=stp t.mask p:=rfl
noncomputable def beg (mask:Nat)(h:Int):SetTable.Probe:={ j:=SetTable.bits h % (mask+1),more:=SetTable.runEnd mask (SetTable.bits h % (mask+1)) - SetTable.bits h % (mask+1),i:=SetTable.bits h % (mask+1),perturb:=SetTable.bits h,dummy:=none}
noncomputable def prb (mask:Nat)(h:Int):Nat->SetTable.Probe
 | 0=>beg mask h
 | m+1=>stp mask (prb mask h m)
noncomputable def sq (mask:Nat)(h:Int)(m:Nat):Nat:=(prb mask h m).j
noncomputable def bsq (mask:Nat)(h:Int):Nat->Nat×Nat
 | 0=>(SetTable.bits h % (mask+1),SetTable.bits h)
 | l+1=>SetTable.leap mask (bsq mask h l).1 (bsq mask h l).2
section
variable {mask:Nat}{h:Int}
theorem prb_dummy:∀ m,(prb mask h m).dummy=none
 | 0=>rfl
 | m+1=>by
   have:=prb_dummy m;show(stp mask (prb mask h m)).dummy=none;unfold stp;split <;> exact this
theorem runEnd_le {i:Nat}(hi:i<=mask):i<=SetTable.runEnd mask i/\SetTable.runEnd mask i<=mask/\SetTable.runEnd mask i - i<=9:=by unfold SetTable.runEnd;split <;> omega
theorem bsq_le:∀ l,(bsq mask h l).1<=mask
 | 0=>bW.mp (Nat.mod_lt _ (b5 _))
 | l+1=>bW.mp (Nat.mod_lt _ (b5 _))
def AtRun (mask:Nat)(h:Int)(l m:Nat):Prop:=prb mask h m={ j:=(bsq mask h l).1,more:=SetTable.runEnd mask (bsq mask h l).1 - (bsq mask h l).1,i:=(bsq mask h l).1,perturb:=(bsq mask h l).2,dummy:=none}
theorem atRun0:AtRun mask h 0 0:=rfl
theorem AtRun.run {l m:Nat}(a:AtRun mask h l m):∀ r,r<=SetTable.runEnd mask (bsq mask h l).1 - (bsq mask h l).1->prb mask h (m+r)={ j:=(bsq mask h l).1+r,more:=SetTable.runEnd mask (bsq mask h l).1 - (bsq mask h l).1 - r,i:=(bsq mask h l).1,perturb:=(bsq mask h l).2,dummy:=none}
 | 0,_=>a
 | r+1,hr=>by
   have ih:=a.run r (by omega);show stp mask (prb mask h (m+r))=_;rw[ih];unfold stp;rw[if_pos (show SetTable.runEnd mask (bsq mask h l).1 - (bsq mask h l).1 - r > 0 by omega)]
   congr 1
theorem AtRun.next {l m:Nat}(a:AtRun mask h l m):AtRun mask h (l+1) (m+(SetTable.runEnd mask (bsq mask h l).1 - (bsq mask h l).1)+1):=by
 have e:=a.run _ (ag _);show stp mask (prb mask h (m+(SetTable.runEnd mask (bsq mask h l).1 - (bsq mask h l).1)))=_;rw[e];unfold stp;rw[if_neg (by dsimp only;omega)];rfl
theorem runs:∀ l,∃ m,m<=10 * l/\AtRun mask h l m
 | 0=>⟨0,ag _,rfl⟩
 | l+1=>by
   obtain⟨m,h1,h2⟩:=runs l;have:=(runEnd_le (bsq_le (mask:=mask) (h:=h) l)).2.2;exact⟨_,by omega,h2.next⟩
theorem sq_le (m:Nat):sq mask h m<=mask:=by
 have all:∀ m,(prb mask h m).i<=mask/\(prb mask h m).j+(prb mask h m).more<=mask:=by
   intro m
   induction m with
   | zero=>
     have h0:(beg mask h).i<=mask:=bW.mp (Nat.mod_lt _ (b5 _));have:=runEnd_le h0;refine⟨h0,?_⟩;show(beg mask h).i+(SetTable.runEnd mask (beg mask h).i - (beg mask h).i)<=mask;omega
   | succ m ih=>
     show(stp mask (prb mask h m)).i<=mask/\(stp mask (prb mask h m)).j+(stp mask (prb mask h m)).more<=mask;unfold stp
     split
     . refine⟨ih.1,?_⟩;dsimp only;omega
     . have h0:(SetTable.leap mask (prb mask h m).i (prb mask h m).perturb).1<=mask:=bW.mp (Nat.mod_lt _ (b5 _))
       have:=runEnd_le h0;refine⟨h0,?_⟩;dsimp only;omega
 have:=(all m).2;unfold sq;omega
theorem bits_lt:SetTable.bits h < 2 ^ 64:=by
 unfold SetTable.bits;have h1:=Int.emod_nonneg h (show(2 ^ 64:Int)≠0 by decide);have h2:=Int.emod_lt_of_pos h (show(0:Int) < 2 ^ 64 by decide);have e:((2 ^ 64:Nat):Int)=2 ^ 64:=by decide
 omega
theorem bsq_pert:∀ l,(bsq mask h l).2=SetTable.bits h / 32 ^ l
 | 0=>by simp[bsq]
 | l+1=>by
   show(bsq mask h l).2 / 32=_;rw[bsq_pert l,Nat.div_div_eq_div_mul,Nat.pow_succ]
theorem bsq_pert0 (l:Nat)(hl:13<=l):(bsq mask h l).2=0:=by
 rw[bsq_pert];refine Nat.div_eq_of_lt (ay bits_lt ?_);exact aO (by decide:2 ^ 64<=32 ^ 13) (Nat.pow_le_pow_right (by decide) hl)
noncomputable def lcg (mask:Nat):Nat->Nat->Nat
 | 0,i=>i
 | n+1,i=>(lcg mask n i * 5+1) % (mask+1)
theorem bsq_lcg:∀ n,(bsq mask h (13+n)).1=lcg mask n (bsq mask h 13).1
 | 0=>rfl
 | n+1=>by
   show((bsq mask h (13+n)).1 * 5+1+(bsq mask h (13+n)).2 / 32) % (mask+1)=_;rw[bsq_pert0 _ (by omega),bsq_lcg n];rfl
theorem lcg_add (a:Nat):∀ b x,lcg mask (a+b) x=lcg mask a (lcg mask b x):=by
 induction a with
 | zero=>intro b x;rw[Nat.zero_add];rfl
 | succ a ih=>intro b x;rw[Nat.succ_add];show(lcg mask (a+b) x * 5+1) % (mask+1)=_;rw[ih];rfl
noncomputable def orb (mask:Nat):Nat->Nat->List Nat
 | 0,_=>[]
 | n+1,i=>i::orb mask n ((i * 5+1) % (mask+1))
theorem orb_mem:∀ n i j,j∈orb mask n i->∃ k,k < n/\lcg mask k i=j
 | 0,i,j,h=>by simp[orb] at h
 | n+1,i,j,h=>by
   rcases aK.mp h with rfl | h
   . exact⟨0,b5 _,rfl⟩
   . obtain⟨k,hk,e⟩:=orb_mem n _ _ h
     refine⟨k+1,by omega,?_⟩;rw[lcg_add k 1 i];exact e
def MskOk (mask:Nat):Prop:=mask=7\/mask=31\/mask=127
theorem orb_all (hm:MskOk mask):(∀ j,j < mask+1->j∈orb mask (mask+1) 0)/\lcg mask (mask+1) 0=0:=by
 rcases hm with rfl | rfl | rfl
 . exact⟨by decide +kernel,by decide +kernel⟩
 . exact⟨by decide +kernel,by decide +kernel⟩
 . exact⟨by decide +kernel,by decide +kernel⟩
theorem lcg_full (hm:MskOk mask){i j:Nat}(hi:i<=mask)(hj:j<=mask):∃ n,n<=mask/\lcg mask n i=j:=by
 obtain⟨h1,h2⟩:=orb_all hm;obtain⟨a,ha,ea⟩:=orb_mem _ _ _ (h1 i (by omega));obtain⟨b,hb,eb⟩:=orb_mem _ _ _ (h1 j (by omega));by_cases hab:a<=b
 . refine⟨b - a,by omega,?_⟩
   rw[<- ea,<- lcg_add,show b - a+a=b by omega];exact eb
 . refine⟨b+(mask+1) - a,by omega,?_⟩
   rw[<- ea,<- lcg_add,show b+(mask+1) - a+a=b+(mask+1) by omega,lcg_add,h2];exact eb
theorem bsq_all (hm:MskOk mask){j:Nat}(hj:j<=mask):∃ l,l<=13+mask/\(bsq mask h l).1=j:=by
 obtain⟨n,h1,h2⟩:=lcg_full hm (bsq_le (mask:=mask) (h:=h) 13) hj;exact⟨13+n,by omega,by rw[bsq_lcg];exact h2⟩
theorem sq_all (hm:MskOk mask){j:Nat}(hj:j<=mask):∃ m,m<=10 * (13+mask)/\sq mask h m=j:=by
 obtain⟨l,h1,h2⟩:=bsq_all (h:=h) hm hj;obtain⟨m,h3,h4⟩:=runs (mask:=mask) (h:=h) l;refine⟨m,by omega,?_⟩;unfold sq;rw[h4];exact h2
end
def Ris (xs:Array Nat):Prop:=∀ a b,a < b->b < xs.size->xs.getD a 0 < xs.getD b 0
def Lv (xs:Array Nat)(j:Nat):Prop:=∃ i,i < xs.size/\xs.getD i 0=j
theorem getD_in {xs:Array Nat}{i d e:Nat}(hi:i < xs.size):xs.getD i d=xs.getD i e:=by simp[bU,hi]
theorem below_go {xs:Array Nat}(hr:Ris xs)(j:Nat):∀ fuel lo hi,lo<=hi->hi<=xs.size->hi - lo<=fuel->(∀ k,k < lo->xs.getD k 0 < j)->(∀ k,hi<=k->k < xs.size->j<=xs.getD k 0)->SetTable.below.go xs j fuel lo hi<=xs.size/\(∀ k,k < SetTable.below.go xs j fuel lo hi->xs.getD k 0 < j)/\(∀ k,SetTable.below.go xs j fuel lo hi<=k->k < xs.size->j<=xs.getD k 0)
 | 0,lo,hi,h1,h2,h3,h4,h5=>by
   have:lo=hi:=by omega
   subst this;exact⟨h2,h4,h5⟩
 | fuel+1,lo,hi,h1,h2,h3,h4,h5=>by
   unfold SetTable.below.go;by_cases hl:lo < hi
   . rw[if_pos hl]
     dsimp only;have hm:(lo+hi) / 2 < xs.size:=by omega
     rw[getD_in (e:=0) hm];by_cases hc:xs.getD ((lo+hi) / 2) 0 < j
     . rw[if_pos hc]
       refine below_go hr j fuel _ hi (by omega) h2 (by omega) (fun k hk=>?_) h5;by_cases hk':k=(lo+hi) / 2
       . subst hk';exact hc
       . exact Nat.lt_trans (hr k _ (by omega) hm) hc
     . rw[if_neg hc]
       refine below_go hr j fuel lo _ (by omega) (by omega) (by omega) h4 (fun k hk hz=>?_);by_cases hk':k=(lo+hi) / 2
       . subst hk';omega
       . have:=hr _ k (show(lo+hi) / 2 < k by omega) hz;omega
   . rw[if_neg hl]
     have:lo=hi:=by omega
     subst this;exact⟨h2,h4,h5⟩
theorem below_spec {xs:Array Nat}(hr:Ris xs)(j:Nat):SetTable.below xs j<=xs.size/\(∀ k,k < SetTable.below xs j->xs.getD k 0 < j)/\(∀ k,SetTable.below xs j<=k->k < xs.size->j<=xs.getD k 0):=
 below_go hr j xs.size 0 xs.size (aJ _) (ag _) (by omega) (fun k hk=>absurd hk (by omega)) (fun k h1 h2=>absurd h1 (by omega))
theorem below_at {xs:Array Nat}(hr:Ris xs){i:Nat}(hi:i < xs.size):SetTable.below xs (xs.getD i 0)=i:=by
 obtain⟨h1,h2,h3⟩:=below_spec hr (xs.getD i 0);rcases bB (SetTable.below xs (xs.getD i 0)) i with h | h | h
 . have a:=h3 _ (ag _) (by omega)
   have b:=hr _ _ h hi;omega
 . exact h
 . have:=h2 i h;omega
theorem at_below {xs:Array Nat}{i j:Nat}:xs[i]?=some j->i < xs.size/\xs.getD i 0=j:=fun h=>by
 have hi:i < xs.size:=(Array.getElem?_eq_some_iff.mp h).1;exact⟨hi,by rw[aB,h];rfl⟩
theorem slot_live {t:SetTable}(hr:Ris t.place){i:Nat}(hi:i < t.place.size):t.slot (t.place.getD i 0)=.live i:=by
 unfold SetTable.slot;rw[below_at hr hi];have e:t.place[i]?=some (t.place.getD i 0):=by rw[aB,bM hi];rfl
 simp only[e,beq_self_eq_true,if_true]
theorem slot_empty {t:SetTable}(hd:t.dummies=#[]){j:Nat}(hl:¬ Lv t.place j):t.slot j=.empty:=by
 unfold SetTable.slot;have e:(t.place[SetTable.below t.place j]? == some j)=false:=by
   cases hq:(t.place[SetTable.below t.place j]? == some j) with
   | false=>rfl
   | true=>exact absurd ⟨_,at_below (by simpa using hq)⟩ hl
 have e2:SetTable.has t.dummies j=false:=by rw[hd];simp[SetTable.has]
 simp only[e,e2,ai,if_false]
structure TOk (t:SetTable)(hs:List Int):Prop where
 msk:MskOk t.mask
 dum:t.dummies=#[]
 len:t.place.size=hs.length
 ris:Ris t.place
 bnd:∀ a,a < t.place.size->t.place.getD a 0<=t.mask
 few:hs.length<=t.mask
 pth:∀ i,i < hs.length->∃ m,sq t.mask (hs.getD i 0) m=t.place.getD i 0/\∀ m',m' < m->Lv t.place (sq t.mask (hs.getD i 0) m')
section
variable {t:SetTable}{hs:List Int}{h:Int}
theorem TOk.gave (T:TOk t hs):t.gaveWay=false:=by
 unfold SetTable.gaveWay;rcases T.msk with h | h | h <;> rw[h] <;> rfl
theorem TOk.fits (T:TOk t hs):t.fits hs.length=true:=by
 unfold SetTable.fits SetTable.fill;rw[T.len,T.dum];have:=T.few;simp[this]
theorem lv_mem {xs:Array Nat}{j:Nat}:Lv xs j ↔ j∈xs.toList:=by
 constructor
 . rintro⟨i,hi,rfl⟩
   have e:xs.getD i 0=xs[i]:=by simp[bU,hi]
   rw[e];simp
 . intro h
   obtain⟨i,hi,e⟩:=List.getElem_of_mem h;refine⟨i,by simpa using hi,?_⟩;have hi':i < xs.size:=by simpa using hi
   have e2:xs.getD i 0=xs[i]:=by simp[bU,hi']
   rw[e2,<- e];simp
theorem TOk.hole (T:TOk t hs):∃ j,j<=t.mask/\¬ Lv t.place j:=by
 refine bN fun hn=>?_
 have hall:aR (t.mask+1) ⊆ t.place.toList:=fun j hj=>by
   have hj':j<=t.mask:=by have:=aQ.mp hj;omega
   refine lv_mem.mp (bN fun hl=>hn ⟨j,hj',hl⟩)
 have:=List.Nodup.length_le_of_subset List.nodup_range hall;rw[aX,ba,T.len] at this;have:=T.few;omega
theorem TOk.stop (T:TOk t hs)(h:Int):∃ m,m<=10 * (13+t.mask)/\¬ Lv t.place (sq t.mask h m):=by
 obtain⟨j,h1,h2⟩:=T.hole;obtain⟨m,h3,h4⟩:=sq_all (h:=h) T.msk h1;exact⟨m,h3,by rw[h4];exact h2⟩
theorem TOk.go (T:TOk t hs){ha:Nat->Int}(hh:∀ i,i < hs.length->ha i=hs.getD i 0):∀ fuel m,(∀ m',m' < m->Lv t.place (sq t.mask h m'))->(∃ m',m' < m+fuel/\¬ Lv t.place (sq t.mask h m'))->∃ m1,m<=m1/\(∀ m',m' < m1->Lv t.place (sq t.mask h m'))/\(∀ i m',i < hs.length->m<=m'->m' < m1->t.place.getD i 0=sq t.mask h m'->hs.getD i 0≠h)/\((¬ Lv t.place (sq t.mask h m1)/\SetTable.probe.go t ha h fuel (prb t.mask h m)=some (.empty (sq t.mask h m1) none))\/∃ i,i < hs.length/\t.place.getD i 0=sq t.mask h m1/\hs.getD i 0=h/\SetTable.probe.go t ha h fuel (prb t.mask h m)=some (.candidate (sq t.mask h m1) i (prb t.mask h (m1+1))))
 | 0,m,h1,h2=>by obtain⟨m',h3,h4⟩:=h2;exact absurd (h1 m' (by omega)) h4
 | fuel+1,m,h1,h2=>by
   by_cases hl:Lv t.place (sq t.mask h m)
   . obtain⟨i,hi,e⟩:=hl
     have hi':i < hs.length:=by rw[<- T.len];exact hi
     have es:t.slot (prb t.mask h m).j=.live i:=by
       show t.slot (sq t.mask h m)=_;rw[<- e];exact slot_live T.ris hi
     have eg:SetTable.probe.go t ha h (fuel+1) (prb t.mask h m)=if (ha i == h)=true then some (.candidate (prb t.mask h m).j i (t.advance (prb t.mask h m))) else SetTable.probe.go t ha h fuel (t.advance (prb t.mask h m)):=by
       rw[SetTable.probe.go,es]
     by_cases hq:hs.getD i 0=h
     . refine⟨m,ag _,h1,fun i m' _ a b=>absurd a (by omega),.inr ⟨i,hi',e,hq,?_⟩⟩
       rw[eg,if_pos (by rw[hh i hi',hq];simp)];rfl
     . obtain⟨m1,a1,a2,a3,a4⟩:=T.go hh fuel (m+1) (fun m' hm'=>by
         by_cases hm:m'=m
         . subst hm;exact⟨i,hi,e⟩
         . exact h1 m' (by omega)) (let ⟨m',b1,b2⟩:=h2;⟨m',by omega,b2⟩)
       refine⟨m1,by omega,a2,fun i' m' c1 c2 c3 c4=>?_,?_⟩
       . by_cases hm:m'=m
         . subst hm
           have hii:i'=i:=by
             have hz:i' < t.place.size:=by rw[T.len];exact c1
             rcases bB i' i with q | q | q
             . have:=T.ris _ _ q hi;omega
             . exact q
             . have:=T.ris _ _ q hz;omega
           subst hii;exact hq
         . exact a3 i' m' c1 (by omega) c3 c4
       . rw[eg,if_neg (by rw[hh i hi'];simpa using hq),advance_eq]
         exact a4
   . refine⟨m,ag _,h1,fun i m' _ a b=>absurd a (by omega),.inl ⟨hl,?_⟩⟩
     have es:t.slot (prb t.mask h m).j=.empty:=slot_empty T.dum hl;rw[SetTable.probe.go,es];show some (SetTable.Met.empty (prb t.mask h m).j (prb t.mask h m).dummy)=_;rw[prb_dummy];rfl
theorem TOk.probe (T:TOk t hs){ha:Nat->Int}(hh:∀ i,i < hs.length->ha i=hs.getD i 0){m:Nat}(h1:∀ m',m' < m->Lv t.place (sq t.mask h m')):∃ m1,m<=m1/\m1<=10 * (13+t.mask)/\(∀ m',m' < m1->Lv t.place (sq t.mask h m'))/\(∀ i m',i < hs.length->m<=m'->m' < m1->t.place.getD i 0=sq t.mask h m'->hs.getD i 0≠h)/\((¬ Lv t.place (sq t.mask h m1)/\t.probe ha h (prb t.mask h m)=some (.empty (sq t.mask h m1) none))\/∃ i,i < hs.length/\t.place.getD i 0=sq t.mask h m1/\hs.getD i 0=h/\t.probe ha h (prb t.mask h m)=some (.candidate (sq t.mask h m1) i (prb t.mask h (m1+1)))):=by
 obtain⟨m',h3,h4⟩:=T.stop h;obtain⟨m1,a1,a2,a3,a4⟩:=T.go (h:=h) hh (10 * SetTable.turns t.mask) m h1 ⟨m',by unfold SetTable.turns;omega,h4⟩;refine⟨m1,a1,bJ fun hlt=>h4 (a2 m' (by omega)),a2,a3,a4⟩
end
theorem getD_insertAt {xs:Array Nat}{p x:Nat}(hp:p<=xs.size)(k:Nat):(SetTable.insertAt xs p x).getD k 0=if k < p then xs.getD k 0 else if k=p then x else xs.getD (k - 1) 0:=by
 have e:∀ ys:Array Nat,ys.getD k 0=ys.toList.getD k 0:=fun ys=>by rw[aB,af,bx]
 have e':∀ k,xs.getD k 0=xs.toList.getD k 0:=fun k=>by rw[aB,af,bx]
 rw[e,SetTable.toList_insertAt,e',e',af,List.getElem?_append,bb,ba,Nat.min_eq_left hp];by_cases h1:k < p
 . rw[if_pos h1,if_pos h1,bP h1,af]
 . rw[if_neg h1,if_neg h1]
   by_cases h2:k=p
   . subst h2;rw[if_pos rfl,Nat.sub_self];rfl
   . rw[if_neg h2]
     obtain⟨d,hd⟩:∃ d,k - p=d+1:=⟨k - p - 1,by omega⟩
     rw[hd,aW,List.getElem?_drop,show p+d=k - 1 by omega,af]
theorem size_insertAt {α:Type}{xs:Array α}{p:Nat}{x:α}:(SetTable.insertAt xs p x).size=xs.size+1:=by
 have:=(SetTable.insertAt_perm xs p x).length_eq;simpa using this
noncomputable def insL {α:Type}(xs:List α)(p:Nat)(x:α):List α:=xs.take p ++ x::xs.drop p
theorem getD_insL {α:Type}{xs:List α}{p:Nat}{x d:α}(hp:p<=xs.length)(k:Nat):(insL xs p x).getD k d=if k < p then xs.getD k d else if k=p then x else xs.getD (k - 1) d:=by
 unfold insL;rw[af,List.getElem?_append,bb,Nat.min_eq_left hp];by_cases h1:k < p
 . rw[if_pos h1,if_pos h1,bP h1,af]
 . rw[if_neg h1,if_neg h1]
   by_cases h2:k=p
   . subst h2;rw[if_pos rfl,Nat.sub_self];rfl
   . rw[if_neg h2]
     obtain⟨e,he⟩:∃ e,k - p=e+1:=⟨k - p - 1,by omega⟩
     rw[he,aW,List.getElem?_drop,show p+e=k - 1 by omega,af]
theorem len_insL {α:Type}{xs:List α}{p:Nat}{x:α}(hp:p<=xs.length):(insL xs p x).length=xs.length+1:=by
 unfold insL;rw[aI,bf,bb,List.length_drop];omega
theorem lv_ins {xs:Array Nat}{p x j:Nat}(hp:p<=xs.size):Lv (SetTable.insertAt xs p x) j ↔ Lv xs j\/j=x:=by
 rw[lv_mem,lv_mem,(SetTable.insertAt_perm xs p x).mem_iff,Array.toList_push,br,bq]
section
variable {t:SetTable}{hs:List Int}{h:Int}
theorem TOk.put (T:TOk t hs){m:Nat}(hn:¬ Lv t.place (sq t.mask h m))(hl:∀ m',m' < m->Lv t.place (sq t.mask h m'))(hf:hs.length+1<=t.mask):(t.put (sq t.mask h m)).2<=hs.length/\(t.put (sq t.mask h m)).1.mask=t.mask/\(t.put (sq t.mask h m)).1.led=t.led/\(t.put (sq t.mask h m)).1.plain=t.plain/\(t.put (sq t.mask h m)).1.moves=t.moves/\TOk (t.put (sq t.mask h m)).1 (insL hs (t.put (sq t.mask h m)).2 h):=by
 obtain⟨b1,b2,b3⟩:=below_spec T.ris (sq t.mask h m);have hp:(t.put (sq t.mask h m)).2<=hs.length:=by rw[<- T.len];exact b1
 have ed:(t.put (sq t.mask h m)).1.dummies=#[]:=by
   show(if SetTable.has t.dummies (sq t.mask h m)=true then _ else t.dummies)=_;rw[if_neg (by rw[T.dum];simp[SetTable.has])];exact T.dum
 refine⟨hp,rfl,rfl,rfl,rfl,T.msk,ed,?_,?_,?_,?_,?_⟩
 . show(SetTable.insertAt t.place _ _).size=_
   rw[size_insertAt,len_insL hp,T.len]
 . intro a b hab hb
   have hb':b < t.place.size+1:=by rw[<- size_insertAt];exact hb
   show(SetTable.insertAt t.place (SetTable.below t.place (sq t.mask h m)) (sq t.mask h m)).getD a 0 < (SetTable.insertAt t.place (SetTable.below t.place (sq t.mask h m)) (sq t.mask h m)).getD b 0;rw[getD_insertAt b1,getD_insertAt b1];have b4:∀ k,SetTable.below t.place (sq t.mask h m)<=k->k < t.place.size->sq t.mask h m < t.place.getD k 0:=fun k h1 h2=>Nat.lt_of_le_of_ne (b3 k h1 h2) fun e=>hn ⟨k,h2,e.symm⟩
   repeat' split
   . exact T.ris _ _ hab (by omega)
   . exact b2 _ (by assumption)
   . exact T.ris _ _ (by omega) (by omega)
   . exfalso;omega
   . exfalso;omega
   . exact b4 _ (by omega) (by omega)
   . exfalso;omega
   . exfalso;omega
   . exact T.ris _ _ (by omega) (by omega)
 . intro a ha
   have ha':a < t.place.size+1:=by rw[<- size_insertAt];exact ha
   show(SetTable.insertAt t.place (SetTable.below t.place (sq t.mask h m)) (sq t.mask h m)).getD a 0<=t.mask;rw[getD_insertAt b1]
   repeat' split
   . exact T.bnd _ (by omega)
   . exact sq_le _
   . exact T.bnd _ (by omega)
 . rw[len_insL hp];exact hf
 . intro i hi
   rw[len_insL hp] at hi;have key:∀ x:Int,(∃ m',sq t.mask x m'=(SetTable.insertAt t.place (SetTable.below t.place (sq t.mask h m)) (sq t.mask h m)).getD i 0/\∀ m'',m'' < m'->Lv t.place (sq t.mask x m'')) ->
       ∃ m',sq t.mask x m'=(SetTable.insertAt t.place (SetTable.below t.place (sq t.mask h m)) (sq t.mask h m)).getD i 0/\∀ m'',m'' < m'->Lv (SetTable.insertAt t.place (SetTable.below t.place (sq t.mask h m)) (sq t.mask h m)) (sq t.mask x m''):=
     fun x ⟨m',e,hm'⟩=>⟨m',e,fun m'' hm''=>(lv_ins b1).mpr (.inl (hm' m'' hm''))⟩
   refine key ((insL hs (SetTable.below t.place (sq t.mask h m)) h).getD i 0) ?_;rw[getD_insL (by rw[<- T.len];exact b1),getD_insertAt b1];have hz:=T.len
   repeat' split
   . exact T.pth i (by omega)
   . exact⟨m,rfl,hl⟩
   . exact T.pth (i - 1) (by omega)
end
structure OOk (mask:Nat)(ow:Array (Option Nat))(hs:List Int):Prop where
 size:ow.size=mask+1
 cov:∀ k,k < hs.length->∃ j,j<=mask/\ow.getD j none=some k/\∃ m,sq mask (hs.getD k 0) m=j/\∀ m',m' < m->(ow.getD (sq mask (hs.getD k 0) m') none).isSome
 uni:∀ j k,ow.getD j none=some k->k < hs.length
 inj:∀ j j' k,ow.getD j none=some k->ow.getD j' none=some k->j=j'
section
variable {mask:Nat}{ow:Array (Option Nat)}{hs:List Int}{h:Int}
theorem free_go (hz:ow.size=mask+1):∀ f l m,AtRun mask h l m->(∀ m',m' < m->(ow.getD (sq mask h m') none).isSome)->(∃ l',l<=l'/\l' < l+f/\ow.getD (bsq mask h l').1 none=none)->∃ j,SetTable.layClean.free mask ow f (bsq mask h l).1 (bsq mask h l).2=some j/\ow.getD j none=none/\∃ m',sq mask h m'=j/\∀ m'',m'' < m'->(ow.getD (sq mask h m'') none).isSome
 | 0,l,m,_,_,⟨l',a,b,_⟩=>absurd a (by omega)
 | f+1,l,m,hr,hm,⟨l',a,b,c⟩=>by
   have hb:=bsq_le (mask:=mask) (h:=h) l;obtain⟨r1,r2,r3⟩:=runEnd_le hb;have hsame:∀ k,k < SetTable.runEnd mask (bsq mask h l).1+1 - (bsq mask h l).1->(ow.getD ((bsq mask h l).1+k) (some 0))=ow.getD ((bsq mask h l).1+k) none:=fun k hk=>by
     have:(bsq mask h l).1+k < ow.size:=by omega
     simp[bU,this]
   have hsq:∀ k,k < SetTable.runEnd mask (bsq mask h l).1+1 - (bsq mask h l).1->sq mask h (m+k)=(bsq mask h l).1+k:=fun k hk=>by
     unfold sq;rw[hr.run k (by omega)]
   rw[SetTable.layClean.free];cases hq:(aR (SetTable.runEnd mask (bsq mask h l).1+1 - (bsq mask h l).1)).find? fun k=>(ow.getD ((bsq mask h l).1+k) (some 0)).isNone with
   | some k=>
     obtain⟨q1,q2,q3⟩:=List.find?_range_eq_some.mp hq;have hk:=aQ.mp q2;refine⟨(bsq mask h l).1+k,rfl,?_,m+k,hsq k hk,fun m'' hm''=>?_⟩
     . rw[hsame k hk] at q1;simpa using q1
     . by_cases hlt:m'' < m
       . exact hm m'' hlt
       . have q4:=q3 (m'' - m) (by omega)
         have e:=hsq (m'' - m) (by omega);rw[show m+(m'' - m)=m'' by omega] at e;rw[hsame _ (by omega)] at q4;rw[e];cases hw:ow.getD ((bsq mask h l).1+(m'' - m)) none with
         | none=>rw[hw] at q4;simp at q4
         | some _=>rfl
   | none=>
     have q3:=List.find?_range_eq_none.mp hq;have own:∀ k,k < SetTable.runEnd mask (bsq mask h l).1+1 - (bsq mask h l).1->(ow.getD ((bsq mask h l).1+k) none).isSome:=fun k hk=>by
       have q4:=q3 k hk;rw[hsame k hk] at q4;cases hw:ow.getD ((bsq mask h l).1+k) none with
       | none=>rw[hw] at q4;simp at q4
       | some _=>rfl
     have hne:l'≠l:=fun e=>by
       subst e;have:=own 0 (by omega);rw[Nat.add_zero,c] at this;cases this
     refine free_go hz f (l+1) _ hr.next (fun m' hm'=>?_) ⟨l',by omega,by omega,c⟩
     by_cases hlt:m' < m
     . exact hm m' hlt
     . have e:=hsq (m' - m) (by omega)
       rw[show m+(m' - m)=m' by omega] at e;rw[e];exact own _ (by omega)
theorem OOk.hole (o:OOk mask ow hs)(hf:hs.length<=mask):∃ j,j<=mask/\ow.getD j none=none:=by
 refine bN fun hn=>?_
 have hall:∀ j,j<=mask->∃ k,ow.getD j none=some k:=fun j hj=>by
   cases hq:ow.getD j none with
   | none=>exact absurd ⟨j,hj,hq⟩ hn
   | some k=>exact⟨k,rfl⟩
 have hnd:((aR (mask+1)).map fun j=>(ow.getD j none).getD 0).Nodup:=by
   rw[List.Nodup,bT];refine b7.imp_of_mem (fun {a b} ha hb hab=>?_) (List.nodup_range (n:=mask+1));obtain⟨k,ek⟩:=hall a (by have:=aQ.mp ha;omega);obtain⟨k',ek'⟩:=hall b (by have:=aQ.mp hb;omega);rw[ek,ek'];intro e;have e:k=k':=e;subst e;exact hab (o.inj a b k ek ek')
 have hsub:((aR (mask+1)).map fun j=>(ow.getD j none).getD 0) ⊆ aR hs.length:=fun x hx=>by
   obtain⟨j,hj,rfl⟩:=bh.mp hx;obtain⟨k,ek⟩:=hall j (by have:=aQ.mp hj;omega);rw[ek];exact aQ.mpr (o.uni j k ek)
 have:=List.Nodup.length_le_of_subset hnd hsub;rw[ae,aX,aX] at this;omega
theorem OOk.free (o:OOk mask ow hs)(hm:MskOk mask)(hf:hs.length<=mask)(h:Int):∃ j,SetTable.layClean.free mask ow (SetTable.turns mask) (SetTable.bits h % (mask+1)) (SetTable.bits h)=some j/\ow.getD j none=none/\∃ m',sq mask h m'=j/\∀ m'',m'' < m'->(ow.getD (sq mask h m'') none).isSome:=by
 obtain⟨j,h1,h2⟩:=o.hole hf;obtain⟨l,h3,h4⟩:=bsq_all (h:=h) hm h1;exact free_go o.size (SetTable.turns mask) 0 0 atRun0 (fun m' hm'=>absurd hm' (by omega)) ⟨l,aJ _,by unfold SetTable.turns;omega,by rw[h4];exact h2⟩
theorem getD_set {α:Type}{xs:Array (Option α)}{j:Nat}{v:Option α}(hj:j < xs.size)(k:Nat):(xs.setIfInBounds j v).getD k none=if k=j then v else xs.getD k none:=by
 rw[aB,Array.getElem?_setIfInBounds];by_cases e:j=k
 . subst e;simp[hj]
 . rw[if_neg e,if_neg (fun q=>e q.symm),aB]
theorem OOk.add (o:OOk mask ow hs){j m:Nat}(hj:ow.getD j none=none)(hm:sq mask h m=j)(hl:∀ m',m' < m->(ow.getD (sq mask h m') none).isSome):OOk mask (ow.setIfInBounds j (some hs.length)) (hs ++ [h]):=by
 have hj':j<=mask:=by rw[<- hm];exact sq_le _
 have hz:j < ow.size:=by rw[o.size];omega
 have keep:∀ x,(ow.getD x none).isSome->((ow.setIfInBounds j (some hs.length)).getD x none).isSome:=fun x hx=>by rw[getD_set hz];split;rfl;exact hx
 have old:∀ k,k < hs.length->(hs ++ [h]).getD k 0=hs.getD k 0:=fun k hk=>by rw[af,aH hk,af]
 have new:(hs ++ [h]).getD hs.length 0=h:=by rw[af,aG (ag _),Nat.sub_self];rfl
 refine⟨by rw[Array.size_setIfInBounds];exact o.size,fun k hk=>?_,fun x k e=>?_,fun x x' k e e'=>?_⟩
 . rw[aI,aY] at hk
   by_cases hk':k=hs.length
   . subst hk'
     rw[new];exact⟨j,hj',by rw[getD_set hz,if_pos rfl],m,hm,fun m' hm'=>keep _ (hl m' hm')⟩
   . obtain⟨x,a1,a2,m',a3,a4⟩:=o.cov k (by omega)
     rw[old k (by omega)];refine⟨x,a1,?_,m',a3,fun m'' hm''=>keep _ (a4 m'' hm'')⟩;rw[getD_set hz,if_neg (fun q=>?_)];exact a2;subst q;rw[hj] at a2;cases a2
 . rw[getD_set hz] at e
   rw[aI,aY]
   split at e
   . cases e;omega
   . have:=o.uni x k e;omega
 . rw[getD_set hz] at e e'
   split at e <;> split at e'
   . rename_i q1 q2;rw[q1,q2]
   . cases e;have:=o.uni x' _ e';omega
   . cases e';have:=o.uni x _ e;omega
   . exact o.inj x x' k e e'
theorem lay_fold (hm:MskOk mask):∀ (l:List Int) (hs:List Int) (ow:Array (Option Nat)),OOk mask ow hs->hs.length+l.length<=mask ->
   ∃ ow',l.foldl (fun(acc:Option (Array (Option Nat)×Nat)) h=>do
       let (owner,k) <- acc;let j <- SetTable.layClean.free mask owner (SetTable.turns mask) (SetTable.bits h % (mask+1)) (SetTable.bits h)
       pure (owner.setIfInBounds j (some k),k+1)) (some (ow,hs.length))=some (ow',hs.length+l.length)/\OOk mask ow' (hs ++ l)
 | [],hs,ow,o,_=>⟨ow,rfl,by rw[aU];exact o⟩
 | h::l,hs,ow,o,hf=>by
   rw[bf] at hf;obtain⟨j,h1,h2,m,h3,h4⟩:=o.free hm (by omega) h;have o':=o.add h2 h3 h4;obtain⟨ow',e,o2⟩:=lay_fold hm l _ _ o' (by rw[aI,aY];omega);refine⟨ow',?_,by rw[List.append_assoc] at o2;exact o2⟩;rw[List.foldl_cons];have e2:(do
       let (owner,k) <- (some (ow,hs.length):Option (Array (Option Nat)×Nat));let j <- SetTable.layClean.free mask owner (SetTable.turns mask) (SetTable.bits h % (mask+1)) (SetTable.bits h)
       pure (owner.setIfInBounds j (some k),k+1))=some (ow.setIfInBounds j (some hs.length),hs.length+1):=by
     show(do
       let j <- SetTable.layClean.free mask ow (SetTable.turns mask) (SetTable.bits h % (mask+1)) (SetTable.bits h)
       pure (ow.setIfInBounds j (some hs.length),hs.length+1))=_
     rw[h1];rfl
   rw[e2];rw[aI,aY] at e;rw[e,bf,Nat.add_assoc,Nat.add_comm 1]
theorem laid_ok (hm:MskOk mask)(hf:hs.length<=mask)(fi mo:Nat)(le pl:Bool):∃ (t':SetTable) (order:Array Nat),SetTable.laid mask fi mo le pl hs.toArray=some (t',order)/\t'.mask=mask/\t'.led=le/\t'.plain=pl/\t'.moves=mo/\order.toList.Perm (aR hs.length)/\TOk t' (order.toList.map fun k=>hs.getD k 0):=by
 have o0:OOk mask (Array.replicate (mask+1) none) []:=by
   have e:∀ j,(Array.replicate (mask+1) (none:Option Nat)).getD j none=none:=fun j=>by
     rw[aB,Array.getElem?_replicate];split <;> rfl
   exact⟨Array.size_replicate,fun k hk=>absurd hk (by simp),fun j k q=>(by rw[e] at q;cases q),fun j j' k q=>(by rw[e] at q;cases q)⟩
 obtain⟨ow,e,o⟩:=lay_fold hm hs [] _ o0 (by rw[List.length_nil,Nat.zero_add];exact hf);rw[List.nil_append] at o;have el:SetTable.layClean mask hs.toArray=some ow:=by
   unfold SetTable.layClean;rw[<- Array.foldl_toList];have e':=e;rw[List.length_nil] at e';show Option.map _ (List.foldl _ (some (Array.replicate (mask+1) none,0)) hs)=_;rw[e'];rfl
 let lv:=(aR (mask+1)).filterMap fun j=>(ow.getD j none).map fun k=>(j,k)
 have hmem:∀ j k,(j,k)∈lv ↔ j<=mask/\ow.getD j none=some k:=fun j k=>by
   rw[List.mem_filterMap];constructor
   . rintro⟨a,ha,q⟩
     cases hw:ow.getD a none with
     | none=>rw[hw] at q;cases q
     | some c=>rw[hw] at q;cases q;exact⟨by have:=aQ.mp ha;omega,hw⟩
   . rintro⟨a,b⟩
     exact⟨j,aQ.mpr (by omega),by rw[b];rfl⟩
 have hpw:lv.Pairwise fun a b=>a.1 < b.1:=by
   refine b7.filterMap _ (fun a a' haa b hb b' hb'=>?_) List.pairwise_lt_range;cases hw:ow.getD a none with
   | none=>rw[hw] at hb;cases hb
   | some c=>
     cases hw':ow.getD a' none with
     | none=>rw[hw'] at hb';cases hb'
     | some c'=>rw[hw] at hb;rw[hw'] at hb';cases hb;cases hb';exact haa
 have hon:(lv.map (·.2)).Nodup:=by
   rw[List.Nodup,bT];refine b7.imp_of_mem (fun {a b} ha hb hab=>?_) hpw;obtain⟨a1,a2⟩:=a;obtain⟨b1,b2⟩:=b;intro q;have q:a2=b2:=q;subst q;have:=o.inj _ _ _ ((hmem _ _).mp ha).2 ((hmem _ _).mp hb).2;have hab:a1 < b1:=hab;omega
 have hperm:(lv.map (·.2)).Perm (aR hs.length):=by
   refine(bG hon List.nodup_range).mpr fun k=>?_
   rw[aQ,bh];constructor
   . rintro⟨⟨j,k'⟩,hq,rfl⟩
     exact o.uni j _ ((hmem _ _).mp hq).2
   . intro hk
     obtain⟨j,a1,a2,_⟩:=o.cov k hk;exact⟨(j,k),(hmem _ _).mpr ⟨a1,a2⟩,rfl⟩
 have hlen:lv.length=hs.length:=by have:=hperm.length_eq;rw[ae,aX] at this;exact this
 refine⟨{ mask,place:=(lv.map (·.1)).toArray,dummies:=#[],finger:=fi,led:=le,moves:=mo,plain:=pl},(lv.map (·.2)).toArray,?_,rfl,rfl,rfl,rfl,hperm,?_⟩
 . unfold SetTable.laid
   rw[el];rfl
 . have gp:∀ i (hi:i < lv.length),(lv.map (·.1)).toArray.getD i 0=lv[i].1:=fun i hi=>by
     rw[aB];simp[hi]
   have hsz:(lv.map (·.1)).toArray.size=lv.length:=by simp
   refine⟨hm,rfl,?_,?_,?_,?_,?_⟩
   . show(lv.map (·.1)).toArray.size=_
     simp
   . intro a b hab hb
     have hb':b < lv.length:=by rw[<- hsz];exact hb
     show(lv.map (·.1)).toArray.getD a 0 < (lv.map (·.1)).toArray.getD b 0;rw[gp a (by omega),gp b hb'];exact List.pairwise_iff_getElem.mp hpw a b (by omega) hb' hab
   . intro a ha
     have ha':a < lv.length:=by rw[<- hsz];exact ha
     show(lv.map (·.1)).toArray.getD a 0<=mask;rw[gp a ha'];exact((hmem _ _).mp (bL ha')).1
   . simp only[ae];rw[hlen];exact hf
   . intro i hi
     have hi':i < lv.length:=by simpa using hi
     have eh:((lv.map (·.2)).map fun k=>hs.getD k 0).getD i 0=hs.getD lv[i].2 0:=by rw[af];simp[hi']
     show ∃ m,sq mask (((lv.map (·.2)).map fun k=>hs.getD k 0).getD i 0) m=(lv.map (·.1)).toArray.getD i 0/\∀ m',m' < m->Lv (lv.map (·.1)).toArray (sq mask (((lv.map (·.2)).map fun k=>hs.getD k 0).getD i 0) m');rw[eh,gp i hi'];have hq:=(hmem lv[i].1 lv[i].2).mp (bL hi');obtain⟨j,a1,a2,m,a3,a4⟩:=o.cov lv[i].2 (o.uni _ _ hq.2);have ej:=o.inj _ _ _ a2 hq.2;subst ej;refine⟨m,a3,fun m' hm'=>?_⟩;have hs':=a4 m' hm';cases hw:ow.getD (sq mask (hs.getD lv[i].2 0) m') none with
     | none=>rw[hw] at hs';cases hs'
     | some c=>
       refine lv_mem.mpr ?_;show _∈lv.map (·.1);exact bh.mpr ⟨(_,c),(hmem _ _).mpr ⟨sq_le _,hw⟩,rfl⟩
end
noncomputable abbrev Ln:=List (List Int)
section
variable {prog:Program}{w:World}
inductive ItemsL (prog:Program)(w:World)(h:Heap):Ln->List Value->Prop
 | nil:ItemsL prog w h [] []
 | cons {k:List Int} {a:Addr} {ks:Ln} {vs:List Value}:IsTupleKey (intKind prog w) h k a->ItemsL prog w h ks vs->ItemsL prog w h (k::ks) (.ref a::vs)
def IsLn (prog:Program)(w:World)(h:Heap)(ks:Ln)(a:Addr):Prop:=∃ o items n,h.get? a=some o/\o.cls=.type "tuple"/\o.data=.seq items n/\ItemsL prog w h ks items.toList
theorem ItemsL.inj {h:Heap}{x y:Ln}{vs:List Value}(hx:ItemsL prog w h x vs)(hy:ItemsL prog w h y vs):x=y:=by
 induction hx generalizing y with
 | nil=>cases hy;rfl
 | cons h1 _ ih=>cases hy with
   | cons h2 t2=>rw[h1.inj h2,ih t2]
theorem IsLn.typeIs {s:Shared}{ks:Ln}{a:Addr}(x:IsLn prog w s.heap ks a):s.TypeIs (.ref a) "tuple":=let ⟨o,_,_,ho,hc,_⟩:=x;⟨o,ho,hc⟩
theorem IsLn.inj {h:Heap}{a:Addr}{x y:Ln}(hx:IsLn prog w h x a)(hy:IsLn prog w h y a):x=y:=by
 obtain⟨o,items,n,ho,_,hd,hi⟩:=hx;obtain⟨o',items',n',ho',_,hd',hi'⟩:=hy;obtain rfl:o=o':=Option.some.inj (ho.symm.trans ho');rw[hd] at hd';injection hd' with h1 _
 subst h1;exact hi.inj hi'
theorem tk_keeps {h h':Heap}{k:List Int}{a:Addr}(x:IsTupleKey (intKind prog w) h k a)(e:∀ o,h.get? a=some o->o.cls=.type "tuple"->h'.get? a=some o):IsTupleKey (intKind prog w) h' k a:=
 let ⟨o,items,n,ho,hc,hd,hi⟩:=x;⟨o,items,n,e o ho hc,hc,hd,hi⟩
theorem ItemsL.keeps {h h':Heap}{ks:Ln}{vs:List Value}(e:∀ a o,h.get? a=some o->o.cls=.type "tuple"->h'.get? a=some o)(x:ItemsL prog w h ks vs):ItemsL prog w h' ks vs:=by
 induction x with
 | nil=>exact .nil
 | cons h1 _ ih=>exact .cons (tk_keeps h1 (e _)) ih
theorem IsLn.keeps {h h':Heap}{ks:Ln}{a:Addr}(x:IsLn prog w h ks a)(e:∀ a o,h.get? a=some o->o.cls=.type "tuple"->h'.get? a=some o):IsLn prog w h' ks a:=
 let ⟨o,items,n,ho,hc,hd,hi⟩:=x;⟨o,items,n,e a o ho hc,hc,hd,hi.keeps e⟩
noncomputable def lnH (prog:Program)(w:World)(ks:Ln):Int:=reduceHash (Builtin.Tuple.tupleHashOf (ks.map (tupleKeyHash (intKind prog w))))
variable {A:Around}{E:Value->Shared->Prop}{s:Shared}
theorem ln_hash {ks:Ln}{a:Addr}{Q:Int->Shared->Prop}(hu:A.units+1 < cLine)(hk:IsLn prog w s.heap ks a)(h:∀ tk,s.toks<=tk->Q (lnH prog w ks) { s with toks:=tk}):wpAny (model prog w) A (pyHash (.ref a)) Q E s:=by
 have hT:=hk.typeIs;obtain⟨o,items,n,ho,_,hd,hi⟩:=hk;unfold pyHash
 first | unfold pyHashByItsType | skip
 first | refine wpAny_bind (wpAny_cRoomFor_or (.inr (by omega)) ?_) | skip
 refine wpAny_bind (wpAny_specialOf hT F.slot_tuple_hash.lookup ?_);show wpAny _ _ (if (some (Value.builtin "tuple.__hash__") == some Value.none)=true then _ else _) Q E s;rw[if_neg (by rw[beq_builtin_none];exact aD)];refine wpAny_bind (wpAny_specialOf hT F.slot_tuple_hash.lookup ?_);show wpAny _ _ (callSpecialIfBoundUnlessNone? (.ref a) "__hash__" _ >>= _) Q E s;refine wpAny_bind (wpAny_callSpecialIfBoundUnlessNone?_slot hT F.slot_tuple_hash (wpAny_call_entry F.slot_tuple_hash hT F.entry_tuple_hash ?_ (F.args_tuple_hash_1 _)));show wpAny _ _ (Builtin.Tuple.tupleItemsOf (.ref a) >>= _) _ _ s;refine wpAny_bind (wpAny_tupleItemsOf ho hd ?_);refine wpAny_bind ?_;rw[<- aV];refine wpAny_forIn_list _
   (fun rest (b:Array Int) s'=>∃ done left,ks=done ++ left/\ItemsL prog w s.heap left rest/\b.toList=done.map (tupleKeyHash (intKind prog w))/\∃ tk,s.toks<=tk/\s'={ s with toks:=tk})
   _ ?_ ?_ _ _ ⟨[],ks,rfl,hi,rfl,s.toks,ag _,rfl⟩
 . rintro x rest b s' ⟨done,left,rfl,hl,hb,tk,htk,rfl⟩
   cases hl with
   | @cons k _ ks' _ h1 hl'=>
     refine wpAny_bind (wpAny_pyHash_tuple hu h1 ?_);have htk':s.toks<=tk+(k.length+1):=aO htk (Nat.le_add_right _ _)
     first
       | exact wpAny_pure ⟨done ++ [k],ks',by simp,hl',by simp[hb],_,htk',rfl⟩
       | exact wpAny_bind (wpAny_pure (wpAny_pure ⟨done ++ [k],ks',by simp,hl',by simp[hb],_,htk',rfl⟩))
 . rintro b s' ⟨done,left,rfl,hl,hb,tk,htk,rfl⟩
   cases hl;rw[aU] at h;show wpAny _ _ (retInt (Builtin.Tuple.tupleHashOf b.toList)) _ _ _;rw[hb];refine wpAny_ret_mkInt ?_;show wpAny _ _ (if (decide (-(2:Int) ^ 63<=Builtin.Tuple.tupleHashOf (done.map (tupleKeyHash (intKind prog w)))) && decide (Builtin.Tuple.tupleHashOf (done.map (tupleKeyHash (intKind prog w))) < 2 ^ 63))=true then _ else _) Q E _;have h':=h (tk+1) (by omega);unfold lnH reduceHash at h';by_cases hr:(decide (-(2:Int) ^ 63<=Builtin.Tuple.tupleHashOf (done.map (tupleKeyHash (intKind prog w)))) && decide (Builtin.Tuple.tupleHashOf (done.map (tupleKeyHash (intKind prog w))) < 2 ^ 63))=true
   . rw[if_pos hr]
     rw[if_pos hr] at h';exact wpAny_pure h'
   . rw[if_neg hr]
     rw[if_neg hr] at h';exact wpAny_bind (wpAny_rule (wpAny_pure h'))
theorem ln_eq_tree {x y:Ln}{a b:Addr}{P:Fin->Shared->Prop}(hu:A.units < cLine)(hx:IsLn prog w s.heap x a)(hy:IsLn prog w s.heap y b)(h:P (.done (.ret (.bool (decide (x=y))))) s):wpAny (model prog w) A (Builtin.«tuple.__eq__» ⟨[.ref a,.ref b],[]⟩) P E s:=by
 have hTb:=hy.typeIs;obtain⟨oa,xs,na,hoa,_,hda,hia⟩:=hx;obtain⟨ob,ys,nb,hob,_,hdb,hib⟩:=hy;show wpAny _ _ (isInstance (.ref b) (.type "tuple") >>= _) _ _ s;refine wpAny_bind (wpAny_isInstance hTb isSubtype_tuple_tuple ?_);simp only[aN,ai,if_false];refine wpAny_bind (wpAny_tupleItemsOf hoa hda ?_);refine wpAny_bind (wpAny_tupleItemsOf hob hdb ?_);refine wpAny_bind ?_;refine wpAny_forIn_list _
   (fun rest r s'=>r.1=none/\s'=s/\∃ x' y' xs' ys',rest=List.zip xs' ys'/\ItemsL prog w s.heap x' xs'/\ItemsL prog w s.heap y' ys'/\decide (x'=y')=decide (x=y)/\(xs'.length == ys'.length)=(xs.size == ys.size))
   _ ?_ ?_ _ _ ⟨rfl,rfl,x,y,xs.toList,ys.toList,rfl,hia,hib,rfl,by simp⟩
 . rintro⟨u,v⟩ rest r s' ⟨hr,rfl,x',y',xs',ys',hz,hx',hy',hdec,hlen⟩
   cases hx' with
   | nil=>simp at hz
   | @cons k1 u' x'' xs'' h1 hx''=>
     cases hy' with
     | nil=>simp at hz
     | @cons k2 v' y'' ys'' h2 hy''=>
       simp only[List.zip_cons_cons,List.cons.injEq,Prod.mk.injEq] at hz;obtain⟨⟨rfl,rfl⟩,rfl⟩:=hz;refine wpAny_bind (wpAny_eqBool_tuple hu h1 h2 ?_);by_cases hk:k1=k2
       . subst hk
         rw[decide_eq_true rfl];simp only[aN,ai,if_false];refine wpAny_pure ⟨rfl,rfl,x'',y'',xs'',ys'',rfl,hx'',hy'',?_,by simpa using hlen⟩;rw[<- hdec];by_cases hxy:x''=y''
         . simp[hxy]
         . simp[hxy]
       . rw[decide_eq_false hk]
         simp only[Bool.not_false,if_true];have hf:decide (x=y)=false:=by rw[<- hdec];simp[hk]
         rw[hf] at h;exact wpAny_bind (wpAny_pure (wpAny_pure (wpAny_pure h)))
 . rintro⟨r1,r2⟩ s' ⟨hr,rfl,x',y',xs',ys',hz,hx',hy',hdec,hlen⟩
   simp only at hr;subst hr;refine wpAny_pure ?_;have hfin:(xs.size == ys.size)=decide (x=y):=by
     rw[<- hdec,<- hlen];cases hx' with
     | nil=>cases hy' with
       | nil=>simp
       | cons _ _=>simp
     | cons _ _=>cases hy' with
       | nil=>simp
       | cons _ _=>simp at hz
   show P (.done (.ret (.bool (xs.size == ys.size)))) s';rw[hfin];exact h
theorem ln_eq {x y:Ln}{a b:Addr}{Q:Bool->Shared->Prop}(hu:A.units+1 < cLine)(hx:IsLn prog w s.heap x a)(hy:IsLn prog w s.heap y b)(h:Q (decide (x=y)) s):wpAny (model prog w) A (eqBool (.ref a) (.ref b)) Q E s:=by
 unfold eqBool
 try with_reducible refine wpAny_holding ?_
 show wpAny _ _ (if (Value.ref a == Value.ref b)=true then _ else _) Q E s;by_cases hab:(Value.ref a == Value.ref b)=true
 . rw[if_pos hab]
   have e:a=b:=by have:=eq_of_beq hab;injection this
   subst e;obtain rfl:=hx.inj hy;exact wpAny_bind (wpAny_rule (wpAny_pure (by simpa using h)))
 . rw[if_neg hab]
   exact wpAny_bind (wpAny_richCompare_same_room (op:=.Eq) hx.typeIs hy.typeIs F.slot_tuple_eq
     (wpAny_call_entry F.slot_tuple_eq hx.typeIs F.entry_tuple_eq (ln_eq_tree hu hx hy ⟨_,rfl,(fun e=>nomatch e),wpAny_truthy_bool h⟩) (F.args_tuple_eq_2 _ _)) (by omega))
theorem tk_quiet {ks:List Int}{a:Addr}{d:Nat}{Q:Bool->Shared->Prop}(hk:IsTupleKey (intKind prog w) s.heap ks a)(h:Q true s):wpAny (model prog w) A (eqIsQuiet (d+1) (.ref a)) Q E s:=by
 have hT:=hk.typeIs;obtain⟨o,items,n,ho,_,hd,hi⟩:=hk;unfold eqIsQuiet;refine wpAny_bind (wpAny_specialOf hT F.slot_tuple_eq.lookup ?_);show wpAny _ _ (isInstance (.ref a) (.type "tuple") >>= _) _ _ s;refine wpAny_bind (wpAny_isInstance hT isSubtype_tuple_tuple ?_);simp only[aN,ai,if_false];refine wpAny_bind (wpAny_seqItems ho hd ?_);refine wpAny_bind ?_;show wpAny _ _ (forIn items _ _) _ _ s;rw[<- aV];refine wpAny_forIn_list _ (fun rest r s'=>r.1=none/\s'=s/\∀ v∈rest,carriedByValue v=true) _ ?_ ?_ _ _ ⟨rfl,rfl,hi.byValue⟩
 . rintro v rest r s' ⟨hr,rfl,hall⟩
   rw[eqIsQuiet_byValue _ (hall v aP)];refine wpAny_bind (wpAny_pure ?_);simp only[aN,ai,if_false];exact wpAny_pure ⟨rfl,rfl,fun u hu'=>hall u (aF _ hu')⟩
 . rintro⟨r1,r2⟩ s' ⟨hr,rfl,_⟩
   simp only at hr;subst hr;exact wpAny_pure h
theorem ln_quiet {ks:Ln}{a:Addr}{Q:Bool->Shared->Prop}(hk:IsLn prog w s.heap ks a)(h:Q true s):wpAny (model prog w) A (eqIsQuiet 8 (.ref a)) Q E s:=by
 have hT:=hk.typeIs;obtain⟨o,items,n,ho,_,hd,hi⟩:=hk;unfold eqIsQuiet;refine wpAny_bind (wpAny_specialOf hT F.slot_tuple_eq.lookup ?_);show wpAny _ _ (isInstance (.ref a) (.type "tuple") >>= _) _ _ s;refine wpAny_bind (wpAny_isInstance hT isSubtype_tuple_tuple ?_);simp only[aN,ai,if_false];refine wpAny_bind (wpAny_seqItems ho hd ?_);refine wpAny_bind ?_;show wpAny _ _ (forIn items _ _) _ _ s;rw[<- aV];refine wpAny_forIn_list _ (fun rest r s'=>r.1=none/\s'=s/\∃ ks',ItemsL prog w s.heap ks' rest) _ ?_ ?_ _ _ ⟨rfl,rfl,ks,hi⟩
 . rintro v rest r s' ⟨hr,rfl,ks',hall⟩
   cases hall with
   | cons h1 t=>
     refine wpAny_bind (tk_quiet h1 ?_);simp only[aN,ai,if_false];exact wpAny_pure ⟨rfl,rfl,_,t⟩
 . rintro⟨r1,r2⟩ s' ⟨hr,rfl,_⟩
   simp only at hr;subst hr;exact wpAny_pure h
theorem ints_no {n:Nat}{v:Value}(h:carriedByValue v=true):ofAClassStatement n v=pure false:=by
 cases v with
 | ref a=>simp[carriedByValue] at h
 | _=>cases n <;> first | rfl | simp[ofAClassStatement]
theorem tk_plain {ks:List Int}{a:Addr}{d:Nat}{Q:Bool->Shared->Prop}(hk:IsTupleKey (intKind prog w) s.heap ks a)(h:Q false s):wpAny (model prog w) A (ofAClassStatement (d+1) (.ref a)) Q E s:=by
 have hT:=hk.typeIs;obtain⟨o,items,n,ho,_,hd,hi⟩:=hk;unfold ofAClassStatement;refine wpAny_bind (wpAny_typeOf hT ?_);show wpAny _ _ (pure true >>= _) _ _ _;refine wpAny_bind (wpAny_pure ?_);simp only[aN,ai,if_false];refine wpAny_bind (wpAny_seqItems ho hd ?_);dsimp only;refine wpAny_bind ?_;rw[<- aV];refine wpAny_forIn_list _ (fun rest r s'=>r.1=none/\s'=s/\∀ v∈rest,carriedByValue v=true) _ ?_ ?_ _ _ ⟨rfl,rfl,hi.byValue⟩
 . rintro v rest r s' ⟨hr,rfl,hall⟩
   rw[ints_no (hall v aP)];refine wpAny_bind (wpAny_pure ?_);simp only[ai,if_false];exact wpAny_pure ⟨rfl,rfl,fun u hu'=>hall u (aF _ hu')⟩
 . rintro⟨r1,r2⟩ s' ⟨hr,rfl,_⟩
   simp only at hr;subst hr;exact wpAny_pure h
theorem ln_plain {ks:Ln}{a:Addr}{Q:Bool->Shared->Prop}(hk:IsLn prog w s.heap ks a)(h:Q false s):wpAny (model prog w) A (ofAClassStatement 8 (.ref a)) Q E s:=by
 have hT:=hk.typeIs;obtain⟨o,items,n,ho,_,hd,hi⟩:=hk;unfold ofAClassStatement;refine wpAny_bind (wpAny_typeOf hT ?_);show wpAny _ _ (pure true >>= _) _ _ _;refine wpAny_bind (wpAny_pure ?_);simp only[aN,ai,if_false];refine wpAny_bind (wpAny_seqItems ho hd ?_);dsimp only;refine wpAny_bind ?_;rw[<- aV];refine wpAny_forIn_list _ (fun rest r s'=>r.1=none/\s'=s/\∃ ks',ItemsL prog w s.heap ks' rest) _ ?_ ?_ _ _ ⟨rfl,rfl,ks,hi⟩
 . rintro v rest r s' ⟨hr,rfl,ks',hall⟩
   cases hall with
   | cons h1 t=>
     refine wpAny_bind (tk_plain h1 ?_);simp only[ai,if_false];exact wpAny_pure ⟨rfl,rfl,_,t⟩
 . rintro⟨r1,r2⟩ s' ⟨hr,rfl,_⟩
   simp only at hr;subst hr;exact wpAny_pure h
theorem tk_byv {ks:List Int}{a:Addr}{d:Nat}{Q:Bool->Shared->Prop}(hk:IsTupleKey (intKind prog w) s.heap ks a)(h:Q true s):wpAny (model prog w) A (hashByValue (d+1) (.ref a)) Q E s:=by
 have hT:=hk.typeIs;obtain⟨o,items,n,ho,_,hd,hi⟩:=hk;unfold hashByValue;refine wpAny_bind (wpAny_specialOf hT F.slot_tuple_hash.lookup ?_);show wpAny _ _ (seqItems? (.ref a) >>= _) _ _ _;refine wpAny_bind (wpAny_seqItems ho hd ?_);refine wpAny_bind ?_;show wpAny _ _ (forIn items _ _) _ _ s;rw[<- aV];refine wpAny_forIn_list _ (fun rest r s'=>r.1=none/\s'=s/\∃ ks',ItemsAre (intKind prog w) ks' rest) _ ?_ ?_ _ _ ⟨rfl,rfl,ks,hi⟩
 . rintro v rest r s' ⟨hr,rfl,ks',hall⟩
   cases hall with
   | @cons k _ _ _ h1 t=>
     have hv:hashByValue d v=pure true:=by
       have h1':Value.isInt k v=true:=h1;cases v <;> first | (cases d <;> rfl) | exact Bool.noConfusion h1'
     rw[hv];refine wpAny_bind (wpAny_pure ?_);simp only[aN,ai,if_false];exact wpAny_pure ⟨rfl,rfl,_,t⟩
 . rintro⟨r1,r2⟩ s' ⟨hr,rfl,_⟩
   simp only at hr;subst hr;exact wpAny_pure h
theorem ln_byv {ks:Ln}{a:Addr}{Q:Bool->Shared->Prop}(hk:IsLn prog w s.heap ks a)(h:Q true s):wpAny (model prog w) A (hashByValue 8 (.ref a)) Q E s:=by
 have hT:=hk.typeIs;obtain⟨o,items,n,ho,_,hd,hi⟩:=hk;unfold hashByValue;refine wpAny_bind (wpAny_specialOf hT F.slot_tuple_hash.lookup ?_);show wpAny _ _ (seqItems? (.ref a) >>= _) _ _ _;refine wpAny_bind (wpAny_seqItems ho hd ?_);refine wpAny_bind ?_;show wpAny _ _ (forIn items _ _) _ _ s;rw[<- aV];refine wpAny_forIn_list _ (fun rest r s'=>r.1=none/\s'=s/\∃ ks',ItemsL prog w s.heap ks' rest) _ ?_ ?_ _ _ ⟨rfl,rfl,ks,hi⟩
 . rintro v rest r s' ⟨hr,rfl,ks',hall⟩
   cases hall with
   | cons h1 t=>
     refine wpAny_bind (tk_byv h1 ?_);simp only[aN,ai,if_false];exact wpAny_pure ⟨rfl,rfl,_,t⟩
 . rintro⟨r1,r2⟩ s' ⟨hr,rfl,_⟩
   simp only at hr;subst hr;exact wpAny_pure h
end
noncomputable abbrev Pl:=List (Ln×Addr)
noncomputable def ent (prog:Program)(w:World)(p:Ln×Addr):Int×Value:=(lnH prog w p.1,.ref p.2)
noncomputable def setObjL (prog:Program)(w:World)(ps:Pl)(ep:Nat)(t:SetTable):Obj:={ cls:=.type "set",data:=.set (ps.map (ent prog w)).toArray ep t}
structure SetL (prog:Program)(w:World)(h:Heap)(a:Addr)(ps:Pl)(ep:Nat)(t:SetTable):Prop where
 get:h.get? a=some (setObjL prog w ps ep t)
 tab:TOk t (ps.map fun p=>lnH prog w p.1)
 pla:t.plain=true
 led:t.led=!w.params.followText "set-order"
 lns:∀ p∈ps,IsLn prog w h p.1 p.2
 nod:(ps.map (·.1)).Nodup
 rom:ps.length * 5 < t.mask * 3
section
variable {prog:Program}{w:World}{A:Around}{E:Value->Shared->Prop}{s:Shared}{a x:Addr}{ps:Pl}{ep:Nat}{t:SetTable}{d:Ln}
theorem SetL.typeIs (S:SetL prog w s.heap a ps ep t):s.TypeIs (.ref a) "set":=⟨_,S.get,rfl⟩
theorem SetL.fits (S:SetL prog w s.heap a ps ep t):t.fits (ps.map (ent prog w)).toArray.size=true:=by
 have:=S.tab.fits;rw[ae] at this;simpa using this
theorem SetL.state (S:SetL prog w s.heap a ps ep t){Q:(Array (Int×Value)×Nat×SetTable)->Shared->Prop}(h:Q ((ps.map (ent prog w)).toArray,ep,t) s):wpAny (model prog w) A (setState a) Q E s:=
 wpAny_setState_of S.get rfl S.fits h
theorem ents_at {i:Nat}(hi:i < ps.length):(ps.map (ent prog w)).toArray[i]?=some (ent prog w ps[i]):=by simp[hi]
theorem set_unseen:∀ (l:List Value) {Q:Bool->Shared->Prop},IsLn prog w s.heap d x->(∀ y∈l,∃ d' b,y=.ref b/\IsLn prog w s.heap d' b)->Q false s->wpAny (model prog w) A (searchCouldBeSeen (.ref x) l) Q E s:=by
 intro l Q hx hl h;unfold searchCouldBeSeen;refine wpAny_bind ?_;refine wpAny_forIn_list _ (fun rest r s'=>r.1=none/\s'=s/\∀ y∈rest,∃ d' b,y=.ref b/\IsLn prog w s.heap d' b) _ ?_ ?_ _ _ ⟨rfl,rfl,hl⟩
 . rintro y rest r s' ⟨hr,rfl,hall⟩
   obtain⟨d',b,rfl,hb⟩:=hall y aP;have hrest:∀ y∈rest,∃ d' b,y=.ref b/\IsLn prog w s'.heap d' b:=fun y hy=>hall y (aF _ hy)
   dsimp only;by_cases hab:x=b
   . rw[if_pos (by simp[hab])]
     exact wpAny_pure ⟨rfl,rfl,hrest⟩
   . rw[if_neg (by simp[hab,carriedByValue])]
     refine wpAny_bind (ln_quiet hx ?_);simp only[aN,ai,if_false];refine wpAny_bind (ln_quiet hb ?_);simp only[aN,ai,if_false];refine wpAny_bind (ln_plain hx ?_);simp only[ai,if_false];refine wpAny_bind (ln_plain hb ?_);simp only[ai,if_false];exact wpAny_pure ⟨rfl,rfl,hrest⟩
 . rintro⟨r1,r2⟩ s' ⟨hr,rfl,_⟩
   simp only at hr;subst hr;exact wpAny_pure h
theorem led_skip {M:Model}{α:Type}{b:Bool}{m:Sem Bool}{R R':Sem α}{Q:α->Shared->Prop}(hm:∀ Q':Bool->Shared->Prop,Q' false s->wpAny M A m Q' E s)(h:wpAny M A R Q E s) :
   wpAny M A (if b=true then do let c <- m;if c=true then R' else R else R) Q E s:=by
 cases b with
 | true=>rw[if_pos rfl];exact wpAny_bind (hm _ (by rw[if_neg (by simp)];exact h))
 | false=>rw[if_neg (by simp)];exact h
theorem set_searchFrom (hu:A.units+1 < cLine)(S:SetL prog w s.heap a ps ep t)(hx:IsLn prog w s.heap d x){adding:Bool}{Q:SetFound->Shared->Prop}(hA:adding=true->d∈ps.map (·.1)->Q (.there none) s)(hB:adding=false->d∈ps.map (·.1)->∀ i,Q (.there (some i)) s)(hC:d ∉ ps.map (·.1)->∀ m,¬ Lv t.place (sq t.mask (lnH prog w d) m)->(∀ m',m' < m->Lv t.place (sq t.mask (lnH prog w d) m'))->Q (.free (sq t.mask (lnH prog w d) m) false) s):∀ (fuel m:Nat) (stand:Option SetTable.Probe),stand.getD (t.probeStart (lnH prog w d))=prb t.mask (lnH prog w d) m->1400 < m+fuel->(∀ m',m' < m->Lv t.place (sq t.mask (lnH prog w d) m'))->(∀ i m',(hi:i < ps.length)->m' < m->t.place.getD i 0=sq t.mask (lnH prog w d) m'->ps[i].1≠d)->wpAny (model prog w) A (setSearchFrom a (.ref x) (lnH prog w d) adding fuel stand) Q E s
 | 0,m,stand,_,hf,hl,_=>by
   obtain⟨m',h1,h2⟩:=S.tab.stop (lnH prog w d);have:t.mask<=127:=by rcases S.tab.msk with e | e | e <;> omega
   exact absurd (hl m' (by omega)) h2
 | fuel+1,m,stand,hst,hf,hl,hno=>by
   have hlen:(ps.map fun p=>lnH prog w p.1).length=ps.length:=ae ..;have hgd:∀ i (hi:i < ps.length),(ps.map fun p=>lnH prog w p.1).getD i 0=lnH prog w ps[i].1:=fun i hi=>by rw[af];simp[hi]
   unfold setSearchFrom;refine wpAny_bind (S.state ?_);dsimp only;rw[S.tab.gave];simp only[ai,if_false];rw[hst];obtain⟨m1,a1,a2,a3,a4,a5⟩:=S.tab.probe (h:=lnH prog w d) (ha:=fun i=>((ps.map (ent prog w)).toArray[i]?.map (·.1)).getD 0) (fun i hi=>by
     rw[hlen] at hi;rw[hgd i hi];show((ps.map (ent prog w)).toArray[i]?.map (·.1)).getD 0=_;rw[ents_at hi];rfl) hl
   have hmask:t.mask<=127:=by rcases S.tab.msk with e | e | e <;> omega
   rcases a5 with⟨b1,b2⟩ | ⟨i,b1,b2,b3,b4⟩
   . erw [b2]
     refine wpAny_pure ?_;refine hC (fun hm=>?_) m1 b1 a3;obtain⟨p,hp,e⟩:=bh.mp hm;obtain⟨i,hi,ei⟩:=List.getElem_of_mem hp;have hd:ps[i].1=d:=by rw[ei];exact e
     obtain⟨m0,c1,c2⟩:=S.tab.pth i (by rw[hlen];exact hi);rw[hgd i hi,hd] at c1 c2;have hm0:m0 < m1:=by
       rcases bB m0 m1 with q | q | q
       . exact q
       . subst q;exact absurd ⟨i,by rw[S.tab.len,hlen];exact hi,c1.symm⟩ b1
       . exact absurd (c2 m1 q) b1
     by_cases hmm:m0 < m
     . exact hno i m0 hi hmm c1.symm hd
     . exact a4 i m0 (by rw[hlen];exact hi) (by omega) hm0 c1.symm (by rw[hgd i hi,hd])
   . rw[hlen] at b1
     have hi:=b1;have hln:=S.lns ps[i] (bL hi);have hslot:t.slot (sq t.mask (lnH prog w d) m1)=.live i:=by rw[<- b2];exact slot_live S.tab.ris (by rw[S.tab.len,hlen];exact hi)
     erw [b4]
     dsimp only;refine led_skip (fun Q' hq=>set_unseen _ hx (fun y hy=>?_) hq) ?_
     . obtain⟨e,he,rfl⟩:=bh.mp hy
       have he':e∈ps.map (ent prog w):=by
         have:=Array.mem_toList_iff.mp he;simpa using (Array.mem_filter.mp this).1
       obtain⟨p,hp,rfl⟩:=bh.mp he';exact⟨p.1,p.2,rfl,S.lns p hp⟩
     rw[ents_at hi];dsimp only [ent];refine wpAny_bind (wpAny_holding (ln_eq hu hln hx ?_));refine wpAny_bind (S.state ?_);dsimp only;have hs:t.sameMemory t.moves t.mask=some true:=by unfold SetTable.sameMemory;simp
     have hsame:isSame (.ref ps[i].2) (.ref ps[i].2)=pure true:=by unfold isSame;simp
     by_cases hd:ps[i].1=d
     . rw[decide_eq_true hd]
       have hmem:d∈ps.map (·.1):=by rw[<- hd];exact bZ (bL hi)
       cases adding with
       | true=>exact wpAny_pure (hA rfl hmem)
       | false=>
         simp only[Bool.false_and,ai,if_false];rw[hs];dsimp only;rw[if_pos rfl,hslot];dsimp only;rw[ents_at hi];dsimp only [ent];rw[hsame];refine wpAny_bind (wpAny_pure (wpAny_bind (wpAny_pure ?_)));exact wpAny_pure (hB rfl hmem i)
     . rw[decide_eq_false hd]
       simp only[Bool.and_false,ai,if_false];rw[hs];dsimp only;rw[if_pos rfl,hslot];dsimp only;rw[ents_at hi];dsimp only [ent];rw[hsame];refine wpAny_bind (wpAny_pure (wpAny_bind (wpAny_pure ?_)));refine set_searchFrom hu S hx hA hB hC fuel (m1+1) _ rfl (by omega) (fun m' hm'=>?_) fun i' m' hi' hm' e=>?_
       . by_cases q:m'=m1
         . subst q;exact⟨i,by rw[S.tab.len,hlen];exact hi,b2⟩
         . exact a3 m' (by omega)
       . by_cases q:m'=m1
         . subst q
           have hz:∀ k,k < ps.length->k < t.place.size:=fun k hk=>by rw[S.tab.len,hlen];exact hk
           have:i'=i:=by
             rcases bB i' i with q | q | q
             . have:=S.tab.ris _ _ q (hz _ hi);omega
             . exact q
             . have:=S.tab.ris _ _ q (hz _ hi');omega
           subst this;exact hd
         . by_cases q2:m' < m
           . exact hno i' m' hi' q2 e
           . intro hd'
             exact a4 i' m' (by rw[hlen];exact hi') (by omega) (by omega) e (by rw[hgd i' hi',hd'])
theorem set_find (hu:A.units+1 < cLine)(S:SetL prog w s.heap a ps ep t)(hx:IsLn prog w s.heap d x){Q:Option Nat->Shared->Prop}(h:∀ r:Option Nat,r.isSome=decide (d∈ps.map (·.1))->Q r s):wpAny (model prog w) A (setFind a (.ref x) (lnH prog w d)) Q E s:=by
 unfold setFind setFindIn;refine wpAny_bind (S.state ?_);dsimp only;have hb:byScan (.ref x) (ps.map (ent prog w)).toArray=false:=by simp[byScan,Value.scannable]
 rw[hb];simp only[ai,if_false];unfold setSearch;refine wpAny_bind (set_searchFrom hu S hx (adding:=false) (fun e=>nomatch e) (fun _ hm i=>?_) (fun hm m _ _=>?_) 100000 0 none rfl (by omega) (fun m' hm'=>absurd hm' (by omega)) fun i m' _ hm'=>absurd hm' (by omega))
 . exact wpAny_pure (h _ (by rw[decide_eq_true hm];rfl))
 . exact wpAny_pure (h _ (by rw[decide_eq_false hm];rfl))
theorem ents_ins {p:Nat}{q:Ln×Addr}:SetTable.insertAt (ps.map (ent prog w)).toArray p (ent prog w q)=((insL ps p q).map (ent prog w)).toArray:=by
 apply aZ.mp;rw[SetTable.toList_insertAt];simp[insL,List.map_take,List.map_drop]
theorem insL_perm {α:Type}(xs:List α)(p:Nat)(x:α):(insL xs p x).Perm (x::xs):=by
 unfold insL;have:=@List.perm_middle _ x (xs.take p) (xs.drop p)
 rwa [List.take_append_drop] at this
theorem map_insL {α β:Type}(f:α->β)(xs:List α)(p:Nat)(x:α):(insL xs p x).map f=insL (xs.map f) p (f x):=by unfold insL;simp[List.map_take,List.map_drop]
theorem pick_map {α:Type}(g:α->Int)(ps:List α):∀ (o:List Nat),(∀ k∈o,k < ps.length)->(o.filterMap fun k=>ps[k]?).map g=o.map fun k=>(ps.map g).getD k 0
 | [],_=>rfl
 | k::o,h=>by
   have hk:=h k (.head _);have ih:=pick_map g ps o fun j hj=>h j (.tail _ hj)
   rw[List.filterMap_cons_some (ak hk),aL,aL,ih]
   congr 1
   rw[af];simp[hk]
theorem set_relay {n wanted:Nat}{Q:Unit->Shared->Prop}(hget:s.heap.get? a=some (setObjL prog w ps ep t))(htab:TOk t (ps.map fun p=>lnH prog w p.1))(hpla:t.plain=true)(hled:t.led=!w.params.followText "set-order")(hn:SetTable.sizeAbove wanted - 1=n)(hm:MskOk n)(hle:ps.length<=n)(hrom:ps.length * 5 < n * 3)(hlns:∀ p∈ps,IsLn prog w s.heap p.1 p.2)(hnod:(ps.map (·.1)).Nodup)(h:∀ h' ps' ep' t',aM a s.heap h'->SetL prog w h' a ps' ep' t'->ps'.Perm ps->Q () { s with heap:=h'}):wpAny (model prog w) A (setRelay a wanted) Q E s:=by
 have hf:t.fits (ps.map (ent prog w)).toArray.size=true:=by have:=htab.fits;rw[ae] at this;simpa using this
 have hlen:(ps.map fun p=>lnH prog w p.1).length=ps.length:=ae ..;have hn127:n<=127:=by rcases hm with e | e | e <;> omega
 unfold setRelay;refine wpAny_bind (wpAny_setState_of hget rfl hf ?_);dsimp only;rw[if_neg (by rw[sizeLine_eq];omega)];obtain⟨t',order,e1,e2,e3,e4,e5,e6,e7⟩:=laid_ok (hs:=ps.map fun p=>lnH prog w p.1) hm (by rw[hlen];exact hle) t.finger (t.movedTo n) t.led t.plain;rw[hlen] at e6;have hlt:∀ k∈order.toList,k < ps.length:=fun k hk=>aQ.mp (e6.mem_iff.mp hk)
 have hperm:(order.toList.filterMap fun k=>ps[k]?).Perm ps:=by
   have:=e6.filterMap fun k=>ps[k]?
   rwa [List.filterMap_getElem?_range_length] at this
 have hes:order.filterMap (fun k=>(ps.map (ent prog w)).toArray[k]?)=((order.toList.filterMap fun k=>ps[k]?).map (ent prog w)).toArray:=by
   apply aZ.mp;rw[Array.toList_filterMap];show order.toList.filterMap (fun k=>(ps.map (ent prog w)).toArray[k]?)=(order.toList.filterMap fun k=>ps[k]?).map (ent prog w);rw[List.map_filterMap]
   congr 1
   funext k
   simp
 have hrel:t.relaid ((ps.map (ent prog w)).toArray.map (·.1)) wanted=some (t',order):=by
   unfold SetTable.relaid;rw[hn,<- e1]
   congr 1
   apply aZ.mp;simp[ent,Function.comp_def]
 rw[hrel];have hsz:(((order.toList.filterMap fun k=>ps[k]?).map (ent prog w)).toArray.size != (ps.map (ent prog w)).toArray.size)=false:=by
   have:=hperm.length_eq;simp only[aw,ae,this,bne_self_eq_false]
 refine wpAny_bind (wpAny_of_eq (a:=(((order.toList.filterMap fun k=>ps[k]?).map (ent prog w)).toArray,t')) ?_ ?_)
 . show(if ((order.filterMap (fun k=>(ps.map (ent prog w)).toArray[k]?)).size != (ps.map (ent prog w)).toArray.size)=true then _ else pure (order.filterMap (fun k=>(ps.map (ent prog w)).toArray[k]?),t'))=_
   rw[hes,hsz,if_neg (by simp)]
 . dsimp only
   refine wpAny_storeSet_of hget rfl ?_ ?_
   . refine h _ (order.toList.filterMap fun k=>ps[k]?) (ep+1) t' (aM.update s.heap a _) ⟨?_,?_,e4.trans hpla,e3.trans hled,fun p hp=>?_,?_,?_⟩ hperm
     . have:=bA (Obj.putSet ((order.toList.filterMap fun k=>ps[k]?).map (ent prog w)).toArray t') hget (by rw[putSet_of _ _ rfl];rfl)
       rw[putSet_of _ _ rfl] at this;exact this
     . rw[pick_map (fun p:Ln×Addr=>lnH prog w p.1) ps _ hlt];exact e7
     . refine(hlns p (hperm.mem_iff.mp hp)).keeps fun b o e hc=>?_
       rw[(aM.update s.heap a _).2 b (fun q=>?_)]
       . exact e
       . subst q;rw[hget] at e;cases e;exact absurd hc (by show ¬ (Value.type "set"=Value.type "tuple");decide)
     . exact(hperm.map _).nodup_iff.mpr hnod
     . rw[hperm.length_eq,e2];exact hrom
   . rw[aw,ae,hperm.length_eq,sizeLine_eq];omega
theorem set_add (hu:A.units+1 < cLine)(S:SetL prog w s.heap a ps ep t)(hx:IsLn prog w s.heap d x)(hz:ps.length < 64){Q:Bool->Shared->Prop}(h1:d∈ps.map (·.1)->Q false s)(h2:d ∉ ps.map (·.1)->∀ h' ps' ep' t',aM a s.heap h'->SetL prog w h' a ps' ep' t'->ps'.Perm ((d,x)::ps)->Q true { s with heap:=h'}):wpAny (model prog w) A (setAddHashed a (.ref x) (lnH prog w d)) Q E s:=by
 unfold setAddHashed setAddHashedIn;refine wpAny_holding (wpAny_bind (S.state ?_));dsimp only;have hb:byScan (.ref x) (ps.map (ent prog w)).toArray=false:=by simp[byScan,Value.scannable]
 rw[hb];simp only[ai,if_false];unfold setSearch;refine wpAny_bind (set_searchFrom hu S hx (adding:=true) (fun _ hm=>?_) (fun e=>nomatch e) (fun hm m hn hl=>?_) 100000 0 none rfl (by omega) (fun m' hm'=>absurd hm' (by omega)) fun i m' _ hm'=>absurd hm' (by omega))
 . exact wpAny_pure (h1 hm)
 . dsimp only
   refine wpAny_bind (S.state ?_);have hlen:(ps.map fun p=>lnH prog w p.1).length=ps.length:=ae ..;have hrom:=S.rom;have hf:ps.length+1<=t.mask:=by rcases S.tab.msk with e | e | e <;> rw[e] at hrom ⊢ <;> omega
   obtain⟨c1,c2,c3,c4,c5,c6⟩:=S.tab.put hn hl (by rw[hlen];exact hf);dsimp only;generalize hput:t.put (sq t.mask (lnH prog w d) m)=pt at c1 c2 c3 c4 c5 c6 ⊢;obtain⟨t2,p⟩:=pt;dsimp only at c1 c2 c3 c4 c5 c6 ⊢;rw[hlen] at c1;rw[if_pos (by rw[c4];exact S.pla)];refine wpAny_bind (ln_byv hx ?_);simp only[if_true];have hent:(lnH prog w d,Value.ref x)=ent prog w (d,x):=rfl;rw[hent,ents_ins];have hz2:(insL ps p (d,x)).length=ps.length+1:=len_insL c1;refine wpAny_bind (wpAny_storeSet_of S.get rfl ?_ ?_)
   rotate_left
   . rw[aw,ae,hz2,sizeLine_eq];omega
   have hnd:((insL ps p (d,x)).map (·.1)).Nodup:=((insL_perm ps p (d,x)).map _).nodup_iff.mpr (by rw[aL];exact bt.mpr ⟨hm,S.nod⟩);have hget2:(s.heap.update a (Obj.putSet ((insL ps p (d,x)).map (ent prog w)).toArray t2)).get? a=some (setObjL prog w (insL ps p (d,x)) (ep+1) t2):=by
     have:=bA (Obj.putSet ((insL ps p (d,x)).map (ent prog w)).toArray t2) S.get (by rw[putSet_of _ _ rfl];rfl);rw[putSet_of _ _ rfl] at this;exact this
   have htab2:TOk t2 ((insL ps p (d,x)).map fun p=>lnH prog w p.1):=by rw[map_insL];exact c6
   have hlns2:∀ q∈insL ps p (d,x),IsLn prog w (s.heap.update a (Obj.putSet ((insL ps p (d,x)).map (ent prog w)).toArray t2)) q.1 q.2:=fun q hq=>by
     have base:IsLn prog w s.heap q.1 q.2:=by
       rcases aK.mp ((insL_perm ps p (d,x)).mem_iff.mp hq) with rfl | hq
       . exact hx
       . exact S.lns q hq
     refine base.keeps fun b o e hc=>?_
     rw[(aM.update s.heap a _).2 b (fun q=>?_)]
     . exact e
     . subst q;rw[S.get] at e;cases e;exact absurd hc (by show ¬ (Value.type "set"=Value.type "tuple");decide)
   have hfull:t2.tooFull=decide ((ps.length+1) * 5 >= t.mask * 3):=by
     unfold SetTable.tooFull SetTable.fill;rw[htab2.len,htab2.dum,c2,ae,hz2];rfl
   by_cases hq:(ps.length+1) * 5 >= t.mask * 3
   . rw[if_pos (by rw[hfull,decide_eq_true hq];rfl)]
     have hnum:∃ n,SetTable.sizeAbove (SetTable.grown ((ps.map (ent prog w)).toArray.size+1)) - 1=n/\MskOk n/\ps.length+1<=n/\(ps.length+1) * 5 < n * 3:=by
       rcases S.tab.msk with e | e | e
       . have e5:ps.length=4:=by rw[e] at hrom hq;omega
         refine⟨31,?_,.inr (.inl rfl),by omega,by omega⟩;rw[aw,ae,e5];decide
       . have e5:ps.length=18:=by rw[e] at hrom hq;omega
         refine⟨127,?_,.inr (.inr rfl),by omega,by omega⟩;rw[aw,ae,e5];decide
       . rw[e] at hq;omega
     obtain⟨n,n1,n2,n3,n4⟩:=hnum;refine wpAny_bind (set_relay (s:={ s with heap:=s.heap.update a (Obj.putSet ((insL ps p (d,x)).map (ent prog w)).toArray t2)}) hget2 htab2 (c4.trans S.pla) (c3.trans S.led) n1 n2 (by rw[hz2];exact n3) (by rw[hz2];exact n4) hlns2 hnd fun h' ps' ep' t' g1 g2 g3=>?_);exact wpAny_pure (h2 hm h' ps' ep' t' ((aM.update s.heap a _).trans g1) g2 (g3.trans (insL_perm ps p (d,x))))
   . rw[if_neg (by rw[hfull,decide_eq_false hq];simp)]
     refine wpAny_pure (h2 hm _ (insL ps p (d,x)) (ep+1) t2 (aM.update s.heap a _) ⟨hget2,htab2,c4.trans S.pla,c3.trans S.led,hlns2,hnd,?_⟩ (insL_perm ps p (d,x)));rw[hz2,c2];omega
end
end Sg
namespace Sg
open PySem PySem.Spec
def SetOn (prog:Program)(w:World)(h:Heap)(a:Addr)(n:Nat)(Al:Ln×Addr->Prop)(D:Ln->Prop):Prop:=∃ ps ep t,SetL prog w h a ps ep t/\(ps.length<=n/\∀ p∈ps,Al p)/\∀ d,d∈ps.map (·.1) ↔ D d
def AtL (vs:List Value)(ls:List Ln)(p:Ln×Addr):Prop:=∃ j:Nat,vs[j]?=some (.ref p.2)/\ls[j]?=some p.1
def AllLn (prog:Program)(w:World)(h:Heap)(vs:List Value)(ls:List Ln):Prop:=∀ (j:Nat) v,vs[j]?=some v->∃ b d,v=.ref b/\ls[j]?=some d/\IsLn prog w h d b
theorem AllLn.keeps {prog:Program}{w:World}{h h':Heap}{vs:List Value}{ls:List Ln}(x:AllLn prog w h vs ls)(e:∀ a o,h.get? a=some o->o.cls=.type "tuple"->h'.get? a=some o):AllLn prog w h' vs ls:=
 fun j v hv=>let ⟨b,d,h1,h2,h3⟩:=x j v hv;⟨b,d,h1,h2,h3.keeps e⟩
theorem SetL.keeps {prog:Program}{w:World}{h h':Heap}{a:Addr}{ps:Pl}{ep:Nat}{t:SetTable}(S:SetL prog w h a ps ep t)(e:∀ b o,h.get? b=some o->b=a\/o.cls=.type "tuple"->h'.get? b=some o):SetL prog w h' a ps ep t:=
 ⟨e _ _ S.get (.inl rfl),S.tab,S.pla,S.led,fun p hp=>(S.lns p hp).keeps fun b o q hc=>e b o q (.inr hc),S.nod,S.rom⟩
section
variable {prog:Program}{w:World}{A:Around}{R:Result->Shared->Prop}
theorem set_loop {I l S:Addr}{items:Array Value}{ls:List Ln}(hh:A.handled=none)(hu:A.units+8 < cLine)(hne:l≠I)(hSI:S≠I)(hSl:S≠l)(h63:items.size<=63):∀ (k i:Nat) (s:Shared),items.size - i=k->i<=items.size->s.heap.IsListIter I l i->s.heap.IsList l items->AllLn prog w s.heap items.toList ls->SetOn prog w s.heap S i (AtL items.toList ls) (·∈ls.take i)->(∀ h' tk,(∀ b o,b≠S->b≠I->s.heap.get? b=some o->h'.get? b=some o)->SetOn prog w h' S items.size (AtL items.toList ls) (·∈ls.take items.size)->R (.ok (.ret .none)) { s with heap:=h',toks:=tk})->codeAny (model prog w) A (.builtin "set.update.loop" ⟨[.ref S,.ref I],[]⟩) R s:=by
 have W:=Walks.list (prog:=prog) (w:=w) (A:=A.in1) (by simp[hh]) I l hne items;intro k
 induction k with
 | zero=>
   intro i s hk hi hit hil hln hS hR;have hin:i=items.size:=by omega
   subst hin;refine codeAny_builtin PyProof.Rows.F.entry_set_update_loop ?_;rw[Around.under_plainId PyProof.Rows.F.plain_set_update_loop _];show wpAny _ A.in1 (pyNext (.ref I) >>= _) _ _ s;refine wpAny_bind (W.done s _ _ ⟨hit,hil⟩ fun h' tk hm=>?_);show wpAny _ A.in1 (ret Value.none) _ _ _;have hk':∀ b o,b≠S->b≠I->s.heap.get? b=some o->h'.get? b=some o:=fun b o _ q e=>hm b o (by simpa using q) e
   have hI:∀ o,s.heap.get? I=some o->o.cls≠.type "tuple":=fun o e hc=>by
     obtain⟨o',e',c',_⟩:=hit;rw[e] at e';cases e';rw[c'] at hc;exact absurd hc (by decide)
   obtain⟨ps,ep,t,a1,a2,a3⟩:=hS;refine wpAny_pure (hR h' tk hk' ⟨ps,ep,t,a1.keeps fun b o e hc=>?_,a2,a3⟩);refine hm b o ?_ e;intro hb;have hb:b=I:=by simpa using hb
   subst hb;rcases hc with hc | hc
   . exact hSI hc.symm
   . exact hI o e hc
 | succ k ih=>
   intro i s hk hi hit hil hln hS hR;have hlt:i < items.size:=by omega
   refine codeAny_builtin PyProof.Rows.F.entry_set_update_loop ?_;rw[Around.under_plainId PyProof.Rows.F.plain_set_update_loop _];show wpAny _ A.in1 (pyNext (.ref I) >>= _) _ _ s;refine wpAny_bind (W.item i s _ _ hlt ⟨hit,hil⟩ fun v h' tk hP hst' hm=>?_);obtain⟨b,d,rfl,hd,hbl⟩:=hln i v (by rw[bx];exact hP);have hI:∀ o,s.heap.get? I=some o->o.cls≠.type "tuple":=fun o e hc=>by
     obtain⟨o',e',c',_⟩:=hit;rw[e] at e';cases e';rw[c'] at hc;exact absurd hc (by decide)
   have keep:∀ b o,s.heap.get? b=some o->b=S\/o.cls=.type "tuple"->h'.get? b=some o:=fun b o e hc=>by
     refine hm b o ?_ e;intro hb;have hb:b=I:=by simpa using hb
     subst hb;rcases hc with hc | hc
     . exact hSI hc.symm
     . exact hI o e hc
   obtain⟨ps,ep,t,a1,a2,a3⟩:=hS;have S1:SetL prog w h' S ps ep t:=a1.keeps keep;have hbl1:IsLn prog w h' d b:=hbl.keeps fun b o e hc=>keep b o e (.inr hc)
   have hln1:AllLn prog w h' items.toList ls:=hln.keeps fun b o e hc=>keep b o e (.inr hc)
   show wpAny _ A.in1 (holding [Value.ref b] (setAdd S (.ref b)) >>= _) _ _ _;refine wpAny_bind (wpAny_holding ?_);unfold setAdd;refine wpAny_holding ?_;refine wpAny_bind (ln_hash (s:={ s with heap:=h',toks:=tk}) (show A.units+1+1 < cLine by omega) hbl1 fun tk2 htk2=>?_);have htake:∀ d',d'∈ls.take (i+1) ↔ d'∈ls.take i\/d'=d:=fun d'=>by
     have hil:i < ls.length:=(aC.mp hd).1;rw[bS,hd];simp
   refine set_add (s:={ s with heap:=h',toks:=tk2}) (show A.units+1+1 < cLine by omega) S1 hbl1 (by have:=a2.1;omega) (fun hm1=>?_) fun hm1 h2 ps2 ep2 t2 g1 g2 g3=>?_
   . refine wpAny_pure ⟨plainId_quiet PyProof.Rows.F.plain_set_update_loop _,ih (i+1) _ (by omega) hlt hst'.1 hst'.2 hln1 ⟨ps,ep,t,S1,⟨by have:=a2.1;omega,a2.2⟩,fun d'=>?_⟩ fun h3 tk3 k1 k2=>?_⟩
     . show _ ↔ d'∈ls.take (i+1)
       rw[htake,a3];refine⟨.inl,fun q=>?_⟩;rcases q with q | q
       . exact q
       . subst q;exact(a3 _).mp hm1
     . exact hR h3 tk3 (fun b o p q e=>k1 b o p q (hm b o (by simpa using q) e)) k2
   . have keep2:∀ b o,b≠S->h'.get? b=some o->h2.get? b=some o:=fun b o q e=>by rw[g1.2 b q];exact e
     have hS2:∀ o,h'.get? S=some o->o.cls≠.type "tuple":=fun o e hc=>by rw[S1.get] at e;cases e;exact absurd hc (by show ¬ (Value.type "set"=Value.type "tuple");decide)
     have keep3:∀ b o,h'.get? b=some o->o.cls=.type "tuple"->h2.get? b=some o:=fun b o e hc=>keep2 b o (fun q=>by subst q;exact hS2 o e hc) e
     refine wpAny_pure ⟨plainId_quiet PyProof.Rows.F.plain_set_update_loop _,ih (i+1) _ (by omega) hlt (hst'.1.at fun o e=>keep2 _ o (Ne.symm hSI) e) (hst'.2.at fun o e=>keep2 _ o (Ne.symm hSl) e) (hln1.keeps keep3) ⟨ps2,ep2,t2,g2,⟨by rw[g3.length_eq,bf];have:=a2.1;omega,fun q hq=>(aK.mp (g3.mem_iff.mp hq)).elim (fun e=>by subst e;exact⟨i,by rw[bx];exact hP,hd⟩) (a2.2 q)⟩,fun d'=>?_⟩ fun h3 tk3 k1 k2=>?_⟩
     . show _ ↔ d'∈ls.take (i+1)
       rw[htake,(g3.map (·.1)).mem_iff,aL,aK,a3];exact Or.comm
     . exact hR h3 tk3 (fun b o p q e=>k1 b o p q (keep2 b o p (hm b o (by simpa using q) e))) k2
end
theorem setL_fresh {prog:Program}{w:World}{h:Heap}{a:Addr}(hg:h.get? a=some { cls:=.type "set",dict:=none,data:=.set #[] 0 (.fresh 0 0 (!w.params.followText "set-order"))}):SetL prog w h a [] 0 (.fresh 0 0 (!w.params.followText "set-order")):=
 ⟨hg,⟨.inl rfl,rfl,rfl,fun a b _ hb=>absurd hb (by simp[SetTable.fresh]),fun a ha=>absurd ha (by simp[SetTable.fresh]),aJ _,fun i hi=>absurd hi (by simp)⟩,rfl,rfl,fun p hp=>absurd hp (by simp),List.nodup_nil,by show 0 * 5 < 7 * 3;decide⟩
section
variable {prog:Program}{w:World}{A:Around}{E:Value->Shared->Prop}{s:Shared}
noncomputable abbrev newS (w:World):Obj:={ cls:=.type "set",dict:=none,data:=.set #[] 0 (.fresh 0 0 (!w.params.followText "set-order"))}
theorem code_newSet (a:Value){Q₁:Value->Shared->Prop}(h:Q₁ (.ref s.heap.objs.size) { s with heap:=s.heap.push (newS w)}):codeAny (model prog w) A (.call (.builtin "set.__new__") ⟨[.type "set",a],[]⟩) (wants Q₁ E) s:=by
 refine codeAny_of_tree ?_;show wpAny _ A.in1 (do checkBuiltinCall "set.__new__" ⟨[.type "set",a],[]⟩;again (.builtin "set.__new__" ⟨[.type "set",a],[]⟩)) _ _ s;refine wpAny_bind (wpAny_of_eq (F.newCall_set_1 a) (wpAny_pure ⟨plainId_quiet F.plain_set_new _,codeAny_builtin F.entry_set_new ?_⟩));rw[Around.under_plainId F.plain_set_new _];unfold Builtin.«set.__new__» Builtin.Frozenset.newClass;have hsub:=sub_set_self;obtain⟨hp,g,d,tk,os⟩:=s;dsimp only
 wp_walk
 refine wpAny_askSetting (wpAny_pure ?_);dsimp only;simp only[newObj];refine wpAny_bind (wpAny_alloc (wpAny_pure ?_));exact wpAny_pure h
theorem call_setL {l:Addr}{items:Array Value}{ls:List Ln}{Q:Value->Shared->Prop}(hh:A.handled=none)(hu:A.units+64 < cLine)(hl:s.heap.IsList l items)(hi:AllLn prog w s.heap items.toList ls)(h63:items.size<=63)(h:∀ (h':Heap) (tk:Nat),SetOn prog w h' s.heap.objs.size items.size (AtL items.toList ls) (·∈ls.take items.size)->(∀ b o,s.heap.get? b=some o->h'.get? b=some o)->Q (.ref s.heap.objs.size) { s with heap:=h',toks:=tk}):wpAny (model prog w) A (call (.type "set") [.ref l]) Q E s:=by
 obtain⟨c,tl,hmro⟩:=F.called_set.mro;have hmade:=F.called_set.made;have hsub:=F.called_set.sub;refine wpAny_call (codeAny_of_tree ?_);show wpAny _ _ (callAny (.type "set") _) _ _ _;refine wpAny_pure ⟨Code.quiet_builtin _ (by decide +kernel),codeAny_builtin F.entry_type_call ?_⟩;rw[Around.under_plain (weight_type_call_type "set" [.ref l] []) rfl];have h1:=F.called_set.notType;have h2:=F.called_set.canCreate;have hct:=F.typeCall_set_1 (.ref l)
 repeat (any_goals (first | assumption | wp_step))
 refine codeAny_mono (code_newSet (.ref l) (E:=E) (Q₁:=fun obj s₁=>obj=.ref s.heap.objs.size/\s₁={ s with heap:=s.heap.push (newS w)}) ⟨rfl,rfl⟩) fun r s₁ hr=>?_
 cases r with
 | error e=>exact hr
 | ok fl=>
   cases fl with
   | ret obj=>
     obtain⟨rfl,rfl⟩:=hr;have hS:(s.heap.push (newS w)).get? s.heap.objs.size=some (newS w):=ax _ rfl;have hT:Shared.TypeIs { s with heap:=s.heap.push (newS w)} (.ref s.heap.objs.size) "set":=⟨_,hS,rfl⟩
     have hli:=F.called_set.init.lookup;have hbi:=F.called_set.init.bind (.ref s.heap.objs.size)
     repeat (any_goals (first | assumption | wp_step))
     refine codeAny_mono (codeAny_call_builtin (R:=wants (fun r s₂=>r=.none/\∃ h' tk,s₂={ s with heap:=h',toks:=tk}/\SetOn prog w h' s.heap.objs.size items.size (AtL items.toList ls) (·∈ls.take items.size)/\(∀ b o,s.heap.get? b=some o->h'.get? b=some o)) E) F.called_set.init.plain F.entry_set_init (check_set_init_1 hT ?_)) fun r₂ s₂ hr₂=>?_
     . obtain⟨ol,hol,hcl,nl,hdl⟩:=hl
       obtain⟨ocls,odict,odata,oslots⟩:=ol;simp only at hcl hdl;subst hcl;subst hdl;have hol':(s.heap.push (newS w)).get? l=some { cls:=.type "list",dict:=odict,data:=.seq items nl,slots:=oslots}:=aa _ hol;have hsls:=F.sub_list_set;have hslf:=F.sub_list_frozenset;have hne:(Value.type "list" == Value.type "dict")=false:=by decide
       have hl1:(s.heap.push (newS w)).IsList l items:=⟨_,hol',rfl,nl,rfl⟩
       unfold Builtin.«set.__init__» noKeywords Builtin.Frozenset.updateFrom;generalize hPI:pyIter=PI
       wp_walk
       subst hPI;refine wpAny_pyIter_list hl1 ?_;refine wpAny_bind (wpAny_runValue ?_);have hlS:l < s.heap.objs.size:=ah hol;have hsz:(s.heap.push (newS w)).objs.size=s.heap.objs.size+1:=by rw[bD]
       refine set_loop (by simp[hh]) (show A.units+1+1+8 < cLine by omega) (show l≠(s.heap.push (newS w)).objs.size by rw[hsz];exact au (a9 hlS)) (show s.heap.objs.size≠(s.heap.push (newS w)).objs.size by rw[hsz];exact au (bI _)) (Nat.ne_of_gt hlS) h63
         (items.size - 0) 0 _ (by omega) (aJ _) ⟨_,ax _ rfl,rfl,rfl⟩ (hl1.push _) (hi.keeps fun b o e _=>aa _ (aa _ e)) ⟨[],0,_,setL_fresh (aa _ hS),⟨ag _,fun p hp=>absurd hp (by simp)⟩,fun d=>by simp⟩ fun h' tk k1 k2=>?_
       refine wpAny_pure (wpAny_pure ⟨rfl,h',tk,rfl,k2,fun b o e=>?_⟩);have hb:=ah e;exact k1 b o (au hb) (by rw[hsz];exact au (a9 hb)) (aa _ (aa _ e))
     . cases r₂ with
       | error e=>exact hr₂
       | ok fl₂=>
         cases fl₂ with
         | ret r=>
           obtain⟨rfl,h',tk,rfl,hS',hk'⟩:=hr₂
           repeat (any_goals (first | assumption | wp_step))
           exact h _ _ hS' hk'
         | _=>exact hr₂.elim
   | _=>exact hr.elim
end
theorem erase_perm {α:Type}{l:List α}{i:Nat}(h:i < l.length):(l[i]::l.eraseIdx i).Perm l:=by
 rw[bj];have:=(@List.perm_middle _ l[i] (l.take i) (l.drop (i+1))).symm
 rwa [<- List.drop_eq_getElem_cons h,List.take_append_drop] at this
theorem pick_go {α:Type}(nx:Nat->Nat):∀ (f k:Nat) (left:List α) (out:Array α),left.length=f->(pickOrder.go nx f k left out).toList.Perm (out.toList ++ left)
 | 0,k,left,out,h=>by
   have:left=[]:=List.length_eq_zero_iff.mp h;subst this;rw[aU];exact .rfl
 | f+1,k,left,out,h=>by
   have hlt:nx k % left.length < left.length:=Nat.mod_lt _ (by omega);unfold pickOrder.go;rw[ak hlt];dsimp only;refine(pick_go nx f (k+1) _ _ (by rw[List.length_eraseIdx_of_lt hlt];omega)).trans ?_;rw[Array.toList_push,List.append_assoc];exact List.Perm.append_left _ (erase_perm hlt)
theorem pick_perm {α:Type}(nx:Nat->Nat)(xs:Array α):(pickOrder nx xs).toList.Perm xs.toList:=by
 have:=pick_go nx xs.size 0 xs.toList #[] (by simp);simpa [pickOrder] using this
theorem erase_map {α β:Type}(g:α->β)(l:List α)(i:Nat):(l.map g).eraseIdx i=(l.eraseIdx i).map g:=by
 rw[bj,bj];simp[List.map_take,List.map_drop]
theorem pick_map_go {α β:Type}(g:α->β)(nx:Nat->Nat):∀ (f k:Nat) (left:List α) (out:Array α),pickOrder.go nx f k (left.map g) (out.map g)=(pickOrder.go nx f k left out).map g
 | 0,k,left,out=>rfl
 | f+1,k,left,out=>by
   unfold pickOrder.go;rw[ae,av];cases hq:left[nx k % left.length]? with
   | none=>rfl
   | some x=>
     dsimp only [Option.map];rw[erase_map,<- Array.map_push];exact pick_map_go g nx f (k+1) _ _
theorem pick_maps {α β:Type}(g:α->β)(nx:Nat->Nat)(xs:List α):pickOrder nx (xs.map g).toArray=((pickOrder nx xs.toArray).toList.map g).toArray:=by
 apply aZ.mp;have:=pick_map_go g nx xs.length 0 xs #[];show(pickOrder.go nx (xs.map g).toArray.size 0 (xs.map g) #[]).toList=(pickOrder.go nx xs.toArray.size 0 xs #[]).toList.map g;rw[show(xs.map g).toArray.size=xs.length by simp,show xs.toArray.size=xs.length by simp];rw[show(#[]:Array α).map g=#[] by simp] at this;rw[this,Array.toList_map]
section
variable {prog:Program}{w:World}{A:Around}{E:Value->Shared->Prop}{s:Shared}{a:Addr}{ps:Pl}{ep:Nat}{t:SetTable}
theorem wp_neg {M:Model}{α:Type}{c:Prop}[Decidable c]{m e:Sem α}{Q:α->Shared->Prop}(hc:¬ c)(h:wpAny M A e Q E s):wpAny M A (if c then m else e) Q E s:=by rw[if_neg hc];exact h
theorem wp_pos {M:Model}{α:Type}{c:Prop}[Decidable c]{m e:Sem α}{Q:α->Shared->Prop}(hc:c)(h:wpAny M A m Q E s):wpAny M A (if c then m else e) Q E s:=by rw[if_pos hc];exact h
theorem set_walk (S:SetL prog w s.heap a ps ep t){Q:Array (Int×Value)->Shared->Prop}(h:∀ qs:Pl,qs.Perm ps->Q (qs.map (ent prog w)).toArray s):wpAny (model prog w) A (setWalk a) Q E s:=by
 unfold setWalk;refine wpAny_bind (S.state ?_);dsimp only;unfold setsByText;refine wpAny_bind (wpAny_bind (wpAny_askSetting (wpAny_pure ?_)));dsimp only;cases hb:w.params.followText "set-order" with
 | true=>
   refine wp_pos hb (wpAny_bind (wpAny_askSetting (wpAny_pure ?_)));show Q (pickOrder (w.params.setOrder a ep) (ps.map (ent prog w)).toArray) s;rw[pick_maps];exact h _ (pick_perm _ ps.toArray)
 | false=>
   refine wp_neg (show ¬ w.params.followText "set-order"=true by rw[hb];simp) ?_;refine wp_neg (show ¬ (!t.plain && decide ((ps.map (ent prog w)).toArray.size > 1))=true by rw[S.pla];simp) ?_;refine wpAny_bind (wpAny_of_eq (a:=()) ?_ (wpAny_pure (h ps .rfl)));show(if (!t.led && decide ((ps.map (ent prog w)).toArray.size > 1))=true then _ else pure ())=_;rw[S.led,hb];rw[if_neg (by simp)]
theorem set_walkU (S:SetL prog w s.heap a ps ep t){os:List Addr}{f:Option Addr}{Q:Array (Int×Value)->Shared->Prop}(h:∀ qs:Pl,qs.Perm ps->Q (qs.map (ent prog w)).toArray s):wpAny (model prog w) A (setWalkUnseen a os f) Q E s:=by
 unfold setWalkUnseen;refine wpAny_bind (S.state ?_);dsimp only;unfold setsByText;refine wpAny_bind (wpAny_bind (wpAny_askSetting (wpAny_pure ?_)));refine wp_pos (show(w.params.followText "set-order" || (t.led && t.plain) || decide ((ps.map (ent prog w)).toArray.size<=1))=true by
   rw[S.led,S.pla];cases w.params.followText "set-order" <;> rfl) (set_walk S h)
theorem set_isAny (hT:s.TypeIs (.ref a) "set"){Q:Bool->Shared->Prop}(h:Q true s):wpAny (model prog w) A (Builtin.Frozenset.isAnySet (.ref a)) Q E s:=by
 unfold Builtin.Frozenset.isAnySet orM;refine wpAny_bind (wpAny_isInstance hT sub_set_self ?_);exact wpAny_pure h
theorem set_size (S:SetL prog w s.heap a ps ep t){Q:Nat->Shared->Prop}(h:Q ps.length s):wpAny (model prog w) A (Builtin.Frozenset.sizeOf a) Q E s:=by
 unfold Builtin.Frozenset.sizeOf setEntries;refine wpAny_bind (wpAny_bind (S.state (wpAny_pure (wpAny_pure ?_))));simpa using h
theorem set_epoch (S:SetL prog w s.heap a ps ep t){Q:Nat->Shared->Prop}(h:Q ep s):wpAny (model prog w) A (setEpoch a) Q E s:=by
 unfold setEpoch;exact wpAny_bind (S.state (wpAny_pure h))
theorem set_new {Q:Value->Shared->Prop}(h:Q (.ref s.heap.objs.size) { s with heap:=s.heap.push (newS w)}):wpAny (model prog w) A (newSet (.type "set")) Q E s:=by
 unfold newSet setsByText;refine wpAny_bind (wpAny_bind (wpAny_askSetting (wpAny_pure ?_)));dsimp only;simp only[newObj];exact wpAny_bind (wpAny_alloc (wpAny_pure h))
theorem and_walk {B:Addr}{qs:Pl}{epB:Nat}{tB:SetTable}{r:Addr}{nm:String}(hu:A.units+1 < cLine)(S:SetL prog w s.heap a ps ep t)(T:SetL prog w s.heap B qs epB tB)(hra:r≠a)(hrb:r≠B)
   {Al:Ln×Addr->Prop} (hal:∀ p∈ps,Al p) (hr:SetOn prog w s.heap r 0 Al fun _=>False) (h63:ps.length<=63) {Q:PUnit->Shared->Prop} (l:Pl) (hl:l.Perm ps)
   (h:∀ h' u,aM r s.heap h'->SetOn prog w h' r ps.length Al (fun d=>d∈ps.map (·.1)/\d∈qs.map (·.1))->Q u { s with heap:=h'})
   {body:Int×Value->PUnit->Sem (ForInStep PUnit)}
   (hb:∀ (p:Ln×Addr) (u:PUnit) (s':Shared) (R:ForInStep PUnit->Shared->Prop),wpAny (model prog w) A (holding [Value.ref p.2] (do
       let o <- setFind B (.ref p.2) (lnH prog w p.1)
       if o.isSome=true then do let _ <- setAddHashed r (.ref p.2) (lnH prog w p.1);pure PUnit.unit else pure PUnit.unit)) (fun _ s2=>wpAny (model prog w) A (Builtin.Frozenset.unchanged nm a ep) (fun _ s3=>R (.yield PUnit.unit) s3) E s2) E s'->wpAny (model prog w) A (body (ent prog w p) u) R E s') :
   wpAny (model prog w) A (forIn (l.map (ent prog w)).toArray PUnit.unit body) Q E s:=by
 rw[<- aV];refine wpAny_forIn_list _ (fun rest _ s'=>∃ done left h',l=done ++ left/\rest=left.map (ent prog w)/\s'={ s with heap:=h'}/\aM r s.heap h'/\SetOn prog w h' r done.length Al (fun d=>d∈done.map (·.1)/\d∈qs.map (·.1))) _ ?_ ?_ _ _ ⟨[],l,s.heap,rfl,by simp,rfl,aM.refl r s.heap,?_⟩
 . rintro e rest u s' ⟨done,left,h',rfl,hrest,rfl,hsb,ps2,ep2,t2,c1,c2,c3'⟩
   have c3:∀ d,d∈ps2.map (·.1) ↔ (d∈done.map (·.1)/\d∈qs.map (·.1)):=c3';cases left with
   | nil=>cases hrest
   | cons p left=>
     rw[aL] at hrest;injection hrest with he hrest
     subst he;subst hrest;have hrs:∀ o,s.heap.get? r=some o->o.cls≠.type "tuple":=fun o e hc=>by
       obtain⟨ps0,ep0,t0,c0,_⟩:=hr;rw[c0.get] at e;cases e;exact absurd hc (by show ¬ (Value.type "set"=Value.type "tuple");decide)
     have keepT:∀ b o,s.heap.get? b=some o->b=B\/b=a\/o.cls=.type "tuple"->h'.get? b=some o:=fun b o e hc=>by
       rw[hsb.2 b (fun q=>?_)]
       . exact e
       . subst q
         rcases hc with hc | hc | hc
         . exact hrb hc
         . exact hra hc
         . exact hrs o e hc
     have T':SetL prog w h' B qs epB tB:=T.keeps fun b o e hc=>keepT b o e (hc.elim .inl fun q=>.inr (.inr q))
     have S':SetL prog w h' a ps ep t:=S.keeps fun b o e hc=>keepT b o e (.inr (hc.elim .inl .inr))
     have hpl:IsLn prog w h' p.1 p.2:=S'.lns p (hl.mem_iff.mp (aA _ (.head _)));have hdl:done.length < 63:=by have:=hl.length_eq;rw[aI,bf] at this;omega
     refine hb p u _ _ (wpAny_holding (wpAny_bind (set_find (s:={ s with heap:=h'}) hu T' hpl fun o ho=>?_)));by_cases hm:p.1∈qs.map (·.1)
     . rw[decide_eq_true hm] at ho
       rw[if_pos ho];have dm:∀ d,(d∈(done ++ [p]).map (·.1)/\d∈qs.map (·.1)) ↔ ((d∈done.map (·.1)/\d∈qs.map (·.1))\/d=p.1):=fun d=>by
         rw[bQ,br,List.map_singleton,bq];exact⟨fun⟨q,z⟩=>q.elim (fun q=>.inl ⟨q,z⟩) .inr,fun q=>q.elim (fun⟨q,z⟩=>⟨.inl q,z⟩) fun q=>⟨.inr q,by rw[q];exact hm⟩⟩
       refine wpAny_bind (set_add (s:={ s with heap:=h'}) hu c1 hpl (by have:=c2.1;omega) (fun hin=>?_) fun hin h2 ps3 ep3 t3 g1 g2 g3=>?_)
       . refine wpAny_pure ?_
         unfold Builtin.Frozenset.unchanged;refine wpAny_bind (set_epoch (s:={ s with heap:=h'}) S' (wp_neg (by simp) (wpAny_pure ?_)));refine⟨done ++ [p],left,h',by simp,rfl,rfl,hsb,ps2,ep2,t2,c1,⟨by rw[aI];have:=c2.1;omega,c2.2⟩,fun d=>?_⟩;rw[c3];refine(Iff.trans ?_ (dm d).symm);exact⟨.inl,fun q=>q.elim id fun q=>by rw[q];exact(c3 _).mp hin⟩
       . refine wpAny_pure ?_
         have S2:SetL prog w h2 a ps ep t:=S'.keeps fun b o e hc=>by
           rw[g1.2 b (fun q=>?_)]
           . exact e
           . subst q
             rcases hc with hc | hc
             . exact hra hc
             . rw[c1.get] at e;cases e;exact absurd hc (by show ¬ (Value.type "set"=Value.type "tuple");decide)
         unfold Builtin.Frozenset.unchanged;refine wpAny_bind (set_epoch (s:={ s with heap:=h2}) S2 (wp_neg (by simp) (wpAny_pure ?_)));refine⟨done ++ [p],left,h2,by simp,rfl,rfl,hsb.trans g1,ps3,ep3,t3,g2,⟨by rw[g3.length_eq,bf,aI,aY];have:=c2.1;omega,fun q hq=>(aK.mp (g3.mem_iff.mp hq)).elim (fun e=>by subst e;exact hal _ (hl.mem_iff.mp (aA _ (.head _)))) (c2.2 q)⟩,fun d=>?_⟩;rw[(g3.map (·.1)).mem_iff,aL,aK];refine(Iff.trans ?_ (dm d).symm);rw[<- c3 d];exact Or.comm
     . rw[decide_eq_false hm] at ho
       rw[if_neg (by rw[ho];simp)];refine wpAny_pure ?_;unfold Builtin.Frozenset.unchanged;refine wpAny_bind (set_epoch (s:={ s with heap:=h'}) S' (wp_neg (by simp) (wpAny_pure ?_)));refine⟨done ++ [p],left,h',by simp,rfl,rfl,hsb,ps2,ep2,t2,c1,⟨by rw[aI];have:=c2.1;omega,c2.2⟩,fun d=>?_⟩;show _ ↔ (d∈(done ++ [p]).map (·.1)/\d∈qs.map (·.1));rw[c3,bQ,br,List.map_singleton,bq];exact⟨fun⟨q,z⟩=>⟨.inl q,z⟩,fun⟨q,z⟩=>⟨q.elim id fun q=>absurd (q ▸ z) hm,z⟩⟩
 . rintro u s' ⟨done,left,h',rfl,hrest,rfl,hsb,ps2,ep2,t2,c1,c2,c3⟩
   have:left=[]:=by cases left with | nil=>rfl | cons _ _=>cases hrest
   subst this;rw[aU] at hl;refine h h' u hsb ⟨ps2,ep2,t2,c1,⟨by rw[<- hl.length_eq];exact c2.1,c2.2⟩,fun d=>?_⟩;show _ ↔ (d∈ps.map (·.1)/\d∈qs.map (·.1));rw[<- (hl.map (·.1)).mem_iff];exact c3 d
 . obtain⟨ps0,ep0,t0,c0,c1,c2⟩:=hr
   exact⟨ps0,ep0,t0,c0,c1,fun d=>by rw[c2];simp⟩
end
theorem entry_set_and:entryFor table "set.__and__"=some Builtin.«frozenset.__and__»:=
 entryFor_alias (id':="frozenset.__and__") (by kernel_rfl) rfl (by decide +kernel) (by kernel_rfl)
section
variable {prog:Program}{w:World}{A:Around}{E:Value->Shared->Prop}{s:Shared}{a b:Addr}{n:Nat}{D1 D2:Ln->Prop}
theorem set_and {Q:Value->Shared->Prop}(hu:A.units+64 < cLine)(hab:a≠b)(h63:n<=63){Al:Ln×Addr->Prop}(Sa:SetOn prog w s.heap a n Al D1)(Sb:SetOn prog w s.heap b n Al D2)(h:∀ h',SetOn prog w h' s.heap.objs.size n Al (fun d=>D1 d/\D2 d)->(∀ c o,s.heap.get? c=some o->h'.get? c=some o)->Q (.ref s.heap.objs.size) { s with heap:=h'}):wpAny (model prog w) A (binaryOp .BitAnd (.ref a) (.ref b)) Q E s:=by
 obtain⟨ps,ep,t,a1,a2,a3⟩:=Sa;obtain⟨qs,eq,tq,b1,b2,b3⟩:=Sb;refine wpAny_binaryOp_same (op:=.BitAnd) (T:="set") a1.typeIs b1.typeIs F.fills_set_and F.slot_set_and (wpAny_call_entry F.slot_set_and a1.typeIs entry_set_and ?_ (F.args_set_and_2 _ _));show wpAny _ _ ((Builtin.Frozenset.isAnySet (.ref a) <&&> Builtin.Frozenset.isAnySet (.ref b)) >>= _) _ _ _;unfold andM;refine wpAny_bind (wpAny_bind (set_isAny a1.typeIs ?_));show wpAny _ _ (Builtin.Frozenset.isAnySet (.ref b)) _ _ _;refine set_isAny b1.typeIs ?_;refine wp_neg (by simp) ?_;refine wpAny_bind (wpAny_pure ?_);generalize (toString "frozenset." ++ toString "__and__")=nm;refine wpAny_bind ?_;unfold Builtin.Frozenset.intersection;refine wp_neg (by simpa using fun e=>hab e.symm) ?_;refine wpAny_bind (m:=Builtin.Frozenset.baseOf a) ?_;unfold Builtin.Frozenset.baseOf;refine wpAny_bind (wpAny_isInstance a1.typeIs sub_set_self (wpAny_pure ?_));rw[if_pos rfl];refine wpAny_bind (set_new ?_);refine wpAny_bind (m:=Builtin.Frozenset.addrOf (.ref s.heap.objs.size)) (wpAny_pure ?_);have keep:∀ c o,s.heap.get? c=some o->(s.heap.push (newS w)).get? c=some o:=fun c o e=>aa _ e
 have A1:SetL prog w (s.heap.push (newS w)) a ps ep t:=a1.keeps fun c o e _=>keep c o e
 have B1:SetL prog w (s.heap.push (newS w)) b qs eq tq:=b1.keeps fun c o e _=>keep c o e
 have hra:s.heap.objs.size≠a:=Nat.ne_of_gt (ah a1.get);have hrb:s.heap.objs.size≠b:=Nat.ne_of_gt (ah b1.get);have hr:SetOn prog w (s.heap.push (newS w)) s.heap.objs.size 0 Al fun _=>False:=⟨[],0,_,setL_fresh (ax _ rfl),⟨ag _,fun p hp=>absurd hp (by simp)⟩,fun d=>by simp⟩
 refine wpAny_bind (wpAny_holding ?_);refine wpAny_bind (set_isAny (s:={ s with heap:=s.heap.push (newS w)}) B1.typeIs ?_);refine wp_pos rfl ?_;refine wpAny_bind (m:=Builtin.Frozenset.addrOf (.ref b)) (wpAny_pure ?_);refine wpAny_bind (set_size (s:={ s with heap:=s.heap.push (newS w)}) B1 ?_);refine wpAny_bind (set_size (s:={ s with heap:=s.heap.push (newS w)}) A1 ?_);have fin:∀ h',aM s.heap.objs.size (s.heap.push (newS w)) h'->∀ c o,s.heap.get? c=some o->h'.get? c=some o:=fun h' hs c o e=>by
   rw[hs.2 c (au (ah e))];exact keep c o e
 have hu':A.in1.units+1 < cLine:=show A.units+1+1 < cLine by omega
 by_cases hz:qs.length > ps.length
 . rw[if_pos hz]
   dsimp only;refine wpAny_bind (set_epoch (s:={ s with heap:=s.heap.push (newS w)}) A1 ?_);refine wpAny_bind (set_walkU (s:={ s with heap:=s.heap.push (newS w)}) A1 fun l hl=>?_);refine wpAny_bind (and_walk (s:={ s with heap:=s.heap.push (newS w)}) (nm:=nm) hu' A1 B1 hra hrb a2.2 hr (by have:=a2.1;omega) l hl (fun h' u g1 g2=>?_) fun p u s' R hb=>?_)
   . obtain⟨ps2,ep2,t2,c1,c2,c3⟩:=g2
     refine wpAny_pure (wpAny_pure (wpAny_pure ⟨_,rfl,(fun e=>nomatch e),h h' ⟨ps2,ep2,t2,c1,⟨by have:=c2.1;have:=a2.1;have:=b2.1;omega,c2.2⟩,fun d=>(c3 d).trans (and_congr (a3 d) (b3 d))⟩ (fin h' g1)⟩))
   . exact wpAny_bind (wpAny_mono hb (fun _ s2 h2=>wpAny_bind (wpAny_mono h2 (fun _ s3 h3=>wpAny_pure h3) fun _ _ e=>e)) fun _ _ e=>e)
 . rw[if_neg hz]
   dsimp only;refine wpAny_bind (set_epoch (s:={ s with heap:=s.heap.push (newS w)}) B1 ?_);refine wpAny_bind (set_walkU (s:={ s with heap:=s.heap.push (newS w)}) B1 fun l hl=>?_);refine wpAny_bind (and_walk (s:={ s with heap:=s.heap.push (newS w)}) (nm:=nm) hu' B1 A1 hrb hra b2.2 hr (by have:=b2.1;omega) l hl (fun h' u g1 g2=>?_) fun p u s' R hb=>?_)
   . obtain⟨ps2,ep2,t2,c1,c2,c3⟩:=g2
     refine wpAny_pure (wpAny_pure (wpAny_pure ⟨_,rfl,(fun e=>nomatch e),h h' ⟨ps2,ep2,t2,c1,⟨by have:=c2.1;have:=a2.1;have:=b2.1;omega,c2.2⟩,fun d=>(c3 d).trans ((and_congr (b3 d) (a3 d)).trans And.comm)⟩ (fin h' g1)⟩))
   . exact wpAny_bind (wpAny_mono hb (fun _ s2 h2=>wpAny_bind (wpAny_mono h2 (fun _ s3 h3=>wpAny_pure h3) fun _ _ e=>e)) fun _ _ e=>e)
end
theorem slot_sit_next:PySem.Slot "set_iterator" "__next__" "set_iterator.__next__":=
 .of (owner:="set_iterator") (n:="__next__") (by rw[typeLookup_type,builtinLookup_eq_fast];kernel_rfl) (by decide +kernel) (by decide +kernel) (by decide +kernel)
   (by first | exact .inl (by decide +kernel) | exact .inr (by decide +kernel)) (by rw[isSubtype_type];kernel_rfl)
theorem entry_sit_next:entryFor table "set_iterator.__next__"=some Builtin.«set_iterator.__next__»:=entryFor_of_tree (by kernel_rfl)
theorem args_sit_next (a:Value):argsOk "set_iterator.__next__" ⟨[a],[]⟩:=by unfold argsOk;kernel_rfl
theorem slot_sit_iter:PySem.Slot "set_iterator" "__iter__" "set_iterator.__iter__":=
 .of (owner:="set_iterator") (n:="__iter__") (by rw[typeLookup_type,builtinLookup_eq_fast];kernel_rfl) (by decide +kernel) (by decide +kernel) (by decide +kernel)
   (by first | exact .inl (by decide +kernel) | exact .inr (by decide +kernel)) (by rw[isSubtype_type];kernel_rfl)
theorem entry_sit_iter:entryFor table "set_iterator.__iter__"=some Builtin.«dict_keyiterator.__iter__»:=
 entryFor_alias (id':="dict_keyiterator.__iter__") (by kernel_rfl) rfl (by decide +kernel) (by kernel_rfl)
theorem args_sit_iter (a:Value):argsOk "set_iterator.__iter__" ⟨[a],[]⟩:=by unfold argsOk;kernel_rfl
theorem entry_set_iter':entryFor table "set.__iter__"=some Builtin.«frozenset.__iter__»:=
 entryFor_alias (id':="frozenset.__iter__") (by kernel_rfl) rfl (by decide +kernel) (by kernel_rfl)
noncomputable def wkL (w:World)(a:Addr)(ep:Nat)(ps:Pl):Pl:=if w.params.followText "set-order"=true then (pickOrder (w.params.setOrder a ep) ps.toArray).toList else ps
theorem wkL_perm (w:World)(a:Addr)(ep:Nat)(ps:Pl):(wkL w a ep ps).Perm ps:=by
 unfold wkL;split
 . exact pick_perm _ ps.toArray
 . exact .rfl
structure SetB (prog:Program)(w:World)(a:Addr)(ps:Pl)(ep:Nat)(t:SetTable):Prop where
 tab:TOk t (ps.map fun p=>lnH prog w p.1)
 pla:t.plain=true
 led:t.led=!w.params.followText "set-order"
def SitAt (h:Heap)(I a:Addr)(sl i n ep:Nat):Prop:=∃ o,h.get? I=some o/\o.cls=.type "set_iterator"/\o.data=.fields #[.int sl 0,.int i 0,.ref a,.int n 0,.int ep 0]
theorem SitAt.typeIs {s:Shared}{I a:Addr}{sl i n ep:Nat}(x:SitAt s.heap I a sl i n ep):s.TypeIs (.ref I) "set_iterator":=let ⟨o,ho,hc,_⟩:=x;⟨o,ho,hc⟩
section
variable {prog:Program}{w:World}{A:Around}{E:Value->Shared->Prop}{s:Shared}{a I:Addr}{ps:Pl}{ep sl i:Nat}{t:SetTable}
theorem SetB.state (B:SetB prog w a ps ep t)(hg:s.heap.get? a=some (setObjL prog w ps ep t)){Q:(Array (Int×Value)×Nat×SetTable)->Shared->Prop}(h:Q ((ps.map (ent prog w)).toArray,ep,t) s):wpAny (model prog w) A (setState a) Q E s:=
 wpAny_setState_of hg rfl (by have:=B.tab.fits;rw[ae] at this;simpa using this) h
theorem SetB.walk (B:SetB prog w a ps ep t)(hg:s.heap.get? a=some (setObjL prog w ps ep t)){Q:Array (Int×Value)->Shared->Prop}(hb:w.params.followText "set-order"=true)(h:Q ((wkL w a ep ps).map (ent prog w)).toArray s):wpAny (model prog w) A (setWalk a) Q E s:=by
 unfold setWalk;refine wpAny_bind (B.state hg ?_);dsimp only;unfold setsByText;refine wpAny_bind (wpAny_bind (wpAny_askSetting (wpAny_pure ?_)));dsimp only;refine wp_pos hb (wpAny_bind (wpAny_askSetting (wpAny_pure ?_)));show Q (pickOrder (w.params.setOrder a ep) (ps.map (ent prog w)).toArray) s;rw[pick_maps];unfold wkL at h;rw[if_pos hb] at h;exact h
def SlOk (w:World)(t:SetTable)(sl i:Nat):Prop:=w.params.followText "set-order"=false->SetTable.below t.place sl=i
theorem below_zero {xs:Array Nat}(hr:Ris xs):SetTable.below xs 0=0:=by
 obtain⟨_,h2,_⟩:=below_spec hr 0;rcases Nat.eq_zero_or_pos (SetTable.below xs 0) with h | h
 . exact h
 . exact absurd (h2 0 h) (by omega)
theorem below_next {xs:Array Nat}(hr:Ris xs){i:Nat}(hi:i < xs.size):SetTable.below xs (xs.getD i 0+1)=i+1:=by
 obtain⟨h1,h2,h3⟩:=below_spec hr (xs.getD i 0+1);rcases bB (SetTable.below xs (xs.getD i 0+1)) (i+1) with h | h | h
 . have:=h3 i (by omega) hi;omega
 . exact h
 . have:=h2 (i+1) h
   have:=hr i (i+1) (by omega) (by omega);omega
theorem SetB.next (B:SetB prog w a ps ep t)(hg:s.heap.get? a=some (setObjL prog w ps ep t))(hs:SlOk w t sl i){Q:Option (Value×Nat)->Shared->Prop}(h1:∀ (hi:i < (wkL w a ep ps).length) sl',SlOk w t sl' (i+1)->Q (some (.ref (wkL w a ep ps)[i].2,sl')) s)(h2:(wkL w a ep ps).length<=i->Q none s):wpAny (model prog w) A (setNext a sl i ep) Q E s:=by
 have hlen:(wkL w a ep ps).length=ps.length:=(wkL_perm w a ep ps).length_eq;unfold setNext;refine wpAny_bind (B.state hg ?_);dsimp only;unfold setsByText;refine wpAny_bind (wpAny_bind (wpAny_askSetting (wpAny_pure ?_)));cases hb:w.params.followText "set-order" with
 | true=>
   refine wp_pos hb (wp_neg (by simp) (wpAny_bind (B.walk hg hb (wpAny_pure ?_))));by_cases hi:i < (wkL w a ep ps).length
   . rw[show((wkL w a ep ps).map (ent prog w)).toArray[i]?=some (ent prog w (wkL w a ep ps)[i]) by simp[hi]]
     exact h1 hi sl fun q=>by rw[hb] at q;cases q
   . rw[show((wkL w a ep ps).map (ent prog w)).toArray[i]?=none by simp;omega]
     exact h2 (by omega)
 | false=>
   have ew:wkL w a ep ps=ps:=by unfold wkL;rw[if_neg (by rw[hb];simp)]
   rw[ew] at h1 h2;refine wp_neg (show ¬ w.params.followText "set-order"=true by rw[hb];simp) ?_;refine wp_neg (show ¬ (!t.plain && decide ((ps.map (ent prog w)).toArray.size > 1))=true by rw[B.pla];simp) ?_;refine wpAny_bind (wpAny_of_eq (a:=()) ?_ ?_)
   . show(if (!t.led && !(ps.map (ent prog w)).toArray.isEmpty)=true then _ else pure ())=_
     rw[B.led,hb];rw[if_neg (by simp)]
   . rw[hs hb]
     have hps:t.place.size=ps.length:=by rw[B.tab.len,ae]
     by_cases hi:i < ps.length
     . rw[ents_at hi,show t.place[i]?=some (t.place.getD i 0) by rw[aB,bM (by omega)];rfl]
       exact wpAny_pure (h1 hi _ fun _=>below_next B.tab.ris (by omega))
     . rw[show(ps.map (ent prog w)).toArray[i]?=none by simp;omega]
       exact wpAny_pure (h2 (by omega))
theorem sit_item (B:SetB prog w a ps ep t)(hg:s.heap.get? a=some (setObjL prog w ps ep t))(hit:SitAt s.heap I a sl i ps.length ep)(hs:SlOk w t sl i)(hi:i < (wkL w a ep ps).length){Q:Option Value->Shared->Prop}(h:∀ h' sl',SitAt h' I a sl' (i+1) ps.length ep->SlOk w t sl' (i+1)->aM I s.heap h'->Q (some (.ref (wkL w a ep ps)[i].2)) { s with heap:=h'}):wpAny (model prog w) A (pyNext (.ref I)) Q E s:=by
 obtain⟨o,ho,hc,hd⟩:=id hit;unfold pyNext;refine wpAny_bind (wpAny_attempt (wpAny_callSpecial?_slot (name:=Str.ofString "__next__") hit.typeIs slot_sit_next (wpAny_call_entry slot_sit_next hit.typeIs entry_sit_next ?_ (args_sit_next _))));unfold Builtin.«set_iterator.__next__»;refine wpAny_bind (wpAny_pure ?_);refine wpAny_bind (wpAny_fieldsOf ho hd ?_);show wpAny _ _ (setEntries a >>= _) _ _ _;unfold setEntries;refine wpAny_bind (wpAny_bind (B.state hg (wpAny_pure ?_)));refine wp_neg (by simp) ?_;show wpAny _ _ (setNext a sl i ep >>= _) _ _ _;refine wpAny_bind (B.next hg hs (fun hi' sl' hs'=>?_) fun hn=>absurd hi (by omega));show wpAny _ _ (setField (.ref I) 0 (rawInt sl') >>= _) _ _ _;refine wpAny_bind (wpAny_setField ho hd (by simp) ?_);have hsb:=aM.update s.heap I (Obj.mapFields (·.setIfInBounds 0 (rawInt sl')));obtain⟨o2,ho2,hc2,hd2⟩:SitAt (s.heap.update I (Obj.mapFields (·.setIfInBounds 0 (rawInt sl')))) I a sl' i ps.length ep:=
   ⟨_,bA _ ho (Obj.isFreed_of_fields (Obj.data_mapFields hd _)),(Obj.cls_mapFields ..).trans hc,by rw[Obj.data_mapFields hd];simp[rawInt]⟩
 refine wpAny_bind (wpAny_setField (s:={ s with heap:=s.heap.update I (Obj.mapFields (·.setIfInBounds 0 (rawInt sl')))}) ho2 hd2 (by simp) ?_);have hsb2:=aM.update (s.heap.update I (Obj.mapFields (·.setIfInBounds 0 (rawInt sl')))) I (Obj.mapFields (·.setIfInBounds 1 (rawInt ((i:Int)+1))));refine wpAny_pure ⟨_,rfl,wpAny_pure (h _ sl' ⟨_,bA _ ho2 (Obj.isFreed_of_fields (Obj.data_mapFields hd2 _)),(Obj.cls_mapFields ..).trans hc2,by rw[Obj.data_mapFields hd2];simp[rawInt]⟩ hs' (hsb.trans hsb2))⟩
theorem sit_done (hh:A.handled=none)(B:SetB prog w a ps ep t)(hg:s.heap.get? a=some (setObjL prog w ps ep t))(hit:SitAt s.heap I a sl i ps.length ep)(hs:SlOk w t sl i)(hi:(wkL w a ep ps).length<=i){Q:Option Value->Shared->Prop}(h:∀ h',Heap.ExtBut I s.heap h'->Q none { s with heap:=h'}):wpAny (model prog w) A (pyNext (.ref I)) Q E s:=by
 obtain⟨o,ho,hc,hd⟩:=id hit;unfold pyNext;refine wpAny_bind (wpAny_attempt (wpAny_callSpecial?_slot (name:=Str.ofString "__next__") hit.typeIs slot_sit_next (wpAny_call_entry slot_sit_next hit.typeIs entry_sit_next ?_ (args_sit_next _))));unfold Builtin.«set_iterator.__next__»;refine wpAny_bind (wpAny_pure ?_);refine wpAny_bind (wpAny_fieldsOf ho hd ?_);show wpAny _ _ (setEntries a >>= _) _ _ _;unfold setEntries;refine wpAny_bind (wpAny_bind (B.state hg (wpAny_pure ?_)));refine wp_neg (by simp) ?_;show wpAny _ _ (setNext a sl i ep >>= _) _ _ _;refine wpAny_bind (B.next hg hs (fun hi' sl' hs'=>absurd hi' (by omega)) fun hn=>?_);show wpAny _ _ (setField (.ref I) 2 .none >>= _) _ _ _;refine wpAny_bind (wpAny_setField ho hd (by simp) ?_);show wpAny _ _ (newExc (.type "StopIteration") [] >>= _) _ _ _;refine wpAny_bind ?_;simp only[newExc,newTuple];refine wpAny_bind (wpAny_newObj_type ?_ (by size_fits));refine wpAny_bind (m:=firstArgMember _ _) (wpAny_of_eq (a:=Value.none) (by first | rfl | (simp only[firstArgMember];rfl)) ?_);refine wpAny_newObj_type ?_ (by size_fits);simp only[raiseNew];refine wpAny_bind (wpAny_handled ?_);rw[show A.in1.handled=none from hh];refine wpAny_bind (wpAny_pure (wpAny_throw ?_));refine wpAny_bind (wpAny_isInstance (T:="StopIteration") (b:=true) ⟨_,ax _ rfl,rfl⟩ isSubtype_stop ?_);exact wpAny_pure (h _ (((aM.update ..).extBut.push _).push _))
theorem set_iter' (B:SetB prog w a ps ep t)(hg:s.heap.get? a=some (setObjL prog w ps ep t)){Q:Value->Shared->Prop}(h:Q (.ref s.heap.objs.size) { s with heap:=s.heap.push { cls:=.type "set_iterator",data:=.fields #[.int 0 0,.int 0 0,.ref a,.int ps.length 0,.int ep 0]}}):wpAny (model prog w) A (pyIter (.ref a)) Q E s:=by
 have hT:s.TypeIs (.ref a) "set":=⟨_,hg,rfl⟩
 refine wpAny_pyIter_slot hT F.slot_set_iter (wpAny_call_entry F.slot_set_iter hT entry_set_iter' ?_ (F.args_set_iter_1 _));unfold Builtin.«frozenset.__iter__»;refine wpAny_bind (m:=Builtin.Frozenset.slot0 _ _) (wpAny_pure ?_);refine wpAny_bind ?_;unfold Builtin.Frozenset.sizeOf setEntries;refine wpAny_bind (wpAny_bind (B.state hg (wpAny_pure (wpAny_pure ?_))));unfold setDrawn setsByText;refine wpAny_bind (wpAny_bind (B.state hg ?_));refine wpAny_bind (wpAny_bind (wpAny_askSetting (wpAny_pure (wpAny_pure ?_))));refine wp_neg (show ¬ (!w.params.followText "set-order" && (!t.plain && decide ((ps.map (ent prog w)).toArray.size > 1)))=true by rw[B.pla];simp) ?_;refine wpAny_bind (wpAny_pure ?_);unfold setEpoch;refine wpAny_bind (wpAny_bind (B.state hg (wpAny_pure ?_)));refine wpAny_bind (wpAny_newObj_type (wpAny_pure ⟨_,rfl,"set_iterator",_,⟨_,ax _ rfl,rfl⟩,slot_sit_next.lookup,?_⟩));simpa [rawInt] using h
theorem sit_self (hit:SitAt s.heap I a sl i ps.length ep){Q:Value->Shared->Prop}(h:Q (.ref I) s):wpAny (model prog w) A (pyIter (.ref I)) Q E s:=by
 refine wpAny_pyIter_slot hit.typeIs slot_sit_iter (wpAny_call_entry slot_sit_iter hit.typeIs entry_sit_iter ?_ (args_sit_iter _));show wpAny _ _ (ret (.ref I)) _ _ s;exact wpAny_pure ⟨_,rfl,"set_iterator",_,hit.typeIs,slot_sit_next.lookup,h⟩
theorem hint_set (hT:s.TypeIs (.ref a) "set"){Q:Bool->Shared->Prop}(h:Q false s):wpAny (model prog w) A (Builtin.List.listLengthHint (.ref a)) Q E s:=by
 unfold Builtin.List.listLengthHint;refine wpAny_bind (wpAny_specialOf hT F.slot_set_len.lookup ?_);generalize hid:("set.__len__":String)=id0
 wp_delta
 rw[show splitId id0=some ("set","__len__") from by subst hid;decide +kernel];subst hid;refine wpAny_bind (wpAny_isInstance (T:="set") (b:=true) hT (by rw[isSubtype_type];kernel_rfl) ?_);refine wpAny_ite_split (fun hab=>absurd hab (by decide)) (fun _=>?_);refine wpAny_ite_split (fun _=>?_) (fun hab=>absurd (by decide +kernel) hab);refine wpAny_bind (wpAny_typeOf hT ?_);exact wpAny_pure h
theorem kdl_set (B:SetB prog w a ps ep t):W.KdlSrc prog w "set" a a ps.length (fun i v=>∃ p,(wkL w a ep ps)[i]?=some p/\v=.ref p.2) (fun h=>h.get? a=some (setObjL prog w ps ep t)) where
 type:=fun _ hm=>⟨_,hm,rfl⟩
 there:=fun _ hm=>⟨ah hm,ah hm⟩
 keep:=fun _ _ hm hk=>hk a (.inl rfl) _ hm
 notList:=by decide
 notTuple:=by decide
 hint:=fun _ _ _ _ hm hq=>hint_set ⟨_,hm,rfl⟩ hq
 iter:=fun A s hh hm=>⟨_,fun i h=>(∃ sl,SitAt h s.heap.objs.size a sl i ps.length ep/\SlOk w t sl i)/\h.get? a=some (setObjL prog w ps ep t),(fun _ _ hq=>set_iter' B hm hq),{
     sub:=fun b hb=>by simp at hb;simp[hb]
     frame:=fun i h h' st hk=>⟨let ⟨sl,⟨o,x1,x2⟩,x3⟩:=st.1;⟨sl,⟨o,hk _ (by simp) _ x1,x2⟩,x3⟩,hk a (by simp) _ st.2⟩
     item:=fun i s' Q E hi st hQ=>by
       obtain⟨⟨sl,x1,x2⟩,x3⟩:=st;have hi':i < (wkL w a ep ps).length:=by rw[(wkL_perm w a ep ps).length_eq];exact hi
       refine sit_item B x3 x1 x2 hi' fun h' sl' y1 y2 y3=>hQ _ h' s'.toks ⟨_,ak hi',rfl⟩ ⟨⟨sl',y1,y2⟩,?_⟩ fun b o hb e=>?_
       . rw[y3.2 a (au (ah hm))];exact x3
       . rw[y3.2 b (by simpa using hb)];exact e
     done:=fun s' Q E st hQ=>by
       obtain⟨⟨sl,x1,x2⟩,x3⟩:=st;exact sit_done hh B x3 x1 x2 (by rw[(wkL_perm w a ep ps).length_eq];exact ag _) fun h' y=>hQ h' s'.toks fun b o hb e=>y b o (by simpa using hb) e
     self:=fun i s' Q E st hQ=>by
       obtain⟨⟨sl,x1,x2⟩,x3⟩:=st;exact sit_self x1 hQ},
   ⟨0,⟨_,ax _ rfl,rfl,rfl⟩,fun _=>below_zero B.tab.ris⟩,aa _ hm⟩
end
end Sg
namespace Sg
open PySem PySem.Spec PySem.W PyProof.Rows
noncomputable def lt4 (a b:Int×Int×Int×Int):Bool:=decide (a.1 < b.1\/(a.1=b.1/\(a.2.1 < b.2.1\/(a.2.1=b.2.1/\(a.2.2.1 < b.2.2.1\/(a.2.2.1=b.2.2.1/\a.2.2.2 < b.2.2.2))))))
noncomputable def O4:KeyOrd where
 α:=Int×Int×Int×Int
 blt:=lt4
 irrefl:=fun a=>by simp only[lt4,decide_eq_false_iff_not];omega
 trans:=fun a b c h1 h2=>by simp only[lt4,decide_eq_true_eq] at *;omega
 negTrans:=fun a b c h=>by simp only[lt4,decide_eq_true_eq] at *;omega
 total:=fun a b h1 h2=>by
   obtain⟨a1,a2,a3,a4⟩:=a;obtain⟨b1,b2,b3,b4⟩:=b;simp only[lt4,decide_eq_false_iff_not] at h1 h2;have e1:a1=b1:=by omega
   have e2:a2=b2:=by omega
   have e3:a3=b3:=by omega
   have e4:a4=b4:=by omega
   rw[e1,e2,e3,e4]
noncomputable def ltS (x y u v:Int):Bool:=decide (x < u\/(x=u/\y < v))
section
variable {prog:Program}{w:World}{A:Around}{E:Value->Shared->Prop}{s:Shared}{a b:Addr}{x y u v:Int}
abbrev Sp (prog:Program)(w:World)(h:Heap)(x y:Int)(a:Addr):Prop:=IsTupleKey (intKind prog w) h [x,y] a
theorem sp_items {h:Heap}(hk:Sp prog w h x y a):∃ o n t1 t2,h.get? a=some o/\o.cls=.type "tuple"/\o.data=.seq #[.int x t1,.int y t2] n:=by
 obtain⟨o,items,n,ho,hc,hd,hi⟩:=hk;have int:∀ (k:Int) (v:Value),(intKind prog w).is k v=true->∃ t,v=.int k t:=fun k v h1=>by
   have h1':Value.isInt k v=true:=h1;cases v <;> first | exact Bool.noConfusion h1' | skip
   rename_i i t;have:i=k:=by simpa [Value.isInt] using h1'
   exact⟨t,by rw[this]⟩
 cases hl:items.toList with
 | nil=>rw[hl] at hi;cases hi
 | cons v1 l=>
   rw[hl] at hi;cases hi with
   | cons h1 t=>
     cases t with
     | cons h2 t=>
       cases t;obtain⟨t1,rfl⟩:=int _ _ h1;obtain⟨t2,rfl⟩:=int _ _ h2;refine⟨o,n,t1,t2,ho,hc,?_⟩;rw[hd]
       congr 1
       apply aZ.mp;rw[hl]
theorem sp_lt {Q:Value->Shared->Prop}(hu:A.units < cLine)(ha:Sp prog w s.heap x y a)(hb:Sp prog w s.heap u v b)(h:Q (.bool (ltS x y u v)) s):wpAny (model prog w) A (compareOp .Lt (.ref a) (.ref b)) Q E s:=by
 obtain⟨oa,na,t1,t2,hoa,hca,hda⟩:=sp_items ha;obtain⟨ob,nb,t3,t4,hob,hcb,hdb⟩:=sp_items hb;show wpAny _ _ (richCompare .Lt (.ref a) (.ref b)) Q E s;refine wpAny_richCompare_same_room (op:=.Lt) ha.typeIs hb.typeIs F.slot_tuple_lt (wpAny_call_entry F.slot_tuple_lt ha.typeIs F.entry_tuple_lt ?_ (F.args_tuple_lt_2 _ _)) hu;show wpAny _ _ (isInstance (.ref b) (.type "tuple") >>= _) _ _ s;refine wpAny_bind (wpAny_isInstance hb.typeIs isSubtype_tuple_tuple ?_);simp only[aN,ai,if_false];refine wpAny_bind (wpAny_tupleItemsOf hoa hda ?_);refine wpAny_bind (wpAny_tupleItemsOf hob hdb ?_);refine wpAny_bind ?_;show wpAny _ _ (forIn [(Value.int x t1,Value.int u t3),(Value.int y t2,Value.int v t4)] _ _) _ _ _;rw[List.forIn_cons];refine wpAny_bind (wpAny_bind (wpAny_eqBool_int ?_));by_cases e1:x=u
 . rw[show(x == u)=true by simp[e1]]
   simp only[aN,ai,if_false];refine wpAny_pure ?_;dsimp only;rw[List.forIn_cons];refine wpAny_bind (wpAny_bind (wpAny_eqBool_int ?_));by_cases e2:y=v
   . rw[show(y == v)=true by simp[e2]]
     simp only[aN,ai,if_false];refine wpAny_pure ?_;dsimp only;rw[List.forIn_nil];refine wpAny_pure ?_;dsimp only;refine wpAny_pure ⟨_,rfl,(fun e=>nomatch e),?_⟩;have:ltS x y u v=false:=by unfold ltS;simp only[decide_eq_false_iff_not];omega
     rw[this] at h;exact h
   . rw[show(y == v)=false by simp[e2]]
     simp only[Bool.not_false,if_true];refine wpAny_bind (wpAny_rule ?_);refine wpAny_bind (show wpAny _ _ (compareOp .Lt (.int y t2) (.int v t4)) _ _ _ from wpAny_lt_int ?_);refine wpAny_pure (wpAny_pure ?_);dsimp only;refine wpAny_pure ⟨_,rfl,(fun e=>nomatch e),?_⟩;have:ltS x y u v=decide (y < v):=by unfold ltS;simp only[decide_eq_decide];omega
     rw[this] at h;exact h
 . rw[show(x == u)=false by simp[e1]]
   simp only[Bool.not_false,if_true];refine wpAny_bind (wpAny_rule ?_);refine wpAny_bind (show wpAny _ _ (compareOp .Lt (.int x t1) (.int u t3)) _ _ _ from wpAny_lt_int ?_);refine wpAny_pure (wpAny_pure ?_);dsimp only;refine wpAny_pure ⟨_,rfl,(fun e=>nomatch e),?_⟩;have:ltS x y u v=decide (x < u):=by unfold ltS;simp only[decide_eq_decide];omega
   rw[this] at h;exact h
end
noncomputable abbrev Q4:=Int×Int×Int×Int
noncomputable def l4 (q:Q4):Ln:=[[q.1,q.2.1],[q.2.2.1,q.2.2.2]]
theorem l4_inj {p q:Q4}(h:l4 p=l4 q):p=q:=by
 obtain⟨a,b,c,d⟩:=p;obtain⟨a',b',c',d'⟩:=q;simp only[l4,List.cons.injEq,and_true] at h;obtain⟨⟨h1,h2⟩,h3,h4⟩:=h;rw[h1,h2,h3,h4]
def Srt4 (xs ys:List Q4):Prop:=ys.Perm xs/\ys.Pairwise fun a b=>lt4 b a=false
theorem Srt4.uniq {xs ys zs:List Q4}(h1:Srt4 xs ys)(h2:Srt4 xs zs):ys=zs:=
 List.Perm.eq_of_pairwise (fun a b _ _ h1 h2=>(O4.total a b h2 h1)) h1.2 h2.2 (h1.1.trans h2.1.symm)
noncomputable abbrev h6 (h:Heap)(a:Addr)(vs:List Value):Heap:=((h.update a (Obj.mapSeq fun _=>#[])).push (seqObj "tuple" vs.toArray 0)).push (seqObj "list" #[] 0)
section
variable {prog:Program}{w:World}{A:Around}{E:Value->Shared->Prop}{s:Shared}
theorem list_sort_by {O:KeyOrd}{ky:Nat->O.α}{κ:SortKind}{a:Addr}{vs:List Value}{n:Nat}{P:PySem.Fin->Shared->Prop}(ho:s.heap.get? a=some (seqObj "list" vs.toArray n))(h64:vs.length < 64)(hk:2<=vs.length->∀ Q:SortKind->Shared->Prop,Q κ { s with heap:=h6 s.heap a vs}->wpAny (model prog w) A (keyKind' vs.toArray) Q E { s with heap:=h6 s.heap a vs})(hc:2<=vs.length->AskOk O ky vs.length (·={ s with heap:=h6 s.heap a vs}) (kas_ask prog w A κ vs))(h:∀ p:Array Nat,PP vs.length p->SoT O ky p vs.length->P (.done (.ret .none)) { s with heap:=sortedHeap s.heap a vs (List.toArray (p.toList.map fun i=>vs.getD i Value.none))}):wpAny (model prog w) A (Builtin.«list.sort» ⟨[.ref a],[]⟩) P E s:=by
 rw[list_sort_plain];have ha:a < s.heap.objs.size:=ah ho;refine wpAny_bind (listItems_at ho rfl ?_);refine wpAny_bind (listUpdate_at ho rfl ?_ (by rw[aw,sizeLine_eq];omega) (aJ _));obtain⟨e1,ho1⟩:∃ e1,(s.heap.update a (Obj.mapSeq fun _=>#[])).get? a=some (seqObj "list" #[] e1):=⟨_,get?_update_seq ho (fun _=>#[])⟩
 refine wpAny_bind (seqEpoch_at ho1 rfl ?_);refine wpAny_bind (wpAny_newTuple ?_ (by show vs.length<=_;rw[sizeLine_eq];omega));refine wpAny_bind (wpAny_newList ?_ (aJ _));refine wpAny_holding ?_;have ho6:(h6 s.heap a vs).get? a=some (seqObj "list" #[] e1):=by
   rw[Heap.get?_push_ne _ _ _ (by rw[size_push',Heap.size_update];exact au (a9 ha)),Heap.get?_push_ne _ _ _ (by rw[Heap.size_update];exact au ha)];exact ho1
 show wpAny (model prog w) A _ P E { s with heap:=h6 s.heap a vs};dsimp only;have hsz:vs.toArray.size=vs.length:=by simp
 by_cases h2:vs.toArray.size < 2
 . rw[if_pos h2,if_pos h2]
   refine wpAny_bind (wpAny_pure ?_);rw[StateT.run_pure];refine wpAny_bind (wpAny_pure ?_);dsimp only;refine wpAny_bind (seqEpoch_at ho6 rfl ?_);refine wpAny_bind (listUpdate_at ho6 rfl ?_ (by rw[sizeLine_eq];exact aJ _) (by rw[Array.size_map];show(pairsOf vs).size<=_;rw[pairsOf_size,sizeLine_eq];omega));simp only[bne_self_eq_false,ai,if_false];have key:=h (aR vs.length).toArray (Array.Perm.refl _) (fun i j hij hj=>by have:i=j:=(by omega);subst this;exact KeyOrd.kle_refl _);have e:List.toArray ((aR vs.length).toArray.toList.map fun i=>vs.getD i Value.none)=(vs.toArray.zip vs.toArray).map (·.2):=by
     apply aZ.mp;show(aR vs.length).map (fun i=>vs.getD i Value.none)=_;rw[Array.toList_map,Array.toList_zip,List.map_snd_zip (ag _)];refine List.ext_getElem (by simp) fun i h1 h2=>?_
     have hi:i < vs.length:=by simpa using h2
     simp[hi]
   rw[e] at key;exact wpAny_pure key
 . rw[if_neg h2,if_neg h2]
   have h2':2<=vs.length:=by omega
   refine wpAny_bind (hk h2' _ ?_);refine wpAny_bind (wpAny_mono (kat_run (vs:=vs) (ks:=vs) (Q:=fun st' s'=>s'={ s with heap:=h6 s.heap a vs}/\∃ p:Array Nat,PP vs.length p/\SoT O ky p vs.length/\arrOf st'=p.map (kas_item (vs.toArray.zip vs.toArray))/\failedOf st'=none)
     (G:=fun p s'=>s'={ s with heap:=h6 s.heap a vs}/\PP vs.length p/\SoT O ky p vs.length) rfl h2' h64 (fun p st' s' a1 a2 a3 a4=>⟨a4.1,p,a4.2.1,a4.2.2,a2,a3⟩) (so_sort (hc h2') (by omega) rfl fun q s' b1 b2 b3=>⟨b3,b1,b2⟩)) ?_ fun _ _ e=>e)
   rintro⟨⟨⟩,st'⟩ s' ⟨e,p,hp,hs,har,hf⟩
   have e:s'={ s with heap:=h6 s.heap a vs}:=e;subst e;dsimp only at har hf ⊢;refine wpAny_bind (seqEpoch_at ho6 rfl ?_);rw[kat_snds rfl har];refine wpAny_bind (listUpdate_at ho6 rfl ?_ (by rw[sizeLine_eq];exact aJ _) (by have:=hp.size;simp only[aw,ae,ba,this];rw[sizeLine_eq];omega));rw[hf];simp only[bne_self_eq_false,ai,if_false];exact wpAny_pure (h p hp hs)
theorem sorted_by {r:Addr}{Q:Value->Shared->Prop}{Good:Heap->List Value->Prop}(hcol:∀ R:List Value->Shared->Prop,(∀ h1 tk vs,Good h1 vs->R vs { s with heap:=h1,toks:=tk})->wpAny (model prog w) A.in1 (collect (.ref r)) R E s)(hs:∀ h1 tk vs,Good h1 vs->vs.length < 64/\∃ (O:KeyOrd) (ky:Nat->O.α) (κ:SortKind),(2<=vs.length->∀ Q:SortKind->Shared->Prop,Q κ { s with heap:=h6 (h1.push (seqObj "list" vs.toArray 0)) h1.objs.size vs,toks:=tk}->wpAny (model prog w) A.in1.in1 (keyKind' vs.toArray) Q E { s with heap:=h6 (h1.push (seqObj "list" vs.toArray 0)) h1.objs.size vs,toks:=tk})/\(2<=vs.length->AskOk O ky vs.length (·={ s with heap:=h6 (h1.push (seqObj "list" vs.toArray 0)) h1.objs.size vs,toks:=tk}) (kas_ask prog w A.in1.in1 κ vs))/\∀ p:Array Nat,PP vs.length p->SoT O ky p vs.length->Q (.ref h1.objs.size) { s with heap:=sortedHeap (h1.push (seqObj "list" vs.toArray 0)) h1.objs.size vs (List.toArray (p.toList.map fun i=>vs.getD i Value.none)),toks:=tk}):wpAny (model prog w) A (call (.builtin "sorted") [.ref r]) Q E s:=by
 refine Calls.call_function_entry kind_sorted plain_sorted entry_sorted (args_sorted1 _) ?_;unfold Builtin.«sorted»;refine wpAny_bind (m:=checkCount "sorted" 1 1 _) (wpAny_pure ?_);refine wpAny_bind (hcol _ fun h1 tk vs hg=>?_);obtain⟨h64,O,ky,κ,hk,hc,hq⟩:=hs h1 tk vs hg;refine wpAny_bind (wpAny_newList ?_ (by rw[sizeLine_eq];omega));have hoL:(h1.push (seqObj "list" vs.toArray 0)).get? h1.objs.size=some (seqObj "list" vs.toArray 0):=ax _ rfl;show wpAny _ _ _ _ _ { s with heap:=h1.push (seqObj "list" vs.toArray 0),toks:=tk};refine wpAny_bind (wpAny_holding (wpAny_call_entry slot_list_sort ⟨_,hoL,rfl⟩ entry_list_sort (list_sort_by (s:={ s with heap:=h1.push (seqObj "list" vs.toArray 0),toks:=tk}) hoL h64 hk hc fun p a1 a2=>⟨_,rfl,?_⟩) (args_list_sort _)));exact wpAny_pure ⟨_,rfl,hq p a1 a2⟩
theorem ln_items {h:Heap}{q:Q4}{a:Addr}(hk:IsLn prog w h (l4 q) a):∃ o n a1 a2,h.get? a=some o/\o.cls=.type "tuple"/\o.data=.seq #[.ref a1,.ref a2] n/\Sp prog w h q.1 q.2.1 a1/\Sp prog w h q.2.2.1 q.2.2.2 a2:=by
 obtain⟨o,items,n,ho,hc,hd,hi⟩:=hk;cases hl:items.toList with
 | nil=>rw[hl] at hi;cases hi
 | cons v1 l=>
   rw[hl] at hi;cases hi with
   | @cons _ a1 _ _ h1 t=>
     cases t with
     | @cons _ a2 _ _ h2 t=>
       cases t;refine⟨o,n,a1,a2,ho,hc,?_,h1,h2⟩;rw[hd]
       congr 1
       apply aZ.mp;rw[hl]
theorem ln_keyLt {p q:Q4}{a b:Addr}{Q:Bool->Shared->Prop}(hu:A.units+1 < cLine)(ha:IsLn prog w s.heap (l4 p) a)(hb:IsLn prog w s.heap (l4 q) b)(h:Q (lt4 p q) s):wpAny (model prog w) A (keyLt' (tuples' false) (.ref a) (.ref b)) Q E s:=by
 obtain⟨oa,na,a1,a2,hoa,hca,hda,s1,s2⟩:=ln_items ha;obtain⟨ob,nb,b1,b2,hob,hcb,hdb,s3,s4⟩:=ln_items hb;have hu':A.units < cLine:=by omega
 refine kat_lt hoa hda hob hdb ?_;show KatLex prog w A false _ Q [(Value.ref a1,Value.ref b1),(Value.ref a2,Value.ref b2)] 0 s;refine kat_cons (wpAny_eqBool_tuple hu' s1 s3 (kat_go (fun e=>kat_yes ?_) (fun e=>kat_no ?_)))
 . have e:[p.1,p.2.1]=[q.1,q.2.1]:=of_decide_eq_true e
   simp only[List.cons.injEq,and_true] at e;refine kat_cons (wpAny_eqBool_tuple hu' s2 s4 (kat_go (fun e2=>kat_yes (kat_nil ?_)) (fun e2=>kat_no ?_)))
   . have e2:[p.2.2.1,p.2.2.2]=[q.2.2.1,q.2.2.2]:=of_decide_eq_true e2
     simp only[List.cons.injEq,and_true] at e2;have:lt4 p q=false:=by unfold lt4;simp only[decide_eq_false_iff_not];omega
     rw[this] at h;exact h
   . have e2:¬ [p.2.2.1,p.2.2.2]=[q.2.2.1,q.2.2.2]:=of_decide_eq_false e2
     simp only[List.cons.injEq,and_true] at e2;have:lt4 p q=ltS p.2.2.1 p.2.2.2 q.2.2.1 q.2.2.2:=by unfold lt4 ltS;simp only[decide_eq_decide];omega
     rw[this] at h;exact kat_one _ _ (sp_lt hu' s2 s4 h)
 . have e:¬ [p.1,p.2.1]=[q.1,q.2.1]:=of_decide_eq_false e
   simp only[List.cons.injEq,and_true] at e;have:lt4 p q=ltS p.1 p.2.1 q.1 q.2.1:=by unfold lt4 ltS;simp only[decide_eq_decide];omega
   rw[this] at h;exact kat_one _ _ (sp_lt hu' s1 s3 h)
theorem sp_keyLt {x y u v:Int}{a b:Addr}{Q:Bool->Shared->Prop}(ha:Sp prog w s.heap x y a)(hb:Sp prog w s.heap u v b)(h:Q (ltS x y u v) s):wpAny (model prog w) A (keyLt' (tuples' true) (.ref a) (.ref b)) Q E s:=by
 obtain⟨oa,na,t1,t2,hoa,hca,hda⟩:=sp_items ha;obtain⟨ob,nb,t3,t4,hob,hcb,hdb⟩:=sp_items hb;refine kat_lt hoa hda hob hdb ?_;show KatLex prog w A true _ Q [(Value.int x t1,Value.int u t3),(Value.int y t2,Value.int v t4)] 0 s;refine kat_cons (wpAny_eqBool_int (kat_go (fun e=>kat_yes ?_) (fun e=>kat_no ?_)))
 . have e:x=u:=by simpa using e
   refine kat_cons (wpAny_eqBool_int (kat_go (fun e2=>kat_yes (kat_nil ?_)) (fun e2=>kat_no ?_)))
   . have e2:y=v:=by simpa using e2
     have:ltS x y u v=false:=by unfold ltS;simp only[decide_eq_false_iff_not];omega
     rw[this] at h;exact h
   . have e2:¬ y=v:=by simpa using e2
     have:ltS x y u v=decide (y < v):=by unfold ltS;simp only[decide_eq_decide];omega
     rw[this] at h;show wpAny _ _ (oneLt' false _ _) _ _ _;exact kat_one _ _ (wpAny_lt_int h)
 . have e:¬ x=u:=by simpa using e
   have:ltS x y u v=decide (x < u):=by unfold ltS;simp only[decide_eq_decide];omega
   rw[this] at h;show wpAny _ _ (oneLt' true _ _) _ _ _;exact oneLt_int h
end
end Sg
namespace Sg
open PySem PySem.Spec PyProof.Rows L2
open PySem.W (Looks)
noncomputable def d2 (x y:Int):Dt:=.tup [.int x,.int y]
noncomputable def d4 (q:Q4):Dt:=.tup [d2 q.1 q.2.1,d2 q.2.2.1 q.2.2.2]
section
variable {X:Cx}{pins:List (Addr×Obj)}{σ:L2.St}{H:Hp}{s:Shared}
theorem sp_of {v:V}{u:Value}{x y:Int}(I:Inv X pins σ H s)(r:Rep X.K H v (d2 x y))(rv:RelV v u):∃ a,u=.ref a/\v=.ref a/\Sp X.prog X.w s.heap x y a:=by
 cases r with
 | @tup a vs _ hq rp=>
   cases rp with
   | cons h1 t1=>cases t1 with
     | cons h2 t2=>
       cases t2;cases h1;cases h2;obtain⟨its,r2,⟨o,e,hc,n,d⟩,_⟩:=I.tuple hq;refine⟨a,rv,rfl,o,its.toArray,n,e,hc,d,?_⟩;cases r2 with
       | cons g1 w1=>cases w1 with
         | cons g2 w2=>
           cases w2;obtain⟨t1,rfl⟩:=g1;obtain⟨t2,rfl⟩:=g2;exact .cons (by simp[intKind,Value.isInt]) (.cons (by simp[intKind,Value.isInt]) .nil)
theorem ln_of {v:V}{u:Value}{q:Q4}(I:Inv X pins σ H s)(r:Rep X.K H v (d4 q))(rv:RelV v u):∃ a,u=.ref a/\v=.ref a/\IsLn X.prog X.w s.heap (l4 q) a:=by
 cases r with
 | @tup a vs _ hq rp=>
   cases rp with
   | cons h1 t1=>cases t1 with
     | cons h2 t2=>
       cases t2;obtain⟨its,r2,⟨o,e,hc,n,d⟩,_⟩:=I.tuple hq;refine⟨a,rv,rfl,o,its.toArray,n,e,hc,d,?_⟩;cases r2 with
       | cons g1 w1=>cases w1 with
         | cons g2 w2=>
           cases w2;obtain⟨a1,rfl,_,z1⟩:=sp_of I h1 g1;obtain⟨a2,rfl,_,z2⟩:=sp_of I h2 g2;exact .cons z1 (.cons z2 .nil)
end
inductive LnsAt (prog:Program)(w:World)(h:Heap):List Value->List Q4->Prop
 | nil:LnsAt prog w h [] []
 | cons {a:Addr} {q:Q4} {vs:List Value} {qs:List Q4}:IsLn prog w h (l4 q) a->LnsAt prog w h vs qs->LnsAt prog w h (.ref a::vs) (q::qs)
section
variable {prog:Program}{w:World}{h h':Heap}{vs:List Value}{qs:List Q4}
theorem LnsAt.length (x:LnsAt prog w h vs qs):vs.length=qs.length:=by
 induction x with
 | nil=>rfl
 | cons _ _ ih=>simp[ih]
theorem LnsAt.keeps (x:LnsAt prog w h vs qs)(e:∀ a o,h.get? a=some o->o.cls=.type "tuple"->h'.get? a=some o):LnsAt prog w h' vs qs:=by
 induction x with
 | nil=>exact .nil
 | cons h1 _ ih=>exact .cons (h1.keeps e) ih
theorem LnsAt.all (x:LnsAt prog w h vs qs):AllLn prog w h vs (qs.map l4):=by
 induction x with
 | nil=>intro j v hv;simp at hv
 | @cons a q vs qs h1 _ ih=>
   intro j v hv;cases j with
   | zero=>simp at hv;exact⟨a,l4 q,hv.symm,rfl,h1⟩
   | succ j=>simpa using ih j v (by simpa using hv)
theorem LnsAt.at (x:LnsAt prog w h vs qs):∀ {i:Nat},i < vs.length->∃ a,vs.getD i Value.none=.ref a/\IsLn prog w h (l4 (qs.getD i (0,0,0,0))) a:=by
 induction x with
 | nil=>intro i hi;simp at hi
 | @cons a q vs qs h1 _ ih=>
   intro i hi;cases i with
   | zero=>exact⟨a,rfl,h1⟩
   | succ i=>exact ih (i:=i) (by simpa using hi)
theorem LnsAt.firsts {M:Model}(x:LnsAt prog w h vs qs):∃ fs,W.KatTups h vs fs/\fs.length=vs.length/\∀ v∈fs,Looks M h (typeOf v) (.type "tuple"):=by
 induction x with
 | nil=>exact⟨[],.nil,rfl,fun v hv=>absurd hv (by simp)⟩
 | @cons a q vs qs h1 _ ih=>
   obtain⟨fs,k1,k2,k3⟩:=ih;obtain⟨o,n,a1,a2,ho,hc,hd,⟨o1,_,_,z1,z2,_⟩,s2⟩:=ln_items h1;refine⟨.ref a1::fs,.cons ho hc hd rfl k1,by simp[k2],fun v hv=>?_⟩;rcases aK.mp hv with rfl | hv
   . have:=(Looks.ld (M:=M) (part:=none) z1).andThen (f:=fun o=>pure o.cls) .now
     rw[z2] at this;exact this
   . exact k3 v hv
end
theorem lns_at {X:Cx}{pins:List (Addr×Obj)}{σ:L2.St}{H:Hp}{s:Shared}(I:Inv X pins σ H s):∀ {vs:List V} {qs:List Q4} {its:List Value},Reps X.K H vs (qs.map d4)->Vals vs its->LnsAt X.prog X.w s.heap its qs
 | _,[],_,r,v=>by cases r;cases v;exact .nil
 | _,q::qs,_,r,v=>by
   cases r with
   | cons h1 t1=>cases v with
     | cons g1 w1=>
       obtain⟨a,rfl,_,z⟩:=ln_of I h1 g1;exact .cons z (lns_at I t1 w1)
theorem vals_pick {vs:List V}{its:List Value}(r:Vals vs its):∀ {l:List Nat},(∀ i∈l,i < vs.length)->Vals (l.map fun i=>vs.getD i .non) (l.map fun i=>its.getD i Value.none)
 | [],_=>.nil
 | i::l,h=>by
   have hi:=h i (.head _);refine .cons ?_ (vals_pick r fun j hj=>h j (.tail _ hj));obtain⟨u,h1,h2⟩:=r.get (i:=i) (x:=vs[i]) (ak hi);show RelV (vs.getD i .non) (its.getD i Value.none);rw[af,af,h1,ak hi];exact h2
theorem reps_pick {K:W.Frag}{Hf:Hp}{vs:List V}{qs:List Q4}(r:Reps K Hf vs (qs.map d4)):∀ {l:List Nat},(∀ i∈l,i < qs.length)->Reps K Hf (l.map fun i=>vs.getD i .non) ((l.map fun i=>qs.getD i (0,0,0,0)).map d4)
 | [],_=>.nil
 | i::l,h=>by
   have hi:=h i (.head _);refine .cons ?_ (reps_pick r fun j hj=>h j (.tail _ hj));obtain⟨y,h1,h2⟩:=r.get (i:=i) (x:=d4 qs[i]) (by rw[av,ak hi];rfl);show Rep K Hf (vs.getD i .non) (d4 (qs.getD i (0,0,0,0)));rw[af,af,h1,ak hi];exact h2
theorem pp_srt {qs:List Q4}{p:Array Nat}(hp:PP qs.length p)(hs:SoT O4 (fun i=>qs.getD i (0,0,0,0)) p qs.length):Srt4 qs (p.toList.map fun i=>qs.getD i (0,0,0,0)):=by
 have hpl:p.toList.Perm (aR qs.length):=bg.mp hp;refine⟨?_,?_⟩
 . have:=hpl.map fun i=>qs.getD i (0,0,0,0)
   refine this.trans (List.Perm.of_eq ?_);refine List.ext_getElem (by simp) fun i h1 h2=>?_
   simp[h2]
 . rw[bT,List.pairwise_iff_getElem]
   intro i j hi hj hij;have hsz:=hp.size;have hi':i < p.size:=by simpa using hi
   have hj':j < p.size:=by simpa using hj
   have key:=hs i j (bH hij) (by omega);unfold KN at key;have e1:p.getD i 0=p.toList[i]:=by simp[bU,hi']
   have e2:p.getD j 0=p.toList[j]:=by simp[bU,hj']
   rw[e1,e2] at key;exact key
theorem h6_keep {h:Heap}{a b:Addr}{o:Obj}{vs:List Value}(e:h.get? b=some o)(hb:b≠a):(h6 h a vs).get? b=some o:=
 aa _ (aa _ (by rw[b0 _ _ _ _ hb];exact e))
section
variable {prog:Program}{w:World}{A:Around}{E:Value->Shared->Prop}{s:Shared}
theorem sorted_lns {r:Addr}{Q:Value->Shared->Prop}{Good:Heap->List Value->List Q4->Prop}(hu:A.units+64 < cLine)(hcol:∀ R:List Value->Shared->Prop,(∀ h1 tk vs qs,Good h1 vs qs->R vs { s with heap:=h1,toks:=tk})->wpAny (model prog w) A.in1 (collect (.ref r)) R E s)(hg:∀ h1 vs qs,Good h1 vs qs->vs.length < 64/\LnsAt prog w h1 vs qs)(h:∀ h1 tk vs qs (l:List Nat) (h':Heap) (a:Addr) (c:Nat),Good h1 vs qs->l.Perm (aR vs.length)->Srt4 qs (l.map fun i=>qs.getD i (0,0,0,0))->h1.objs.size<=a->(∀ b o,h1.get? b=some o->h'.get? b=some o)->h'.get? a=some (seqObj "list" (l.map fun i=>vs.getD i Value.none).toArray c)->Q (.ref a) { s with heap:=h',toks:=tk}):wpAny (model prog w) A (call (.builtin "sorted") [.ref r]) Q E s:=by
 refine sorted_by (Good:=fun h1 vs=>∃ qs,Good h1 vs qs) (fun R hR=>hcol R fun h1 tk vs qs hq=>hR h1 tk vs ⟨qs,hq⟩) fun h1 tk vs ⟨qs,hq⟩=>?_
 obtain⟨h64,hl⟩:=hg h1 vs qs hq;have hl6:LnsAt prog w (h6 (h1.push (seqObj "list" vs.toArray 0)) h1.objs.size vs) vs qs:=hl.keeps fun a o e _=>h6_keep (aa _ e) (au (ah e))
 have hlen:=hl.length;refine⟨h64,O4,fun i=>qs.getD i (0,0,0,0),tuples' false,fun h2 Q' hQ'=>?_,fun h2 i j C s' hi hj hs' hC=>?_,fun p hp hs=>?_⟩
 . obtain⟨fs,k1,k2,k3⟩:=hl6.firsts (M:=model prog w)
   exact W.kat_kind (s:={ s with heap:=h6 (h1.push (seqObj "list" vs.toArray 0)) h1.objs.size vs,toks:=tk}) k1 (by omega) k3 rfl hQ'
 . have hs':s'=_:=hs'
   subst hs';obtain⟨a,e1,z1⟩:=hl6.at hi;obtain⟨b,e2,z2⟩:=hl6.at hj;unfold W.kas_ask;rw[e1,e2];exact ln_keyLt (s:={ s with heap:=h6 (h1.push (seqObj "list" vs.toArray 0)) h1.objs.size vs,toks:=tk}) (show A.units+1+1+1 < cLine by omega) z1 z2 (hC _ rfl)
 . have hp':PP qs.length p:=by rw[<- hlen];exact hp
   have hs':SoT O4 (fun i=>qs.getD i (0,0,0,0)) p qs.length:=by rw[<- hlen];exact hs
   have hoL:(h1.push (seqObj "list" vs.toArray 0)).get? h1.objs.size=some (seqObj "list" vs.toArray 0):=ax _ rfl;obtain⟨c,hc⟩:=sortedHeap_at (out:=(p.toList.map fun i=>vs.getD i Value.none).toArray) hoL;refine h h1 tk vs qs p.toList _ h1.objs.size c hq (bg.mp hp) (pp_srt hp' hs') (ag _) (fun b o e1=>?_) hc;have hlt:=ah e1;rw[sortedHeap_old (au hlt) (by rw[size_push'];exact a9 hlt)];exact aa _ e1
end
theorem tk_any {prog prog':Program}{w w':World}{h:Heap}{k:List Int}{a:Addr}(x:IsTupleKey (intKind prog w) h k a):IsTupleKey (intKind prog' w') h k a:=by
 obtain⟨o,items,n,ho,hc,hd,hi⟩:=x;refine⟨o,items,n,ho,hc,hd,?_⟩;clear ho hc hd;generalize items.toList=l at hi
 induction hi with
 | nil=>exact .nil
 | cons h1 _ ih=>exact .cons h1 ih
theorem ln_any {prog prog':Program}{w w':World}{h:Heap}{k:Ln}{a:Addr}(x:IsLn prog w h k a):IsLn prog' w' h k a:=by
 obtain⟨o,items,n,ho,hc,hd,hi⟩:=x;refine⟨o,items,n,ho,hc,hd,?_⟩;clear ho hc hd;generalize items.toList=l at hi
 induction hi with
 | nil=>exact .nil
 | cons h1 _ ih=>exact .cons (tk_any h1) ih
section
variable {X:Cx}{G:Gr}{dl:List Slot}{a b e:Expr}{pos p p2 p3:Pos}{qs qs':List Q4}
def rSoL (X:Cx):List V->Hp->VK->Prop:=fun xs H Q=>∃ (r:Addr) (vs:List V) (qs qs':List Q4) (Hf:Hp),xs=[.ref r]/\SqL X.K H r vs/\Same Hf H/\Reps X.K Hf vs (qs.map d4)/\qs.length < 64/\Srt4 qs qs'/\∀ l vs',H l=none->Reps X.K Hf vs' (qs'.map d4)->Q (.ref l) (upd H l (.lst vs'))
theorem call_sortedL (hu:X.A.units+64 < cLine):CallR X (.builtin "sorted") (rSoL X):=by
 intro pins s σ H xs us Q I r h;obtain⟨p,vs,qs,qs',Hf,rfl,hq,sm,rp,h64,hs,q⟩:=h;obtain⟨u,rfl,rx⟩:=vals1 r;cases rx;obtain⟨its,rv,pl,hz⟩:=I.list hq;have hln:=lns_at I (rp.mono sm) rv;have hlen:=hln.length;have hvl:=rv.length;refine sorted_lns (Good:=fun h1 vs1 qs1=>vs1=its/\qs1=qs/\∀ b o,s.heap.get? b=some o->h1.get? b=some o) hu (fun R hR=>collect_list pl.isList (hR _ s.toks its qs ⟨rfl,rfl,fun b o e=>?_⟩) (by rw[sizeLine_eq];omega)) (fun h1 vs1 qs1 ⟨e1,e2,k⟩=>?_) fun h1 tk vs1 qs1 l h' a c ⟨e1,e2,k⟩ hl hs' ha hk hc=>?_
 . rw[b0 _ _ _ _ (au (ah e))]
   exact aa _ e
 . subst e1;subst e2
   exact⟨by omega,hln.keeps fun a o e _=>k a o e⟩
 . subst e1;subst e2
   have I1:Inv X pins σ H { s with heap:=h1,toks:=tk}:=I.kept k;have hlt:∀ i∈l,i < vs1.length:=fun i hi=>aQ.mp (hl.mem_iff.mp hi)
   have eu:=hs'.uniq hs;have hll:=hl.length_eq;rw[aX] at hll;refine⟨.ref a,_,I1.laid (t':=tk) (s:={ s with heap:=h1,toks:=tk}) hk ha (show ObjOk X.prog X.w _ h' a (.lst (l.map fun i=>vs.getD i .non)) from⟨?_,_,c,vals_pick rv fun i hi=>by have:=hlt i hi;omega,hc⟩),rfl,q a _ (I1.hok.fresh ha) ?_⟩
   . rw[ae,hll,sizeLine_eq];omega
   . rw[<- eu]
     exact reps_pick rp fun i hi=>by have:=hlt i hi;omega
theorem eo_sortedL (hm:X.mg "sorted"=none)(hu:X.A.units+64 < cLine)(ha:EE X G dl a (.lst (qs.map d4)))(h64:qs.length < 64)(hs:Srt4 qs qs')(hg:autoParam (Gl X "sorted") qc)(he:autoParam (starEach [a] X.env=[(false,eval a X.env)]) qc):EO X G dl (.Call (.Name "sorted" p) [a] [] pos) (.lst (qs'.map d4)):=
 peI (pe_callB (call_sortedL hu) hg hm boot_sorted (ea_cons ha ea_nil he) (by decide) (by decide) he rfl) fun st H Q zq=>zc zq fun Hf S k=>fun vs Hf1 H1 g1 r1=>by
   cases r1 with
   | cons r t=>cases t;cases r with
     | @lst q vs _ z r=>
       exact⟨q,vs,qs,qs',Hf1,rfl,.of (g1.sub _ _ z),g1.sub,r,h64,hs,fun l vs' hl r'=>k l Hf1 _ (g1.trans (.allocO g1.sub hl)) (g1.big.free hl) (g1.sub.free hl) ⟨_,upd_same,r'⟩⟩
noncomputable def ln2 (x y u v:Int):Q4:=if ltS u v x y then (u,v,x,y) else (x,y,u,v)
def rSo2 (X:Cx):List V->Hp->VK->Prop:=fun xs H Q=>∃ (r:Addr) (v0 v1:V) (x y u v:Int) (Hf:Hp),xs=[.ref r]/\SqL X.K H r [v0,v1]/\Same Hf H/\Rep X.K Hf v0 (d2 x y)/\Rep X.K Hf v1 (d2 u v)/\∀ l w0 w1,H l=none->Reps X.K Hf [w0,w1] [d2 (ln2 x y u v).1 (ln2 x y u v).2.1,d2 (ln2 x y u v).2.2.1 (ln2 x y u v).2.2.2]->Q (.ref l) (upd H l (.lst [w0,w1]))
theorem perm2 {l:List Nat}(h:l.Perm [0,1]):l=[0,1]\/l=[1,0]:=by
 match l,h.length_eq with
 | [i,j],_=>
   have hi:i∈[0,1]:=h.mem_iff.mp (by simp);have hj:j∈[0,1]:=h.mem_iff.mp (by simp);have hn:[i,j].Nodup:=h.nodup_iff.mpr (by decide);simp only[bt,bq] at hn;simp at hi hj;rcases hi with rfl | rfl <;> rcases hj with rfl | rfl
   . exact absurd rfl hn.1
   . exact .inl rfl
   . exact .inr rfl
   . exact absurd rfl hn.1
theorem call_sorted2:CallR X (.builtin "sorted") (rSo2 X):=by
 intro pins s σ H xs us Q I r h;obtain⟨p,v0,v1,x,y,u,v,Hf,rfl,hq,sm,r0,r1,q⟩:=h;obtain⟨u',rfl,rx⟩:=vals1 r;cases rx;obtain⟨its,rv,pl,hz⟩:=I.list hq;obtain⟨i0,i1,rfl,g0,g1⟩:∃ i0 i1,its=[i0,i1]/\RelV v0 i0/\RelV v1 i1:=by
   cases rv with
   | cons g0 t=>cases t with
     | cons g1 t=>cases t;exact⟨_,_,rfl,g0,g1⟩
 obtain⟨a0,rfl,e0,s0⟩:=sp_of I (r0.mono sm) g0;obtain⟨a1,rfl,e1,s1⟩:=sp_of I (r1.mono sm) g1;subst e0;subst e1;refine sorted_by (Good:=fun h1 vs1=>vs1=[.ref a0,.ref a1]/\∀ b o,s.heap.get? b=some o->h1.get? b=some o) (fun R hR=>collect_list pl.isList (hR _ s.toks _ ⟨rfl,fun b o e=>?_⟩) (by rw[sizeLine_eq];show 2<=16777216;decide)) fun h1 tk vs1 ⟨e1,k⟩=>?_
 . rw[b0 _ _ _ _ (au (ah e))]
   exact aa _ e
 subst e1;have keep:∀ b o,s.heap.get? b=some o->(h6 (h1.push (seqObj "list" [Value.ref a0,.ref a1].toArray 0)) h1.objs.size [.ref a0,.ref a1]).get? b=some o:=fun b o e=>h6_keep (aa _ (k b o e)) (au (ah (k b o e)))
 have z0:=tk_keeps s0 (h':=h6 (h1.push (seqObj "list" [Value.ref a0,.ref a1].toArray 0)) h1.objs.size [.ref a0,.ref a1]) fun o e _=>keep _ o e
 have z1:=tk_keeps s1 (h':=h6 (h1.push (seqObj "list" [Value.ref a0,.ref a1].toArray 0)) h1.objs.size [.ref a0,.ref a1]) fun o e _=>keep _ o e
 refine⟨by show 2 < 64;decide,O4,fun i=>if i=0 then (x,y,0,0) else (u,v,0,0),tuples' true,fun _ Q' hQ'=>?_,fun _ i j C s' hi hj hs' hC=>?_,fun pp hp hs=>?_⟩
 . obtain⟨o0,n0,t1,t2,b1,b2,b3⟩:=sp_items z0
   obtain⟨o1,n1,t3,t4,c1,c2,c3⟩:=sp_items z1;refine W.kat_kind (T:=.type "int") (s:={ s with heap:=h6 (h1.push (seqObj "list" [Value.ref a0,.ref a1].toArray 0)) h1.objs.size [.ref a0,.ref a1],toks:=tk}) (.cons b1 b2 b3 rfl (.cons c1 c2 c3 rfl .nil)) (by show 0 < 2;decide) (fun w hw=>?_) rfl hQ';simp at hw;rcases hw with rfl | rfl <;> exact .now
 . have hs':s'=_:=hs'
   subst hs';have ltk:∀ {x y u v:Int},ltS x y u v=lt4 (x,y,0,0) (u,v,0,0):=by intro x y u v;unfold ltS lt4;simp only[decide_eq_decide];omega
   have hi2:i=0\/i=1:=by simp at hi;omega
   have hj2:j=0\/j=1:=by simp at hj;omega
   have hC':=hC _ rfl;unfold W.kas_ask;rcases hi2 with rfl | rfl <;> rcases hj2 with rfl | rfl
   . exact sp_keyLt (s:={ s with heap:=h6 (h1.push (seqObj "list" [Value.ref a0,.ref a1].toArray 0)) h1.objs.size [.ref a0,.ref a1],toks:=tk}) z0 z0 (by rw[ltk];exact hC')
   . exact sp_keyLt (s:={ s with heap:=h6 (h1.push (seqObj "list" [Value.ref a0,.ref a1].toArray 0)) h1.objs.size [.ref a0,.ref a1],toks:=tk}) z0 z1 (by rw[ltk];exact hC')
   . exact sp_keyLt (s:={ s with heap:=h6 (h1.push (seqObj "list" [Value.ref a0,.ref a1].toArray 0)) h1.objs.size [.ref a0,.ref a1],toks:=tk}) z1 z0 (by rw[ltk];exact hC')
   . exact sp_keyLt (s:={ s with heap:=h6 (h1.push (seqObj "list" [Value.ref a0,.ref a1].toArray 0)) h1.objs.size [.ref a0,.ref a1],toks:=tk}) z1 z1 (by rw[ltk];exact hC')
 . have hoL:(h1.push (seqObj "list" [Value.ref a0,.ref a1].toArray 0)).get? h1.objs.size=some (seqObj "list" [Value.ref a0,.ref a1].toArray 0):=ax _ rfl
   obtain⟨c,hc⟩:=sortedHeap_at (out:=(pp.toList.map fun i=>[Value.ref a0,.ref a1].getD i Value.none).toArray) hoL;have I1:Inv X pins σ H { s with heap:=h1,toks:=tk}:=I.kept k;have hk:∀ b o,h1.get? b=some o->(sortedHeap (h1.push (seqObj "list" [Value.ref a0,.ref a1].toArray 0)) h1.objs.size [.ref a0,.ref a1] (pp.toList.map fun i=>[Value.ref a0,.ref a1].getD i Value.none).toArray).get? b=some o:=fun b o e=>by
     have hlt:=ah e;rw[sortedHeap_old (au hlt) (by rw[size_push'];exact a9 hlt)];exact aa _ e
   have key:=hs 0 1 (by omega) (by show 1 < 2;decide);unfold KN at key;have hpl:pp.toList.Perm [0,1]:=bg.mp hp;have fin:∀ w0 w1:V,Vals [w0,w1] (pp.toList.map fun i=>[Value.ref a0,.ref a1].getD i Value.none)->Reps X.K Hf [w0,w1] [d2 (ln2 x y u v).1 (ln2 x y u v).2.1,d2 (ln2 x y u v).2.2.1 (ln2 x y u v).2.2.2] ->
       EP X pins σ Q (.ref h1.objs.size) { s with heap:=sortedHeap (h1.push (seqObj "list" [Value.ref a0,.ref a1].toArray 0)) h1.objs.size [.ref a0,.ref a1] (pp.toList.map fun i=>[Value.ref a0,.ref a1].getD i Value.none).toArray,toks:=tk}:=fun w0 w1 hv hr=>
     ⟨.ref h1.objs.size,_,I1.laid (t':=tk) (s:={ s with heap:=h1,toks:=tk}) hk (ag _) (show ObjOk X.prog X.w _ _ _ (.lst [w0,w1]) from⟨by rw[sizeLine_eq];show 2<=16777216;decide,_,c,hv,hc⟩),rfl,q _ _ _ (I1.hok.fresh (ag _)) hr⟩
   have lst2:∀ i j,pp.toList=[i,j]->pp=#[i,j]:=fun i j e=>by apply aZ.mp;exact e
   rcases perm2 hpl with e | e
   . have ep:=lst2 _ _ e
     subst ep;have key:lt4 (u,v,0,0) (x,y,0,0)=false:=key;have hf:ltS u v x y=false:=by unfold ltS;unfold lt4 at key;simp only[decide_eq_false_iff_not] at key ⊢;omega
     refine fin (.ref a0) (.ref a1) (.cons (show RelV (.ref a0) (.ref a0) from rfl) (.cons (show RelV (.ref a1) (.ref a1) from rfl) .nil)) ?_;unfold ln2;rw[hf];exact .cons r0 (.cons r1 .nil)
   . have ep:=lst2 _ _ e
     subst ep;have key:lt4 (x,y,0,0) (u,v,0,0)=false:=key;refine fin (.ref a1) (.ref a0) (.cons (show RelV (.ref a1) (.ref a1) from rfl) (.cons (show RelV (.ref a0) (.ref a0) from rfl) .nil)) ?_;unfold ln2;cases hf:ltS u v x y with
     | true=>exact .cons r1 (.cons r0 .nil)
     | false=>
       unfold ltS at hf;unfold lt4 at key;simp only[decide_eq_false_iff_not] at key hf;have e1:x=u:=by omega
       have e2:y=v:=by omega
       subst e1;subst e2;exact .cons r1 (.cons r0 .nil)
theorem ee_tupS2 {x y u v:Int}(hm:X.mg "tuple"=none)(hms:X.mg "sorted"=none)(ha:EE X G dl e (.lst [d2 x y,d2 u v]))(hg:autoParam (Gl X "tuple") qc)(hgs:autoParam (Gl X "sorted") qc)(he:autoParam (starEach [e] X.env=[(false,eval e X.env)]) qc)(he2:autoParam (starEach [.Call (.Name "sorted" p) [e] [] p2] X.env=[(false,eval (.Call (.Name "sorted" p) [e] [] p2) X.env)]) qc):EE X G dl (.Call (.Name "tuple" p3) [.Call (.Name "sorted" p) [e] [] p2] [] pos) (d4 (ln2 x y u v)):=
 peI (pe_callTy call_tuple_of hg hm boot_tuple' (pa_cons (pe_callB call_sorted2 hgs hms boot_sorted (ea_cons ha ea_nil he) (by decide) (by decide) he rfl) pa_nil he2) (he:=he2)) fun st H Q zq=>zc zq fun Hf S k=>fun vs Hf1 H1 g1 r1=>by
   cases r1 with
   | cons r t=>cases t;cases r with
     | @lst q vs _ z r=>
       cases r with
       | cons h0 t=>cases t with
         | cons h1 t=>
           cases t;refine⟨q,_,_,x,y,u,v,Hf1,rfl,.of (g1.sub _ _ z),g1.sub,h0,h1,fun l w0 w1 hl hr=>?_⟩;refine⟨l,_,rfl,.inl ⟨.of upd_same,fun l2 hl2=>?_⟩⟩;have gA:Grow Hf1 H1 Hf1 (upd H1 l (.lst [w0,w1])):=.allocO g1.sub hl;have g3:Grow Hf1 (upd H1 l (.lst [w0,w1])) (upd Hf1 l2 (.tup [w0,w1])) (upd (upd H1 l (.lst [w0,w1])) l2 (.tup [w0,w1])):=.alloc gA.sub hl2;exact k _ _ _ ((g1.trans gA).trans g3) (.tup (.inl upd_same) (hr.mono g3.frz))
end
def SetV (X:Cx)(Hf:Hp)(l:Addr)(D:Q4->Prop)(φ:Heap->Prop):Prop:=∃ ps ep t,(φ=fun h=>h.get? l=some (setObjL X.prog X.w ps ep t))/\SetB X.prog X.w l ps ep t/\(ps.map (·.1)).Nodup/\ps.length * 5 < t.mask * 3/\ps.length<=63 /\
 (∀ p∈ps,∃ q,p.1=l4 q/\Rep X.K Hf (.ref p.2) (d4 q))/\∀ q,l4 q∈ps.map (·.1) ↔ D q
abbrev AlV (X:Cx)(Hf:Hp)(p:Ln×Addr):Prop:=∃ q,p.1=l4 q/\Rep X.K Hf (.ref p.2) (d4 q)
def InD (D:Q4->Prop)(d:Ln):Prop:=∃ q,d=l4 q/\D q
theorem SetV.on {X:Cx}{pins:List (Addr×Obj)}{σ:L2.St}{H Hf:Hp}{s:Shared}{l:Addr}{D:Q4->Prop}{φ:Heap->Prop}(I:Inv X pins σ H s)(sm:Same Hf H)(hl:H l=some (.ext φ))(v:SetV X Hf l D φ):SetOn X.prog X.w s.heap l 63 (AlV X Hf) (InD D):=by
 obtain⟨ps,ep,t,rfl,hb,hn,hr,hz,ha,hd⟩:=v;have hg:s.heap.get? l=some (setObjL X.prog X.w ps ep t):=(show ObjOk X.prog X.w H s.heap l (.ext _) from I.hok l _ hl).1;refine⟨ps,ep,t,⟨hg,hb.tab,hb.pla,hb.led,fun p hp=>?_,hn,hr⟩,⟨hz,ha⟩,fun d=>⟨fun hm=>?_,fun⟨q,e,z⟩=>by rw[e];exact(hd q).mpr z⟩⟩
 . obtain⟨q,e,r⟩:=ha p hp
   obtain⟨a,z1,z2,z3⟩:=ln_of I (r.mono sm) rfl;cases z1;rw[e];exact z3
 . obtain⟨p,hp,e⟩:=bh.mp hm
   obtain⟨q,e2,_⟩:=ha p hp;exact⟨q,by rw[<- e,e2],(hd q).mp (by rw[<- e2,e];exact hm)⟩
theorem SetOn.toV {X:Cx}{Hf:Hp}{h:Heap}{l:Addr}{D:Q4->Prop}{D':Ln->Prop}{n:Nat}(hn:n<=63)(hD:∀ q,D' (l4 q) ↔ D q)(v:SetOn X.prog X.w h l n (AlV X Hf) D'):∃ φ,SetV X Hf l D φ/\φ h/\∀ h1 h2:Heap,φ h1->(∀ o,h1.get? l=some o->h2.get? l=some o)->φ h2:=by
 obtain⟨ps,ep,t,S,⟨hz,ha⟩,hd⟩:=v;exact⟨_,⟨ps,ep,t,rfl,⟨S.tab,S.pla,S.led⟩,S.nod,S.rom,by omega,ha,fun q=>(hd _).trans (hD q)⟩,S.get,fun h1 h2 e k=>k _ e⟩
theorem SetOn.al {prog:Program}{w:World}{h:Heap}{l:Addr}{D:Ln->Prop}{n:Nat}{Al Al':Ln×Addr->Prop}(k:∀ p,Al p->Al' p)(v:SetOn prog w h l n Al D):SetOn prog w h l n Al' D:=
 let ⟨ps,ep,t,S,hz,hd⟩:=v;⟨ps,ep,t,S,⟨hz.1,fun p hp=>k p (hz.2 p hp)⟩,hd⟩
theorem boot_set:bootBuiltins "set"=some (.type "set"):=by decide +kernel
section
variable {X:Cx}{G:Gr}{dl:List Slot}{a b e:Expr}{pos p p2 p3 p4 p5:Pos}{qs qs' qa qb:List Q4}
def rSet (X:Cx):List V->Hp->VK->Prop:=fun xs H Q=>∃ (r:Addr) (vs:List V) (qs:List Q4) (Hf:Hp),xs=[.ref r]/\SqL X.K H r vs/\Same Hf H/\Reps X.K Hf vs (qs.map d4)/\qs.length<=63/\∀ l φ,H l=none->SetV X Hf l (·∈qs) φ->Q (.ref l) (upd H l (.ext φ))
theorem call_setV (hc:X.calm=true)(hu:X.A.units+64 < cLine):CallR X (.type "set") (rSet X):=by
 intro pins s σ H xs us Q I r h;obtain⟨r0,vs,qs,Hf,rfl,hq,sm,rp,h63,q⟩:=h;obtain⟨u,rfl,rx⟩:=vals1 r;cases rx;obtain⟨its,rv,pl,hz⟩:=I.list hq;have hln:=lns_at I (rp.mono sm) rv;have hlen:=hln.length;have hvl:=rv.length;refine call_setL (items:=its.toArray) (ls:=qs.map l4) (I.ok.hd hc) hu pl.isList hln.all (by rw[aw];omega) fun h' tk S k=>?_
 have S2:SetOn X.prog X.w h' s.heap.objs.size its.toArray.size (AlV X Hf) (·∈(qs.map l4).take its.toArray.size):=S.al fun p ⟨j,e1,e2⟩=>by
   have hj:j < its.length:=(aC.mp e1).1;have hjq:j < qs.length:=by omega
   rw[av,ak hjq] at e2;obtain⟨y,z1,z2⟩:=rp.get (i:=j) (x:=d4 qs[j]) (by rw[av,ak hjq];rfl);obtain⟨u',w1,w2⟩:=rv.get (i:=j) (x:=y) z1;have e1:its[j]?=some (.ref p.2):=e1;rw[e1] at w1;cases w1;have ey:y=.ref p.2:=by
     cases z2 with
     | tup hq _=>have:Value.ref p.2=.ref _:=w2;cases this;rfl
   exact⟨qs[j],(Option.some.inj e2).symm,by rw[<- ey];exact z2⟩
 have htk:(qs.map l4).take its.toArray.size=qs.map l4:=List.take_of_length_le (by rw[ae,aw];omega);rw[htk] at S2;obtain⟨φ,v1,v2,v3⟩:=S2.toV (D:=(·∈qs)) (by rw[aw];omega) fun q=>⟨fun hm=>by obtain⟨q',h1,h2⟩:=bh.mp hm;rw[<- l4_inj h2];exact h1,fun hm=>bZ hm⟩
 have hex:∃ o,h'.get? s.heap.objs.size=some o:=by obtain⟨ps,ep,t,S,_⟩:=S2;exact⟨_,S.get⟩
 exact⟨.ref s.heap.objs.size,_,I.laid (t':=tk) k (ag _) (show ObjOk X.prog X.w _ h' _ (.ext φ) from⟨v2,hex,v3⟩),rfl,q _ _ (I.hok.fresh (ag _)) v1⟩
def rAnd (X:Cx):R2:=fun x y H Q=>∃ (a b:Addr) (Hf:Hp) (φa φb:Heap->Prop) (D1 D2:Q4->Prop),x=.ref a/\y=.ref b/\a≠b/\H a=some (.ext φa)/\H b=some (.ext φb)/\Same Hf H/\SetV X Hf a D1 φa/\SetV X Hf b D2 φb/\∀ l φ,H l=none->SetV X Hf l (fun q=>D1 q/\D2 q) φ->Q (.ref l) (upd H l (.ext φ))
theorem op_and (hu:X.A.units+64 < cLine):OpR X (binaryOp .BitAnd) (rAnd X):=by
 intro pins s σ H x y v u Q I rx ry h;obtain⟨a,b,Hf,φa,φb,D1,D2,rfl,rfl,hab,ha,hb,sm,va,vb,q⟩:=h;cases rx;cases ry;refine set_and hu hab (ag _) (va.on I sm ha) (vb.on I sm hb) fun h' S k=>?_
 obtain⟨φ,v1,v2,v3⟩:=S.toV (D:=fun q=>D1 q/\D2 q) (ag _) fun q=>⟨fun⟨⟨q1,e1,z1⟩,⟨q2,e2,z2⟩⟩=>⟨by rw[l4_inj e1];exact z1,by rw[l4_inj e2];exact z2⟩,fun⟨z1,z2⟩=>⟨⟨q,rfl,z1⟩,⟨q,rfl,z2⟩⟩⟩
 have hex:∃ o,h'.get? s.heap.objs.size=some o:=by obtain⟨ps,ep,t,S,_⟩:=S;exact⟨_,S.get⟩
 exact⟨.ref s.heap.objs.size,_,I.laid (t':=s.toks) k (ag _) (show ObjOk X.prog X.w _ h' _ (.ext φ) from⟨v2,hex,v3⟩),rfl,q _ _ (I.hok.fresh (ag _)) v1⟩
theorem setV_list {K:W.Frag}{Hf:Hp}:∀ (ps:Pl),(∀ p∈ps,∃ q,p.1=l4 q/\Rep K Hf (.ref p.2) (d4 q))->∃ qs:List Q4,ps.map (·.1)=qs.map l4/\Reps K Hf (ps.map fun p=>V.ref p.2) (qs.map d4)
 | [],_=>⟨[],rfl,.nil⟩
 | p::ps,h=>by
   obtain⟨q,e,r⟩:=h p (.head _);obtain⟨qs,e2,r2⟩:=setV_list ps fun p hp=>h p (.tail _ hp)
   exact⟨q::qs,by rw[aL,aL,e,e2],.cons r r2⟩
theorem vals_refP:∀ ps:Pl,Vals (ps.map fun p=>V.ref p.2) (ps.map fun p=>Value.ref p.2)
 | []=>.nil
 | p::ps=>.cons rfl (vals_refP ps)
def rSoS (X:Cx):List V->Hp->VK->Prop:=fun xs H Q=>∃ (r:Addr) (Hf:Hp) (φ:Heap->Prop) (D:Q4->Prop) (qs':List Q4),xs=[.ref r]/\H r=some (.ext φ)/\Same Hf H/\SetV X Hf r D φ/\qs'.Nodup/\(qs'.Pairwise fun a b=>lt4 b a=false)/\(∀ q,q∈qs' ↔ D q)/\∀ l vs',H l=none->Reps X.K Hf vs' (qs'.map d4)->Q (.ref l) (upd H l (.lst vs'))
theorem call_sortedS' (hcm:X.calm=true)(hu:X.A.units+64 < cLine):CallR X (.builtin "sorted") (rSoS X):=by
 intro pins s σ H xs us Q I r h;obtain⟨r0,Hf,φ,D,qs',rfl,hr,sm,⟨ps,ep,t,rfl,hb,hn,hro,hz,ha,hd⟩,hnd,hpw,hmem,q⟩:=h;obtain⟨u,rfl,rx⟩:=vals1 r;cases rx;have hg:s.heap.get? r0=some (setObjL X.prog X.w ps ep t):=(show ObjOk X.prog X.w H s.heap r0 (.ext _) from I.hok r0 _ hr).1;have hwp:=wkL_perm X.w r0 ep ps;obtain⟨qs,eq,rp⟩:=setV_list (K:=X.K) (Hf:=Hf) (wkL X.w r0 ep ps) fun p hp=>ha p (hwp.mem_iff.mp hp)
 have hlw:=hwp.length_eq;have hlq:qs.length=ps.length:=by have:=congrArg List.length eq;rw[ae,ae] at this;omega
 have hnq:qs.Nodup:=by
   have:(qs.map l4).Nodup:=by rw[<- eq];exact(hwp.map _).nodup_iff.mpr hn
   rw[List.Nodup,bT] at this;exact this.imp fun hab e=>hab (by rw[e])
 have hpq:qs'.Perm qs:=(bG hnd hnq).mpr fun x=>by
   rw[hmem,<- hd,<- (hwp.map _).mem_iff,eq];exact⟨fun hm=>by obtain⟨y,h1,h2⟩:=bh.mp hm;rw[<- l4_inj h2];exact h1,fun hm=>bZ hm⟩
 have rv:=vals_refP (wkL X.w r0 ep ps);have hln:=lns_at I (rp.mono sm) rv;refine sorted_lns (Good:=fun h1 vs1 qs1=>vs1=(wkL X.w r0 ep ps).map (fun p=>Value.ref p.2)/\qs1=qs/\∀ b o,s.heap.get? b=some o->h1.get? b=some o) hu (fun R hR=>W.kdu_collect (kdl_set hb) (I.ok.hd hcm) hg (by rw[sizeLine_eq];omega) fun h' tk acc kp it=>hR h' tk acc.toList qs ⟨?_,rfl,kp⟩) (fun h1 vs1 qs1 ⟨e1,e2,k⟩=>?_) fun h1 tk vs1 qs1 l h' a c ⟨e1,e2,k⟩ hl hs' ha2 hk hc=>?_
 . obtain⟨i1,i2⟩:=it
   refine List.ext_getElem (by rw[ae,ba];omega) fun i h1 h2=>?_
   have hi:i < acc.size:=by simpa using h1
   obtain⟨p,e1,e2⟩:=i2 i acc[i] (bM hi);have hi2:i < (wkL X.w r0 ep ps).length:=by simpa using h2
   rw[ak hi2] at e1;cases e1;simpa using e2
 . subst e1;subst e2
   exact⟨by rw[ae];omega,hln.keeps fun a o e _=>k a o e⟩
 . subst e1;subst e2
   have I1:Inv X pins σ H { s with heap:=h1,toks:=tk}:=I.kept k;have hlt:∀ i∈l,i < ((wkL X.w r0 ep ps).map fun p=>Value.ref p.2).length:=fun i hi=>aQ.mp (hl.mem_iff.mp hi)
   have eu:=hs'.uniq ⟨hpq,hpw⟩;have hll:=hl.length_eq;rw[aX,ae] at hll;refine⟨.ref a,_,I1.laid (t':=tk) (s:={ s with heap:=h1,toks:=tk}) hk ha2 (show ObjOk X.prog X.w _ h' a (.lst (l.map fun i=>((wkL X.w r0 ep ps).map fun p=>V.ref p.2).getD i .non)) from⟨?_,_,c,vals_pick rv fun i hi=>by have:=hlt i hi;rw[ae] at this ⊢;exact this,hc⟩),rfl,q a _ (I1.hok.fresh ha2) ?_⟩
   . rw[ae,hll,sizeLine_eq];omega
   . rw[<- eu]
     exact reps_pick rp fun i hi=>by have:=hlt i hi;rw[ae] at this;omega
theorem eo_shared (hms:X.mg "sorted"=none)(hmt:X.mg "set"=none)(hc:X.calm=true)(hu:X.A.units+64 < cLine)(ha:EE X G dl a (.lst (qa.map d4)))(hb:EE X G dl b (.lst (qb.map d4)))(h1:qa.length<=63)(h2:qb.length<=63)(hnd:qs'.Nodup)(hpw:qs'.Pairwise fun a b=>lt4 b a=false)(hmem:∀ q,q∈qs' ↔ (q∈qa/\q∈qb))(hgs:autoParam (Gl X "sorted") qc)(hgt:autoParam (Gl X "set") qc)(he1:autoParam (starEach [a] X.env=[(false,eval a X.env)]) qc)(he2:autoParam (starEach [b] X.env=[(false,eval b X.env)]) qc)(he:autoParam (starEach [.BinOp (.Call (.Name "set" p) [a] [] p2) .BitAnd (.Call (.Name "set" p3) [b] [] p4) p5] X.env=[(false,eval (.BinOp (.Call (.Name "set" p) [a] [] p2) .BitAnd (.Call (.Name "set" p3) [b] [] p4) p5) X.env)]) qc){p6:Pos}:EO X G dl (.Call (.Name "sorted" p6) [.BinOp (.Call (.Name "set" p) [a] [] p2) .BitAnd (.Call (.Name "set" p3) [b] [] p4) p5] [] pos) (.lst (qs'.map d4)):=
 peI (pe_callB (call_sortedS' hc hu) hgs hms boot_sorted (pa_cons (pe_op (op_and hu) (pe_callTy (call_setV hc hu) hgt hmt boot_set (ea_cons ha ea_nil he1) (he:=he1)) (pe_callTy (call_setV hc hu) hgt hmt boot_set (ea_cons hb ea_nil he2) (he:=he2))) pa_nil he) (by decide) (by decide) he rfl) fun st H Q zq=>aj zq fun Hf zq=>have S:=zq.1;have k:=zq.2;⟨Hf,S,fun vs Hf1 H1 g1 r1=>by
   cases r1 with
   | cons r t=>cases t;cases r with
     | @lst q vs _ z r=>
       refine⟨q,vs,qa,Hf1,rfl,.of (g1.sub _ _ z),g1.sub,r,h1,fun l φ hl v1=>?_⟩;have gA:Grow Hf1 H1 (upd Hf1 l (.ext φ)) (upd H1 l (.ext φ)):=.alloc g1.sub hl;refine⟨_,(S.grow g1).grow gA,fun vs2 Hf2 H2 g2 r2=>?_⟩;cases r2 with
       | cons r2 t=>cases t;cases r2 with
         | @lst q2 vs2 _ z2 r2=>
           have vm:∀ {Hx Hy:Hp} {l:Addr} {D:Q4->Prop} {φ:Heap->Prop},Same Hx Hy->SetV X Hx l D φ->SetV X Hy l D φ:=fun sm ⟨ps,ep,t,e,hb,hn,hr,hz,ha,hd⟩=>⟨ps,ep,t,e,hb,hn,hr,hz,fun p hp=>let ⟨q,e,r⟩:=ha p hp;⟨q,e,r.mono sm⟩,hd⟩
           refine⟨q2,vs2,qb,Hf2,rfl,.of (g2.sub _ _ z2),g2.sub,r2,h2,fun l2 φ2 hl2 v2=>?_⟩;have hl1:H2 l=some (.ext φ):=g2.big _ _ upd_same;have gB:Grow Hf2 H2 Hf2 (upd H2 l2 (.ext φ2)):=.allocO g2.sub hl2;have hne:l≠l2:=fun e=>by subst e;rw[hl1] at hl2;cases hl2
           refine⟨l,l2,Hf2,φ,φ2,_,_,rfl,rfl,hne,by rw[upd_ne hne];exact hl1,upd_same,gB.sub,vm ((same_upd (g1.sub.free hl)).trans g2.frz) v1,v2,fun l3 φ3 hl3 v3=>?_⟩;have gC:Grow Hf2 (upd H2 l2 (.ext φ2)) Hf2 (upd (upd H2 l2 (.ext φ2)) l3 (.ext φ3)):=.allocO gB.sub hl3;refine⟨l3,Hf2,φ3,_,qs',rfl,upd_same,gC.sub,v3,hnd,hpw,hmem,fun l4 vs4 hl4 r4=>?_⟩;have g5:=(((g1.trans gA).trans g2).trans gB).trans gC;exact k l4 Hf2 _ (g5.trans (.allocO gC.sub hl4)) (g5.big.free hl4) (gC.sub.free hl4) ⟨_,upd_same,r4⟩⟩
def rInLn (X:Cx)(neg:Bool):R2:=fun x y H Q=>∃ (r:Addr) (vs:List V) (q:Q4) (qs:List Q4),y=.ref r/\Rep X.K H x (d4 q)/\SqL X.K H r vs/\Reps X.K H vs (qs.map d4)/\Q (.bl (if neg then !decide (q∈qs) else decide (q∈qs))) H
open Classical in
theorem inLn_facts {pins:List (Addr×Obj)}{σ:L2.St}{H:Hp}{s:Shared}{x:V}{v:Value}{q:Q4}{vs:List V}{its:List Value}(hu:X.A.units+64 < cLine)(I:Inv X pins σ H s)(rx:RelV x v)(rq:Rep X.K H x (d4 q))(rp:Reps X.K H vs (qs.map d4))(rv:Vals vs its):∃ f:Value->Bool,(∀ y,y∈its.toArray->SeqAt.EqAt X.A.in1 s y v (f y))/\its.toArray.any f=decide (q∈qs):=by
 obtain⟨a,rfl,rfl,za⟩:=ln_of I rq rx;have hln:=lns_at I rp rv;refine⟨fun y=>decide (∃ b,y=.ref b/\IsLn X.prog X.w s.heap (l4 q) b),?_,?_⟩
 . intro y hy
   have hy2:y∈its:=by simpa using hy
   clear hy;have:∃ b q',y=.ref b/\IsLn X.prog X.w s.heap (l4 q') b:=by
     clear rp rv
     induction hln with
     | nil=>cases hy2
     | @cons b q' _ _ h1 _ ih=>
       rcases aK.mp hy2 with rfl | hy3
       . exact⟨b,q',rfl,h1⟩
       . exact ih hy3
   obtain⟨b,q',rfl,zb⟩:=this;intro prog w E Q hQ;refine ln_eq (show X.A.units+1+1 < cLine by omega) (ln_any zb) (ln_any za) ?_;have e:decide (∃ b',Value.ref b=.ref b'/\IsLn X.prog X.w s.heap (l4 q) b')=decide (l4 q'=l4 q):=by
     rw[decide_eq_decide];exact⟨fun⟨b',e1,z⟩=>by cases e1;exact zb.inj z,fun e1=>⟨b,rfl,by rw[<- e1];exact zb⟩⟩
   have hQ:Q (decide (∃ b',Value.ref b=.ref b'/\IsLn X.prog X.w s.heap (l4 q) b')) s:=hQ;rw[e] at hQ;exact hQ
 . rw[show its.toArray.any (fun y=>decide (∃ b,y=.ref b/\IsLn X.prog X.w s.heap (l4 q) b))=its.any (fun y=>decide (∃ b,y=.ref b/\IsLn X.prog X.w s.heap (l4 q) b)) by simp]
   clear rp rv
   induction hln with
   | nil=>simp
   | @cons b q' _ _ h1 _ ih=>
     rw[List.any_cons,ih];have e:decide (∃ b',Value.ref b=.ref b'/\IsLn X.prog X.w s.heap (l4 q) b')=decide (q=q'):=by
       rw[decide_eq_decide];exact⟨fun⟨b',e1,z⟩=>by cases e1;exact l4_inj (z.inj h1),fun e1=>⟨b,rfl,by rw[e1];exact h1⟩⟩
     rw[e];simp
theorem op_inLn (hu:X.A.units+64 < cLine):OpR X (compareOp .In) (rInLn X false):=by
 intro pins s σ H x y v u Q I rx ry h;obtain⟨r,vs,q,qs,rfl,rq,hq,rp,k⟩:=h;cases ry;obtain⟨its,rv,pl,hz⟩:=I.list hq;obtain⟨f,f1,f2⟩:=inLn_facts hu I rx rq rp rv;refine SeqAt.in_listAt f pl.isList f1 ⟨.bl _,H,I,rfl,?_⟩;rw[f2];exact k
theorem op_ninLn (hu:X.A.units+64 < cLine):OpR X (compareOp .NotIn) (rInLn X true):=by
 intro pins s σ H x y v u Q I rx ry h;obtain⟨r,vs,q,qs,rfl,rq,hq,rp,k⟩:=h;cases ry;obtain⟨its,rv,pl,hz⟩:=I.list hq;obtain⟨f,f1,f2⟩:=inLn_facts hu I rx rq rp rv;refine SeqAt.notIn_listAt f pl.isList f1 ⟨.bl _,H,I,rfl,?_⟩;rw[f2];exact k
theorem r2_inLn {neg:Bool}{q:Q4}:R2D X.K (rInLn X neg) (d4 q) (.lst (qs.map d4)) (.bl (if neg then !decide (q∈qs) else decide (q∈qs))):=fun v w Hf H Q s r1 r2 kk=>by
 cases r2 with
 | @lst r vs _ hq rp=>exact⟨r,vs,q,qs,rfl,r1.mono s,.of (s _ _ hq),rp.mono s,kk _ Hf H (.refl s) (.bl _)⟩
theorem eb_inLn {q:Q4}(hu:X.A.units+64 < cLine)(ha:EE X G dl a (d4 q))(hb:EE X G dl b (.lst (qs.map d4)))(hm:autoParam (behindInMarks .In b=false) qc):EB X G dl (.Compare a [.In] [b] pos) (decide (q∈qs)):=eb_cmp (op_inLn hu) (r2_inLn (neg:=false)) hm ha hb
theorem eb_ninLn {q:Q4}(hu:X.A.units+64 < cLine)(ha:EE X G dl a (d4 q))(hb:EE X G dl b (.lst (qs.map d4)))(hm:autoParam (behindInMarks .NotIn b=false) qc):EB X G dl (.Compare a [.NotIn] [b] pos) (!decide (q∈qs)):=eb_cmp (op_ninLn hu) (r2_inLn (neg:=true)) hm ha hb
def rLtS (X:Cx):R2:=fun a b H Q=>∃ x y u v,Rep X.K H a (d2 x y)/\Rep X.K H b (d2 u v)/\Q (.bl (ltS x y u v)) H
theorem op_ltS (hu:X.A.units+64 < cLine):OpR X (compareOp .Lt) (rLtS X):=by
 intro pins s σ H x y v u Q I rx ry h;obtain⟨x1,y1,u1,v1,r1,r2,q⟩:=h;obtain⟨a,rfl,_,za⟩:=sp_of I r1 rx;obtain⟨b,rfl,_,zb⟩:=sp_of I r2 ry;exact sp_lt (by omega) za zb ⟨.bl _,H,I,rfl,q⟩
theorem eb_ltS {x y u v:Int}(hu:X.A.units+64 < cLine)(ha:EE X G dl a (d2 x y))(hb:EE X G dl b (d2 u v))(hm:autoParam (behindInMarks .Lt b=false) qc):EB X G dl (.Compare a [.Lt] [b] pos) (ltS x y u v):=
 eb_cmp (op_ltS hu) (fun v' w Hf H Q s r1 r2 kk=>⟨x,y,u,v,r1.mono s,r2.mono s,kk _ Hf H (.refl s) (.bl _)⟩) hm ha hb
end
end Sg
namespace Pf
open PySem PySem.Spec PyProof.Rows L2 Sg
structure FnM (K:W.Frag)(x q:Str)(st:Stmt)(ps:List Str)(f:Addr)(d:FuncData):Prop where
 F:Fun K x q st f d
 b:Binds K d ps []
structure FnI (K:W.Frag)(x q:Str)(st:Stmt)(ps:List Str)(f:Addr)(d:FuncData):Prop where
 F:FunG K x q st f d
 b:Binds K d ps []
structure FnY (K:W.Frag)(x:Str)(st:Stmt)(ps:List Str)(f:Addr)(d:FuncData):Prop where
 F:Fun K x x st f d
 b:Binds K d ps []
 a:W.nsIn K mainGlobals x=some (some (.ref f))
structure ClX (K:W.Frag)(x:Str)(C:Addr):Prop where
 a:W.nsIn K mainGlobals x=some (some (.ref C))
 cl:Cls K C
 kc:W.keepIn K (.ref C)=true
abbrev BnOk (x q:Str)(st:Stmt)(ps:List Str):Prop:=∀ (kV doc pm:Value) (an:Option Addr) (cdv ct:Value) (us:List Value),us.length=ps.length->bindArgs (W.fnOf x q (defArgs st) (defBody st) (defScope st) .none kV doc pm an cdv ct) ⟨us,[]⟩=pure (ps.zip us)
section
variable {K:W.Frag}{x q:Str}{st:Stmt}{ps:List Str}{f:Addr}{oc:Value}{od an:Option Addr}{osl:Array (Option Value)}{kV doc pm cdv ct:Value}
theorem fnm_mk (l:K.lookup f=some ⟨oc,od,.func (W.fnOf x q (defArgs st) (defBody st) (defScope st) .none kV doc pm an cdv ct),osl⟩)(c:W.codeIn K cdv q=true)(k:W.keepIn K (.ref f)=true)(b:BnOk x q st ps):FnM K x q st ps f (W.fnOf x q (defArgs st) (defBody st) (defScope st) .none kV doc pm an cdv ct):=⟨fun_mk l c k,(fun_mk l c k).binds b⟩
theorem fni_mk (l:K.lookup f=some ⟨oc,od,.func (W.fnOf x q (defArgs st) (defBody st) (defScope st) .none kV doc pm an cdv ct),osl⟩)(c:W.codeIn K cdv q=true)(k:W.keepIn K (.ref f)=true)(b:BnOk x q st ps):FnI K x q st ps f (W.fnOf x q (defArgs st) (defBody st) (defScope st) .none kV doc pm an cdv ct):=⟨funG_mk l c,(fun_mk l c k).binds b⟩
theorem fny_mk (a:W.nsIn K mainGlobals q=some (some (.ref f)))(l:K.lookup f=some ⟨oc,od,.func (W.fnOf q q (defArgs st) (defBody st) (defScope st) .none kV doc pm an cdv ct),osl⟩)(c:W.codeIn K cdv q=true)(k:W.keepIn K (.ref f)=true)(b:BnOk q q st ps):FnY K q st ps f (W.fnOf q q (defArgs st) (defBody st) (defScope st) .none kV doc pm an cdv ct):=⟨fun_mk l c k,(fun_mk l c k).binds b,a⟩
theorem clx_mk {C:Addr}(a:W.nsIn K mainGlobals x=some (some (.ref C)))(p:W.plainGet K C Str.empty=true)(h:W.hasDictIn K C=true)(o:W.plainOver K C=true)(s:W.findIn K (.ref C) "__setattr__"=some (some (.builtin "object.__setattr__")))(k:W.keepIn K (.ref C)=true):ClX K x C:=⟨a,⟨p,h,o,s⟩,k⟩
end
theorem scm {N P:List Str}{sc:Scope}(h:(sc.kind == .function && !sc.isCoroutine && !sc.isGenerator && decide N.Nodup && decide (N.take P.length=P) && P.all (fun x=>decide (sc.names.lookup x=some .local\/sc.names.lookup x=some .cell)) && sc.names.all fun y=>decide (y.2≠.free))=true):FnScope N P sc:=by
 simp only[bK,List.all_eq_true,decide_eq_true_eq,Bool.not_eq_true',beq_iff_eq] at h;exact⟨h.1.1.1.1.1.1,h.1.1.1.1.1.2,h.1.1.1.1.2,h.1.1.1.2,h.1.1.2,h.1.2,h.2⟩
noncomputable def top (i:Nat):Stmt:=PySem.Challenge.pw_strokegrow_k84_shared_lines.main.body.getD i (.Pass ⟨0,0,0,0⟩)
noncomputable abbrev s_added:Stmt:=top 2
noncomputable abbrev s_Pen_way_of:Stmt:=inClass (top 3) 3
noncomputable abbrev s_Pen_turned:Stmt:=inClass (top 3) 4
noncomputable abbrev s_Pen_step:Stmt:=inClass (top 3) 5
noncomputable abbrev s_Quarter_ways:Stmt:=inClass (top 4) 0
noncomputable abbrev s_Quarter_turned_left:Stmt:=inClass (top 4) 1
noncomputable abbrev s_Sixth_ways:Stmt:=inClass (top 5) 0
noncomputable abbrev s_Sixth_turned_left:Stmt:=inClass (top 5) 1
noncomputable abbrev s_line_of:Stmt:=top 7
noncomputable abbrev s_lines_of:Stmt:=top 8
noncomputable abbrev s_shared:Stmt:=top 9
noncomputable abbrev s_cell_at:Stmt:=top 11
noncomputable abbrev s_cells:Stmt:=top 12
noncomputable abbrev s_whole:Stmt:=top 13
noncomputable abbrev s_turned:Stmt:=top 14
noncomputable abbrev s_step:Stmt:=top 15
noncomputable abbrev s_stroke:Stmt:=top 17
noncomputable abbrev s_line:Stmt:=top 18
noncomputable abbrev s_lines:Stmt:=top 19
noncomputable abbrev s_is_spot:Stmt:=top 20
noncomputable abbrev s_same:Stmt:=top 21
noncomputable abbrev s_law:Stmt:=top 22
noncomputable abbrev n_added:List Str:=["one","other"]
theorem sc_added:FnScope n_added ["one","other"] (defScope s_added):=scm (by decide +kernel)
noncomputable abbrev n_Pen_way_of:List Str:=["self","number"]
theorem sc_Pen_way_of:FnScope n_Pen_way_of ["self","number"] (defScope s_Pen_way_of):=scm (by decide +kernel)
noncomputable abbrev n_Pen_turned:List Str:=["self","spot","by","turns"]
theorem sc_Pen_turned:FnScope n_Pen_turned ["self","spot","by"] (defScope s_Pen_turned):=scm (by decide +kernel)
noncomputable abbrev n_Pen_step:List Str:=["self","way"]
theorem sc_Pen_step:FnScope n_Pen_step ["self","way"] (defScope s_Pen_step):=scm (by decide +kernel)
noncomputable abbrev n_Quarter_ways:List Str:=["self"]
theorem sc_Quarter_ways:FnScope n_Quarter_ways ["self"] (defScope s_Quarter_ways):=scm (by decide +kernel)
noncomputable abbrev n_Quarter_turned_left:List Str:=["self","spot"]
theorem sc_Quarter_turned_left:FnScope n_Quarter_turned_left ["self","spot"] (defScope s_Quarter_turned_left):=scm (by decide +kernel)
noncomputable abbrev n_Sixth_ways:List Str:=["self"]
theorem sc_Sixth_ways:FnScope n_Sixth_ways ["self"] (defScope s_Sixth_ways):=scm (by decide +kernel)
noncomputable abbrev n_Sixth_turned_left:List Str:=["self","spot"]
theorem sc_Sixth_turned_left:FnScope n_Sixth_turned_left ["self","spot"] (defScope s_Sixth_turned_left):=scm (by decide +kernel)
noncomputable abbrev n_line_of:List Str:=["pen","spot","way"]
theorem sc_line_of:FnScope n_line_of ["pen","spot","way"] (defScope s_line_of):=scm (by decide +kernel)
noncomputable abbrev n_lines_of:List Str:=["pen","ones"]
theorem sc_lines_of:FnScope n_lines_of ["pen","ones"] (defScope s_lines_of):=scm (by decide +kernel)
noncomputable abbrev n_shared:List Str:=["pen","ones","others"]
theorem sc_shared:FnScope n_shared ["pen","ones","others"] (defScope s_shared):=scm (by decide +kernel)
noncomputable abbrev n_cell_at:List Str:=["_law_script","_law_k","_law_cell","_law_low"]
theorem sc_cell_at:FnScope n_cell_at ["_law_script","_law_k"] (defScope s_cell_at):=scm (by decide +kernel)
noncomputable abbrev n_cells:List Str:=["_law_script","_law_first","_law_last"]
theorem sc_cells:FnScope n_cells ["_law_script","_law_first","_law_last"] (defScope s_cells):=scm (by decide +kernel)
noncomputable abbrev n_whole:List Str:=["_law_found"]
theorem sc_whole:FnScope n_whole ["_law_found"] (defScope s_whole):=scm (by decide +kernel)
noncomputable abbrev n_turned:List Str:=["_law_ways","_law_spot","_law_by","_law_x","_law_y","_law_k"]
theorem sc_turned:FnScope n_turned ["_law_ways","_law_spot","_law_by"] (defScope s_turned):=scm (by decide +kernel)
noncomputable abbrev n_step:List Str:=["_law_ways","_law_spot","_law_way","_law_by"]
theorem sc_step:FnScope n_step ["_law_ways","_law_spot","_law_way"] (defScope s_step):=scm (by decide +kernel)
noncomputable abbrev n_stroke:List Str:=["_law_ways","_law_cell","_law_kind","_law_many","_law_less","_law_more","_law_spot"]
theorem sc_stroke:FnScope n_stroke ["_law_ways","_law_cell","_law_kind"] (defScope s_stroke):=scm (by decide +kernel)
noncomputable abbrev n_line:List Str:=["_law_ways","_law_stroke_here","_law_other"]
theorem sc_line:FnScope n_line ["_law_ways","_law_stroke_here"] (defScope s_line):=scm (by decide +kernel)
noncomputable abbrev n_lines:List Str:=["_law_ways","_law_ones","_law_others","_law_there","_law_found","_law_stroke_here","_law_line_here"]
theorem sc_lines:FnScope n_lines ["_law_ways","_law_ones","_law_others"] (defScope s_lines):=scm (by decide +kernel)
noncomputable abbrev n_is_spot:List Str:=["_law_found"]
theorem sc_is_spot:FnScope n_is_spot ["_law_found"] (defScope s_is_spot):=scm (by decide +kernel)
noncomputable abbrev n_same:List Str:=["_law_found","_law_due","_law_line_here"]
theorem sc_same:FnScope n_same ["_law_found","_law_due"] (defScope s_same):=scm (by decide +kernel)
noncomputable abbrev n_law:List Str:=["_law_script","_law_ways","_law_pen","_law_figures","_law_cell","_law_handed","_law_due","_law_found","_law_own"]
theorem sc_law:FnScope n_law ["_law_script"] (defScope s_law):=scm (by decide +kernel)
set_option genInjectivity false in
set_option genSizeOf false in
structure Adr where
 (f_added f_Pen_way_of f_Pen_turned f_Pen_step f_Quarter_ways f_Quarter_turned_left f_Sixth_ways f_Sixth_turned_left f_line_of f_lines_of f_shared f_cell_at f_cells f_whole f_turned f_step f_stroke f_line f_lines f_is_spot f_same f_law:Addr)
 (d_added d_Pen_way_of d_Pen_turned d_Pen_step d_Quarter_ways d_Quarter_turned_left d_Sixth_ways d_Sixth_turned_left d_line_of d_lines_of d_shared d_cell_at d_cells d_whole d_turned d_step d_stroke d_line d_lines d_is_spot d_same d_law:FuncData)
 (C_Quarter C_Sixth:Addr)
 K:W.Frag
structure Txt (K:W.Frag)(mg:Str->Option Value)(t:Adr):Prop where
 hK:t.K=K
 g:∀ {x:Str} {v:Value},W.nsIn K mainGlobals x=some (some v)->mg x=some v
 gn:∀ {x:Str},W.nsIn K mainGlobals x=some none->mg x=none
 v_Quarter:ClX K "Quarter" t.C_Quarter
 v_Sixth:ClX K "Sixth" t.C_Sixth
 mk_Quarter:Mk0 K t.C_Quarter
 mk_Sixth:Mk0 K t.C_Sixth
 u_added:FnY K "added" s_added ["one","other"] t.f_added t.d_added
 me_Pen_way_of_Quarter:Meth K t.C_Quarter "way_of" t.f_Pen_way_of
 me_Pen_way_of_Sixth:Meth K t.C_Sixth "way_of" t.f_Pen_way_of
 u_Pen_way_of:FnM K "way_of" "Pen.way_of" s_Pen_way_of ["self","number"] t.f_Pen_way_of t.d_Pen_way_of
 me_Pen_turned_Quarter:Meth K t.C_Quarter "turned" t.f_Pen_turned
 me_Pen_turned_Sixth:Meth K t.C_Sixth "turned" t.f_Pen_turned
 u_Pen_turned:FnM K "turned" "Pen.turned" s_Pen_turned ["self","spot","by"] t.f_Pen_turned t.d_Pen_turned
 me_Pen_step_Quarter:Meth K t.C_Quarter "step" t.f_Pen_step
 me_Pen_step_Sixth:Meth K t.C_Sixth "step" t.f_Pen_step
 u_Pen_step:FnM K "step" "Pen.step" s_Pen_step ["self","way"] t.f_Pen_step t.d_Pen_step
 me_Quarter_ways_Quarter:Meth K t.C_Quarter "ways" t.f_Quarter_ways
 u_Quarter_ways:FnM K "ways" "Quarter.ways" s_Quarter_ways ["self"] t.f_Quarter_ways t.d_Quarter_ways
 me_Quarter_turned_left_Quarter:Meth K t.C_Quarter "turned_left" t.f_Quarter_turned_left
 u_Quarter_turned_left:FnM K "turned_left" "Quarter.turned_left" s_Quarter_turned_left ["self","spot"] t.f_Quarter_turned_left t.d_Quarter_turned_left
 me_Sixth_ways_Sixth:Meth K t.C_Sixth "ways" t.f_Sixth_ways
 u_Sixth_ways:FnM K "ways" "Sixth.ways" s_Sixth_ways ["self"] t.f_Sixth_ways t.d_Sixth_ways
 me_Sixth_turned_left_Sixth:Meth K t.C_Sixth "turned_left" t.f_Sixth_turned_left
 u_Sixth_turned_left:FnM K "turned_left" "Sixth.turned_left" s_Sixth_turned_left ["self","spot"] t.f_Sixth_turned_left t.d_Sixth_turned_left
 u_line_of:FnY K "line_of" s_line_of ["pen","spot","way"] t.f_line_of t.d_line_of
 u_lines_of:FnY K "lines_of" s_lines_of ["pen","ones"] t.f_lines_of t.d_lines_of
 u_shared:FnY K "shared" s_shared ["pen","ones","others"] t.f_shared t.d_shared
 u_cell_at:FnY K "_law_cell_at" s_cell_at ["_law_script","_law_k"] t.f_cell_at t.d_cell_at
 u_cells:FnY K "_law_cells" s_cells ["_law_script","_law_first","_law_last"] t.f_cells t.d_cells
 u_whole:FnY K "_law_whole" s_whole ["_law_found"] t.f_whole t.d_whole
 u_turned:FnY K "_law_turned" s_turned ["_law_ways","_law_spot","_law_by"] t.f_turned t.d_turned
 u_step:FnY K "_law_step" s_step ["_law_ways","_law_spot","_law_way"] t.f_step t.d_step
 u_stroke:FnY K "_law_stroke" s_stroke ["_law_ways","_law_cell","_law_kind"] t.f_stroke t.d_stroke
 u_line:FnY K "_law_line" s_line ["_law_ways","_law_stroke_here"] t.f_line t.d_line
 u_lines:FnY K "_law_lines" s_lines ["_law_ways","_law_ones","_law_others"] t.f_lines t.d_lines
 u_is_spot:FnY K "_law_is_spot" s_is_spot ["_law_found"] t.f_is_spot t.d_is_spot
 u_same:FnY K "_law_same" s_same ["_law_found","_law_due"] t.f_same t.d_same
 u_law:FnY K "law" s_law ["_law_script"] t.f_law t.d_law
 z_range:mg "range"=none
 z_len:mg "len"=none
 z_isinstance:mg "isinstance"=none
 z_int:mg "int"=none
 z_bool:mg "bool"=none
 z_tuple:mg "tuple"=none
 z_list:mg "list"=none
 z_min:mg "min"=none
 z_sorted:mg "sorted"=none
 z_set:mg "set"=none
theorem txt_mk {K:W.Frag}{h:Heap}{mg:Str->Option Value}(X:K.In h)(G:h.Ns mainGlobals mg){f_added f_Pen_way_of f_Pen_turned f_Pen_step f_Quarter_ways f_Quarter_turned_left f_Sixth_ways f_Sixth_turned_left f_line_of f_lines_of f_shared f_cell_at f_cells f_whole f_turned f_step f_stroke f_line f_lines f_is_spot f_same f_law C_Quarter C_Sixth:Addr}{d_added d_Pen_way_of d_Pen_turned d_Pen_step d_Quarter_ways d_Quarter_turned_left d_Sixth_ways d_Sixth_turned_left d_line_of d_lines_of d_shared d_cell_at d_cells d_whole d_turned d_step d_stroke d_line d_lines d_is_spot d_same d_law:FuncData}(v_Quarter:ClX K "Quarter" C_Quarter)(v_Sixth:ClX K "Sixth" C_Sixth)(mk_Quarter:Mk0 K C_Quarter)(mk_Sixth:Mk0 K C_Sixth)(u_added:FnY K "added" s_added ["one","other"] f_added d_added)(me_Pen_way_of_Quarter:Meth K C_Quarter "way_of" f_Pen_way_of)(me_Pen_way_of_Sixth:Meth K C_Sixth "way_of" f_Pen_way_of)(u_Pen_way_of:FnM K "way_of" "Pen.way_of" s_Pen_way_of ["self","number"] f_Pen_way_of d_Pen_way_of)(me_Pen_turned_Quarter:Meth K C_Quarter "turned" f_Pen_turned)(me_Pen_turned_Sixth:Meth K C_Sixth "turned" f_Pen_turned)(u_Pen_turned:FnM K "turned" "Pen.turned" s_Pen_turned ["self","spot","by"] f_Pen_turned d_Pen_turned)(me_Pen_step_Quarter:Meth K C_Quarter "step" f_Pen_step)(me_Pen_step_Sixth:Meth K C_Sixth "step" f_Pen_step)(u_Pen_step:FnM K "step" "Pen.step" s_Pen_step ["self","way"] f_Pen_step d_Pen_step)(me_Quarter_ways_Quarter:Meth K C_Quarter "ways" f_Quarter_ways)(u_Quarter_ways:FnM K "ways" "Quarter.ways" s_Quarter_ways ["self"] f_Quarter_ways d_Quarter_ways)(me_Quarter_turned_left_Quarter:Meth K C_Quarter "turned_left" f_Quarter_turned_left)(u_Quarter_turned_left:FnM K "turned_left" "Quarter.turned_left" s_Quarter_turned_left ["self","spot"] f_Quarter_turned_left d_Quarter_turned_left)(me_Sixth_ways_Sixth:Meth K C_Sixth "ways" f_Sixth_ways)(u_Sixth_ways:FnM K "ways" "Sixth.ways" s_Sixth_ways ["self"] f_Sixth_ways d_Sixth_ways)(me_Sixth_turned_left_Sixth:Meth K C_Sixth "turned_left" f_Sixth_turned_left)(u_Sixth_turned_left:FnM K "turned_left" "Sixth.turned_left" s_Sixth_turned_left ["self","spot"] f_Sixth_turned_left d_Sixth_turned_left)(u_line_of:FnY K "line_of" s_line_of ["pen","spot","way"] f_line_of d_line_of)(u_lines_of:FnY K "lines_of" s_lines_of ["pen","ones"] f_lines_of d_lines_of)(u_shared:FnY K "shared" s_shared ["pen","ones","others"] f_shared d_shared)(u_cell_at:FnY K "_law_cell_at" s_cell_at ["_law_script","_law_k"] f_cell_at d_cell_at)(u_cells:FnY K "_law_cells" s_cells ["_law_script","_law_first","_law_last"] f_cells d_cells)(u_whole:FnY K "_law_whole" s_whole ["_law_found"] f_whole d_whole)(u_turned:FnY K "_law_turned" s_turned ["_law_ways","_law_spot","_law_by"] f_turned d_turned)(u_step:FnY K "_law_step" s_step ["_law_ways","_law_spot","_law_way"] f_step d_step)(u_stroke:FnY K "_law_stroke" s_stroke ["_law_ways","_law_cell","_law_kind"] f_stroke d_stroke)(u_line:FnY K "_law_line" s_line ["_law_ways","_law_stroke_here"] f_line d_line)(u_lines:FnY K "_law_lines" s_lines ["_law_ways","_law_ones","_law_others"] f_lines d_lines)(u_is_spot:FnY K "_law_is_spot" s_is_spot ["_law_found"] f_is_spot d_is_spot)(u_same:FnY K "_law_same" s_same ["_law_found","_law_due"] f_same d_same)(u_law:FnY K "law" s_law ["_law_script"] f_law d_law)(z_range:W.nsIn K mainGlobals "range"=some none)(z_len:W.nsIn K mainGlobals "len"=some none)(z_isinstance:W.nsIn K mainGlobals "isinstance"=some none)(z_int:W.nsIn K mainGlobals "int"=some none)(z_bool:W.nsIn K mainGlobals "bool"=some none)(z_tuple:W.nsIn K mainGlobals "tuple"=some none)(z_list:W.nsIn K mainGlobals "list"=some none)(z_min:W.nsIn K mainGlobals "min"=some none)(z_sorted:W.nsIn K mainGlobals "sorted"=some none)(z_set:W.nsIn K mainGlobals "set"=some none):∃ t,Txt K mg t/\t.f_law=f_law:=
 ⟨⟨f_added,f_Pen_way_of,f_Pen_turned,f_Pen_step,f_Quarter_ways,f_Quarter_turned_left,f_Sixth_ways,f_Sixth_turned_left,f_line_of,f_lines_of,f_shared,f_cell_at,f_cells,f_whole,f_turned,f_step,f_stroke,f_line,f_lines,f_is_spot,f_same,f_law,d_added,d_Pen_way_of,d_Pen_turned,d_Pen_step,d_Quarter_ways,d_Quarter_turned_left,d_Sixth_ways,d_Sixth_turned_left,d_line_of,d_lines_of,d_shared,d_cell_at,d_cells,d_whole,d_turned,d_step,d_stroke,d_line,d_lines,d_is_spot,d_same,d_law,C_Quarter,C_Sixth,K⟩,⟨rfl,
   W.mg_of X G,
   W.mg_none_of X G,
   v_Quarter,
   v_Sixth,
   mk_Quarter,
   mk_Sixth,
   u_added,
   me_Pen_way_of_Quarter,
   me_Pen_way_of_Sixth,
   u_Pen_way_of,
   me_Pen_turned_Quarter,
   me_Pen_turned_Sixth,
   u_Pen_turned,
   me_Pen_step_Quarter,
   me_Pen_step_Sixth,
   u_Pen_step,
   me_Quarter_ways_Quarter,
   u_Quarter_ways,
   me_Quarter_turned_left_Quarter,
   u_Quarter_turned_left,
   me_Sixth_ways_Sixth,
   u_Sixth_ways,
   me_Sixth_turned_left_Sixth,
   u_Sixth_turned_left,
   u_line_of,
   u_lines_of,
   u_shared,
   u_cell_at,
   u_cells,
   u_whole,
   u_turned,
   u_step,
   u_stroke,
   u_line,
   u_lines,
   u_is_spot,
   u_same,
   u_law,
   W.mg_none_of X G z_range,
   W.mg_none_of X G z_len,
   W.mg_none_of X G z_isinstance,
   W.mg_none_of X G z_int,
   W.mg_none_of X G z_bool,
   W.mg_none_of X G z_tuple,
   W.mg_none_of X G z_list,
   W.mg_none_of X G z_min,
   W.mg_none_of X G z_sorted,
   W.mg_none_of X G z_set⟩,rfl⟩
theorem bl_law {K:W.Frag}{mg:Str->Option Value}{t:Adr}(T:Txt K mg t)(s:Shared)(u:Value):BindsTo s t.d_law ⟨[u],[]⟩ [("_law_script",u)]:=by
 obtain⟨oc,od,kV,doc,pm,an,cdv,ct,osl,e,lk,hcd⟩:=T.u_law.F.ex;rw[e];exact .of_eq rfl
abbrev CX:CXT:=CX0
noncomputable def MM:Int:=2305843009213693951
noncomputable def cellAt (ns:List Int)(k:Nat):Int:=ns.getD k 0 % 10 ^ 60 / MM * MM+(ns.getD k 0+7919 * ((k:Int)+1)) * 6364136223846793005 % MM
noncomputable def BB:Int:=10 ^ 60 * 10 ^ 60 * 10 ^ 60
noncomputable def number (c:Int):Int:=if c % 3=0 then c / 3 % 41 - 20 else if c % 3=1 then c * 48271 % (2 * 10 ^ 60+1) - 10 ^ 60 else c * c * 69621 % (2 * BB+1) - BB
noncomputable def wy (six:Bool):Int:=if six then 6 else 4
noncomputable def tl (six:Bool)(p:Int×Int):Int×Int:=if six then (-p.2,p.1+p.2) else (-p.2,p.1)
noncomputable def tn (six:Bool):Nat->Int×Int->Int×Int
 | 0,p=>p
 | n+1,p=>tl six (tn six n p)
noncomputable def sp (p:Int×Int):Dt:=.tup [.int p.1,.int p.2]
theorem wy_pos (six:Bool):0 < wy six:=by cases six <;> decide
noncomputable def Adr.pc (t:Adr)(six:Bool):Addr:=if six then t.C_Sixth else t.C_Quarter
abbrev Rl:=List Dt->Res->Prop
def R_ways (t:Adr)(six:Bool):Rl:=fun ds r=>ds=[.obj (t.pc six) []]/\r=.ret (.int (wy six))
def R_left (t:Adr)(six:Bool):Rl:=fun ds r=>∃ p,ds=[.obj (t.pc six) [],sp p]/\r=.ret (sp (tl six p))
def R_way_of (t:Adr)(six:Bool):Rl:=fun ds r=>∃ z,ds=[.obj (t.pc six) [],.int z]/\r=.ret (.int (z % wy six))
def R_turned (t:Adr)(six:Bool):Rl:=fun ds r=>∃ p b,ds=[.obj (t.pc six) [],sp p,.int b]/\r=.ret (sp (tn six (b % wy six).toNat p))
def R_cell_at:Rl:=fun ds r=>∃ (ns:List Int) (k:Nat),ds=[.scr ns,.int k]/\k<=100/\r=.ret (.int (cellAt ns k))
def R_whole:Rl:=fun ds r=>∃ z,ds=[.int z]/\r=.ret (.bl true)
def R_lturned:Rl:=fun ds r=>∃ six p b,ds=[.int (wy six),sp p,.int b]/\r=.ret (sp (tn six (b % wy six).toNat p))
def R_law:Rl:=fun ds r=>∃ ns:List Int,ns.length<=63/\ds=[.scr ns]/\r=.ret (.bl true)
def spLaw (K:W.Frag):Sp:=spR K 1 R_law
theorem law_sp {K:W.Frag}{H:Hp}{a:Addr}{ns:List Int}(hl:ns.length<=63)(hS:SqL K H a (ns.map V.int)):spLaw K [.ref a] H (fun v _=>v=.bl true) fun _ _ _=>False:=
 ⟨H,[.scr ns],.ret (.bl true),Same.refl H,.cons (.scr hS) .nil,rfl,⟨ns,hl,rfl,rfl⟩,fun v Hf' H' g r=>by cases r;rfl⟩
variable {P:Program}{w:World}{K:W.Frag}{mg:Str->Option Value}{base:Heap}{t:Adr}
theorem ok_ways (T:Txt K mg t)(six:Bool):MF P w K mg base CX 1 (t.pc six) "ways" 1 (R_ways t six):=by
 cases six with
 | false=>
   refine⟨T.v_Quarter.cl,_,_,_,fnR T.u_Quarter_ways.F sc_Quarter_ways rfl fun cdv A outer s H E G ds r hr hl hR=>?_,T.me_Quarter_ways_Quarter,T.u_Quarter_ways.b⟩;obtain⟨rfl,rfl⟩:=hR;exact⟨_,.rt _,es_one (es_ret ee_int)⟩
 | true=>
   refine⟨T.v_Sixth.cl,_,_,_,fnR T.u_Sixth_ways.F sc_Sixth_ways rfl fun cdv A outer s H E G ds r hr hl hR=>?_,T.me_Sixth_ways_Sixth,T.u_Sixth_ways.b⟩;obtain⟨rfl,rfl⟩:=hR;exact⟨_,.rt _,es_one (es_ret ee_int)⟩
theorem ok_left (T:Txt K mg t)(six:Bool):MF P w K mg base CX 1 (t.pc six) "turned_left" 2 (R_left t six):=by
 cases six with
 | false=>
   refine⟨T.v_Quarter.cl,_,_,_,fnR T.u_Quarter_turned_left.F sc_Quarter_turned_left rfl fun cdv A outer s H E G ds r hr hl hR=>?_,T.me_Quarter_turned_left_Quarter,T.u_Quarter_turned_left.b⟩;obtain⟨p,rfl,rfl⟩:=hR;exact⟨_,.rt _,(es_one (es_ret (ee_tup (ea_cons (ee_neg (ee_ixT (ee_var 1 rfl) ee_int rfl)) (ea_cons (ee_ixT (ee_var 1 rfl) ee_int rfl) ea_nil)) AA3)))⟩
 | true=>
   refine⟨T.v_Sixth.cl,_,_,_,fnR T.u_Sixth_turned_left.F sc_Sixth_turned_left rfl fun cdv A outer s H E G ds r hr hl hR=>?_,T.me_Sixth_turned_left_Sixth,T.u_Sixth_turned_left.b⟩;obtain⟨p,rfl,rfl⟩:=hR;exact⟨_,.rt _,(es_one (es_ret (ee_tup (ea_cons (ee_neg (ee_ixT (ee_var 1 rfl) ee_int rfl)) (ea_cons (ee_add (ee_ixT (ee_var 1 rfl) ee_int rfl) (ee_ixT (ee_var 1 rfl) ee_int rfl)) ea_nil)) AA3)))⟩
theorem me_of {six:Bool}{m:Str}{f:Addr}(hQ:Meth K t.C_Quarter m f)(hS:Meth K t.C_Sixth m f):Meth K (t.pc six) m f:=by cases six <;> assumption
theorem cl_of (T:Txt K mg t)(six:Bool):Cls K (t.pc six):=by cases six;exact T.v_Quarter.cl;exact T.v_Sixth.cl
theorem ok_way_of (T:Txt K mg t)(six:Bool):MF P w K mg base CX 2 (t.pc six) "way_of" 2 (R_way_of t six):=by
 refine⟨cl_of T six,_,_,_,fnR T.u_Pen_way_of.F sc_Pen_way_of rfl fun cdv A outer s H E G ds r hr hl hR=>?_,me_of T.me_Pen_way_of_Quarter T.me_Pen_way_of_Sixth,T.u_Pen_way_of.b⟩;obtain⟨z,rfl,rfl⟩:=hR;have h1:=ok_ways (P:=P) (w:=w) (base:=base) T six;refine⟨_,.rt _,es_one (es_ret (ee_mod (ee_var 1 rfl) (ee_mf0 (ee_var 0 rfl) h1 nox0 hr ⟨rfl,rfl⟩) (wy_pos six)))⟩
theorem ok_turned (T:Txt K mg t)(six:Bool):MF P w K mg base CX 3 (t.pc six) "turned" 3 (R_turned t six):=by
 refine⟨cl_of T six,_,_,_,fnR T.u_Pen_turned.F sc_Pen_turned rfl fun cdv A outer s H E G ds r hr hl hR=>?_,me_of T.me_Pen_turned_Quarter T.me_Pen_turned_Sixth,T.u_Pen_turned.b⟩;obtain⟨p,b,rfl,rfl⟩:=hR;have h1:=ok_way_of (P:=P) (w:=w) (base:=base) T six;have h2:=ok_left (P:=P) (w:=w) (base:=base) T six;have hb1:=Int.emod_nonneg b (Int.ne_of_gt (wy_pos six));have hb2:=Int.emod_lt_of_pos b (wy_pos six);have hb3:wy six<=6:=by cases six <;> decide
 refine⟨_,.rt _,es_cons (es_range1 3 (fun k=>[.val (.obj (t.pc six) []),.val (sp (tn six k p)),.val (.int b),.unk]) sc_Pen_turned.nd rfl PassesOwn.leaving T.z_range
   (ea_cons (ee_mf (ee_var 0 rfl) h1 nox0 hr (ea_cons (ee_var 2 rfl) ea_nil) ⟨b,rfl,rfl⟩) ea_nil) ⟨by omega,by omega⟩ (Le.of ⟨rfl,rfl,rfl,trivial⟩) (ag _) (fun k hk=>?_) (.all rfl)) (es_one (es_ret (ee_var 1 rfl)))⟩
 refine .nx (es_one (es_set 1 sc_Pen_turned.nd (ee_mf (ee_var 0 rfl) h2 nox0 hr (ea_cons (ee_var 1 rfl) ea_nil) ⟨_,rfl,rfl⟩))) (Le.of ⟨rfl,rfl,rfl,trivial⟩)
theorem getD_scr (ns:List Int)(k:Nat)(h:k < ns.length):atI ns (k:Int)=some (ns.getD k 0):=by
 refine atI_nat ?_;rw[af,ak h];rfl
theorem ok_cell_at (T:Txt K mg t):GF P w K mg base CX 1 "_law_cell_at" 2 R_cell_at:=by
 refine⟨_,_,_,fnR T.u_cell_at.F sc_cell_at rfl fun cdv A outer s H E G ds r hr hl hR=>?_,(T.g T.u_cell_at.a),T.u_cell_at.F.kp,T.u_cell_at.b⟩;obtain⟨ns,k,rfl,hk,rfl⟩:=hR;refine⟨_,.rt _,es_cons (es_set 2 sc_cell_at.nd ee_int) (es_cons (dl1:=[.val (.scr ns),.val (.int k),.val (.int (ns.getD k 0)),.unk]) (es_if (eb_lt (ee_var 1 rfl) (ee_lenC T.z_len (ee_var 0 rfl))) (fun h=>?_) (fun h=>?_))
   (es_cons (es_set 3 sc_cell_at.nd (ee_mod (ee_mul (ee_add (ee_var 2 rfl) (ee_mul ee_int (ee_add (ee_var 1 rfl) ee_int) (CMul.ok (bF ⟨by decide,by decide⟩)))) ee_int (CMul.ok (bp ⟨by decide,by decide⟩))) ee_int (by decide)))
 (es_one (es_ret (ee_add (ee_mul (ee_fdiv (ee_mod (ee_var 2 rfl) (ee_pow ee_int ee_int ⟨by decide,by decide,by decide⟩) (by decide)) ee_int ⟨by decide,by decide +kernel⟩) ee_int (CMul.ok (bp ⟨by decide,by decide⟩))) (ee_var 3 rfl))))))⟩
 . have h:=of_decide_eq_true h
   exact es_one (es_set 2 sc_cell_at.nd (ee_ixC (ee_var 0 rfl) (ee_var 1 rfl) (getD_scr ns k (by omega))))
 . have h:=of_decide_eq_false h
   have e:ns.getD k 0=0:=by rw[af,aE (by omega)];rfl
   rw[e];exact es_nil
theorem ok_whole (T:Txt K mg t):GF P w K mg base CX 1 "_law_whole" 1 R_whole:=by
 refine⟨_,_,_,fnR T.u_whole.F sc_whole rfl fun cdv A outer s H E G ds r hr hl hR=>?_,(T.g T.u_whole.a),T.u_whole.F.kp,T.u_whole.b⟩;obtain⟨z,rfl,rfl⟩:=hR;exact⟨_,.rt _,(es_one (es_ret (ee_and (u:=true) (v:=true) (ee_isi T.z_isinstance (ee_var 0 rfl) (ee_ty T.z_int Sg.boot_int) rfl trivial rfl) fun _=>(ee_and1 (ee_not (u:=false) (ee_isi T.z_isinstance (ee_var 0 rfl) (ee_ty T.z_bool Sg.boot_bool) rfl trivial rfl))))))⟩
def R_step (t:Adr)(six:Bool):Rl:=fun ds r=>∃ w,ds=[.obj (t.pc six) [],.int w]/\r=.ret (sp (tn six (w % wy six).toNat (1,0)))
theorem ok_step (T:Txt K mg t)(six:Bool):MF P w K mg base CX 4 (t.pc six) "step" 2 (R_step t six):=by
 refine⟨cl_of T six,_,_,_,fnR T.u_Pen_step.F sc_Pen_step rfl fun cdv A outer s H E G ds r hr hl hR=>?_,me_of T.me_Pen_step_Quarter T.me_Pen_step_Sixth,T.u_Pen_step.b⟩;obtain⟨z,rfl,rfl⟩:=hR;have h1:=ok_turned (P:=P) (w:=w) (base:=base) T six;exact⟨_,.rt _,es_one (es_ret (ee_mf (ee_var 0 rfl) h1 nox0 hr (ea_cons (ee_tup (ea_cons ee_int (ea_cons ee_int ea_nil)) AA3) (ea_cons (ee_var 1 rfl) ea_nil)) ⟨(1,0),z,rfl,rfl⟩))⟩
noncomputable def ad (p q:Int×Int):Int×Int:=(p.1+q.1,p.2+q.2)
def R_added:Rl:=fun ds r=>∃ p q,ds=[sp p,sp q]/\r=.ret (sp (ad p q))
theorem ok_added (T:Txt K mg t):GF P w K mg base CX 1 "added" 2 R_added:=by
 refine⟨_,_,_,fnR T.u_added.F sc_added rfl fun cdv A outer s H E G ds r hr hl hR=>?_,(T.g T.u_added.a),T.u_added.F.kp,T.u_added.b⟩;obtain⟨p,q,rfl,rfl⟩:=hR;exact⟨_,.rt _,(es_one (es_ret (ee_tup (ea_cons (ee_add (ee_ixT (ee_var 0 rfl) ee_int rfl) (ee_ixT (ee_var 1 rfl) ee_int rfl)) (ea_cons (ee_add (ee_ixT (ee_var 0 rfl) ee_int rfl) (ee_ixT (ee_var 1 rfl) ee_int rfl)) ea_nil)) AA3)))⟩
noncomputable def cellsOf (ns:List Int)(a b:Nat):List Int:=(aR (min b ns.length - a)).map fun k=>cellAt ns (a+k)
noncomputable abbrev Sk:=(Int×Int)×Int
noncomputable def stD (s:Sk):Dt:=.tup [sp s.1,.int s.2]
def R_cells:Rl:=fun ds r=>∃ (ns:List Int) (a b:Nat),ds=[.scr ns,.int a,.int b]/\(ns.length<=63/\a<=63/\b<=63)/\r=.own (.lst ((cellsOf ns a b).map .int))
def R_is_spot1:Rl:=fun ds r=>∃ p,ds=[sp p]/\r=.ret (.bl true)
noncomputable abbrev bS_cells:Scope:=sLc ((defBody s_cells).getD 0 (.Pass ⟨0,0,0,0⟩))
theorem bk_cells:chkBlk bS_cells (defScope s_cells) n_cells ["_law_k","_law_script"] [0] "_law_k"=true:=by decide +kernel
theorem getD_mapD {f:Nat->Int}{n k:Nat}(h:k < n):(((aR n).map f).map Dt.int).getD k .non=.int (f k):=by
 rw[af,av,av,List.getElem?_range h];rfl
theorem okD_st (L:List Sk):okD (.lst (L.map stD)):=by
 have h1:plains (L.map stD)=true:=by
   induction L with
   | nil=>simp[plains]
   | cons x xs ih=>rw[aL,plains,ih];simp[Sg.plain,plains,stD,sp]
 have h2:∀ L:List Sk,PyData.canLayAll0 (pds (L.map stD))=true/\PyData.depthAll (pds (L.map stD))<=2:=by
   intro L
   induction L with
   | nil=>simp[pds,PyData.canLayAll0,PyData.depthAll]
   | cons y ys ih=>
     rw[aL];obtain⟨i1,i2⟩:=ih;refine⟨by simp[pds,pd,stD,sp,PyData.canLayAll0,PyData.canLay0,i1],?_⟩;simp[pds,pd,stD,sp,PyData.depthAll,PyData.depth];omega
 refine⟨by rw[Sg.plain];exact h1,?_⟩;unfold SeqAt.shaped;rw[pd];obtain⟨i1,i2⟩:=h2 L;simp[PyData.canLay0,PyData.depth,i1];omega
theorem ok_cells (T:Txt K mg t):GF P w K mg base CX 2 "_law_cells" 3 R_cells:=by
 refine⟨_,_,_,fnR T.u_cells.F sc_cells rfl fun cdv A outer s H E G ds r hr hl hR=>?_,(T.g T.u_cells.a),T.u_cells.F.kp,T.u_cells.b⟩;obtain⟨ns,a,b,rfl,⟨h1,h2,h3⟩,rfl⟩:=hR;have em:(if (ns.length:Int) < (b:Int) then (ns.length:Int) else (b:Int))=((min b ns.length:Nat):Int):=by split <;> omega
 refine⟨_,.ro _,es_one (es_retO (eo_lc (N:=["_law_k","_law_script"]) (ix:=[0]) rfl (blk_of bk_cells) (pi_range2 rfl T.z_range (ea_cons (ee_var 1 rfl) (ea_cons (ee_to (ee_min T.z_min rfl (ea_cons (ee_var 2 rfl) (ea_cons (ee_lenC T.z_len (ee_var 0 rfl)) ea_nil))) (congrArg Dt.int em)) ea_nil))) (src_range2 ⟨by omega,by omega,by omega,by omega⟩) (fun k hk C fp s' H' G'=>?_) ?_ ?_))⟩
 . have hk:k < min b ns.length - a:=by omega
   rw[show((cellsOf ns a b).map Dt.int).getD k .non=.int (cellAt ns (a+k)) from getD_mapD hk];exact ee_gf (ok_cell_at T) nox0 hr (ea_cons (ee_var 1 rfl) (ea_cons (ee_var 0 rfl) ea_nil)) ⟨ns,a+k,by rw[Int.natCast_add],by omega,rfl⟩
 . unfold cellsOf
   rw[ae,ae,aX];omega
 . exact bH (small1000 (by omega))
theorem ok_lturned (T:Txt K mg t):GF P w K mg base CX 1 "_law_turned" 3 R_lturned:=by
 refine⟨_,_,_,fnR T.u_turned.F sc_turned rfl fun cdv A outer s H E G ds r hr hl hR=>?_,(T.g T.u_turned.a),T.u_turned.F.kp,T.u_turned.b⟩;obtain⟨six,p,b,rfl,rfl⟩:=hR;have nd:=sc_turned.nd;have hb1:=Int.emod_nonneg b (Int.ne_of_gt (wy_pos six));have hb2:=Int.emod_lt_of_pos b (wy_pos six);have hb3:wy six<=6:=by cases six <;> decide
 refine⟨_,.rt _,es_cons (es_unp2 3 4 nd rfl (ee_var 1 rfl)) (es_cons (es_range1 5 (fun k=>[.val (.int (wy six)),.unk,.val (.int b),.val (.int (tn six k p).1),.val (.int (tn six k p).2),.unk]) nd rfl PassesOwn.leaving T.z_range
   (ea_cons (ee_mod (ee_var 2 rfl) (ee_var 0 rfl) (wy_pos six)) ea_nil) ⟨by omega,by omega⟩ (Le.of ⟨rfl,rfl,rfl,rfl,trivial⟩) (ag _) (fun k hk=>?_) (.all rfl)) (es_one (es_ret (ee_tup (ea_cons (ee_var 3 rfl) (ea_cons (ee_var 4 rfl) ea_nil)) AA3))))⟩
 cases six with
 | false=>exact .nx (es_one (es_if (eb_eqI (ee_var 0 rfl) ee_int) (fun h=>es_one (es_par 3 4 nd rfl (ea_cons (ee_neg (ee_var 4 rfl)) (ea_cons (ee_var 3 rfl) ea_nil)))) (fun h=>absurd h (by decide)))) (Le.of ⟨rfl,rfl,rfl,rfl,trivial⟩)
 | true=>exact .nx (es_one (es_if (eb_eqI (ee_var 0 rfl) ee_int) (fun h=>absurd h (by decide)) (fun h=>es_one (es_par 3 4 nd rfl (ea_cons (ee_neg (ee_var 4 rfl)) (ea_cons (ee_add (ee_var 3 rfl) (ee_var 4 rfl)) ea_nil)))))) (Le.of ⟨rfl,rfl,rfl,rfl,trivial⟩)
theorem ok_is_spot1 (T:Txt K mg t):GF P w K mg base CX 2 "_law_is_spot" 1 R_is_spot1:=by
 refine⟨_,_,_,fnR T.u_is_spot.F sc_is_spot rfl fun cdv A outer s H E G ds r hr hl hR=>?_,(T.g T.u_is_spot.a),T.u_is_spot.F.kp,T.u_is_spot.b⟩;obtain⟨p,rfl,rfl⟩:=hR;exact⟨_,.rt _,(es_one (es_ret (ee_and (u:=true) (v:=true) (ee_isi T.z_isinstance (ee_var 0 rfl) (ee_ty T.z_tuple Sg.boot_tuple) rfl trivial rfl) fun _=>(ee_and (u:=true) (v:=true) (ee_to (ee_eqI (ee_lenT T.z_len (ee_var 0 rfl)) ee_int) rfl) fun _=>(ee_and (u:=true) (v:=true) (ee_gf (ok_whole T) nox0 hr (ea_cons (ee_ixT (ee_var 0 rfl) ee_int rfl) ea_nil) ⟨_,rfl,rfl⟩) fun _=>(ee_and1 (ee_gf (ok_whole T) nox0 hr (ea_cons (ee_ixT (ee_var 0 rfl) ee_int rfl) ea_nil) ⟨_,rfl,rfl⟩)))))))⟩
def R_lstep:Rl:=fun ds r=>∃ six p z,ds=[.int (wy six),sp p,.int z]/\r=.ret (sp (ad p (tn six (z % wy six).toNat (1,0))))
theorem ok_lstep (T:Txt K mg t):GF P w K mg base CX 2 "_law_step" 3 R_lstep:=by
 refine⟨_,_,_,fnR T.u_step.F sc_step rfl fun cdv A outer s H E G ds r hr hl hR=>?_,(T.g T.u_step.a),T.u_step.F.kp,T.u_step.b⟩;obtain⟨six,p,z,rfl,rfl⟩:=hR;exact⟨_,.rt _,es_cons (es_set 3 sc_step.nd (ee_gf (ok_lturned T) nox0 hr (ea_cons (ee_var 0 rfl) (ea_cons (ee_tup (ea_cons ee_int (ea_cons ee_int ea_nil)) AA3) (ea_cons (ee_var 2 rfl) ea_nil))) ⟨six,(1,0),z,rfl,rfl⟩))
   (es_one (es_ret (ee_tup (ea_cons (ee_add (ee_ixT (ee_var 1 rfl) ee_int rfl) (ee_ixT (ee_var 3 rfl) ee_int rfl)) (ea_cons (ee_add (ee_ixT (ee_var 1 rfl) ee_int rfl) (ee_ixT (ee_var 3 rfl) ee_int rfl)) ea_nil)) AA3)))⟩
noncomputable def stv (six:Bool)(z:Int):Int×Int:=tn six (z % wy six).toNat (1,0)
noncomputable def qln (six:Bool)(s:Sk):Q4:=ln2 s.1.1 s.1.2 (ad s.1 (stv six s.2)).1 (ad s.1 (stv six s.2)).2
noncomputable def fnd (qb:List Q4):List Q4->List Q4->List Q4
 | acc,[]=>acc
 | acc,q::r=>fnd qb (if q∈qb/\q ∉ acc then acc ++ [q] else acc) r
theorem fnd_mem (qb:List Q4):∀ (l acc:List Q4) (q:Q4),q∈fnd qb acc l ↔ (q∈acc\/(q∈l/\q∈qb))
 | [],acc,q=>by simp[fnd]
 | p::r,acc,q=>by
   unfold fnd;rw[fnd_mem qb r];by_cases h:p∈qb/\p ∉ acc
   . rw[if_pos h]
     simp only[br,aK,List.not_mem_nil,or_false];constructor
     . rintro((h1 | h1) | h1)
       . exact .inl h1
       . subst h1;exact .inr ⟨.inl rfl,h.1⟩
       . exact .inr ⟨.inr h1.1,h1.2⟩
     . rintro(h1 | ⟨h1 | h1,h2⟩)
       . exact .inl (.inl h1)
       . exact .inl (.inr h1)
       . exact .inr ⟨h1,h2⟩
   . rw[if_neg h]
     simp only[aK];constructor
     . rintro(h1 | h1)
       . exact .inl h1
       . exact .inr ⟨.inr h1.1,h1.2⟩
     . rintro(h1 | ⟨h1 | h1,h2⟩)
       . exact .inl h1
       . subst h1
         by_cases h3:q∈acc
         . exact .inl h3
         . exact absurd ⟨h2,h3⟩ h
       . exact .inr ⟨h1,h2⟩
theorem fnd_nodup (qb:List Q4):∀ (l acc:List Q4),acc.Nodup->(fnd qb acc l).Nodup
 | [],acc,h=>h
 | p::r,acc,h=>by
   unfold fnd;refine fnd_nodup qb r _ ?_
   split
   . rename_i hc
     rw[List.nodup_append];exact⟨h,by simp,fun a ha b hb=>by
       rw[bq] at hb;subst hb;intro e;subst e;exact hc.2 ha⟩
   . exact h
theorem fnd_len (qb:List Q4):∀ (l acc:List Q4),(fnd qb acc l).length<=acc.length+l.length
 | [],acc=>by simp[fnd]
 | p::r,acc=>by
   unfold fnd;have h:=fnd_len qb r (if p∈qb/\p ∉ acc then acc ++ [p] else acc);have h2:(if p∈qb/\p ∉ acc then acc ++ [p] else acc).length<=acc.length+1:=by
     split
     . rw[aI];exact ag _
     . omega
   rw[bf];omega
theorem fnd_take (qb:List Q4):∀ (l acc:List Q4) (k:Nat) (h:k < l.length),fnd qb acc (l.take (k+1))=if l[k]∈qb/\l[k] ∉ fnd qb acc (l.take k) then fnd qb acc (l.take k) ++ [l[k]] else fnd qb acc (l.take k)
 | [],acc,k,h=>absurd h (by simp)
 | p::r,acc,0,h=>by simp[fnd]
 | p::r,acc,k+1,h=>by
   have:=fnd_take qb r (if p∈qb/\p ∉ acc then acc ++ [p] else acc) k (by simpa using h);simpa [fnd] using this
noncomputable def srt (l:List Q4):List Q4:=l.mergeSort fun a b=>!lt4 b a
theorem lt4_t {a b c:Q4}(h1:(!lt4 b a)=true)(h2:(!lt4 c b)=true):(!lt4 c a)=true:=by
 simp only[lt4,Bool.not_eq_true',decide_eq_false_iff_not] at *;omega
theorem lt4_c (a b:Q4):((!lt4 b a) || (!lt4 a b))=true:=by
 cases h:lt4 b a with
 | false=>rfl
 | true=>
   have:lt4 a b=false:=by
     simp only[lt4,decide_eq_true_eq,decide_eq_false_iff_not] at *;omega
   rw[this];rfl
theorem srt_ok (l:List Q4):Srt4 l (srt l):=by
 refine⟨List.mergeSort_perm l _,?_⟩;have:=List.pairwise_mergeSort (le:=fun a b=>!lt4 b a) (fun a b c h1 h2=>lt4_t h1 h2) (fun a b=>lt4_c a b) l;exact this.imp fun h=>by simpa using h
noncomputable def shr (qa qb:List Q4):List Q4:=srt (fnd qb [] qa)
theorem shr_mem (qa qb:List Q4)(q:Q4):q∈shr qa qb ↔ (q∈qa/\q∈qb):=by
 unfold shr;rw[(srt_ok _).1.mem_iff,fnd_mem];simp
theorem shr_nodup (qa qb:List Q4):(shr qa qb).Nodup:=(srt_ok _).1.nodup_iff.mpr (fnd_nodup qb qa [] List.nodup_nil)
theorem shr_pw (qa qb:List Q4):(shr qa qb).Pairwise fun a b=>lt4 b a=false:=(srt_ok _).2
theorem shr_len (qa qb:List Q4):(shr qa qb).length<=qa.length:=by
 unfold shr;rw[(srt_ok _).1.length_eq];have:=fnd_len qb qa [];simpa using this
theorem shr_comm (qa qb:List Q4):shr qa qb=shr qb qa:=by
 refine List.Perm.eq_of_pairwise (fun a b _ _ h1 h2=>O4.total a b h2 h1) (shr_pw qa qb) (shr_pw qb qa) ?_;refine(bG (shr_nodup qa qb) (shr_nodup qb qa)).mpr fun q=>?_
 rw[shr_mem,shr_mem];exact And.comm
theorem sp_d2 (p:Int×Int):sp p=d2 p.1 p.2:=rfl
theorem at_d4 {L:List Q4}{k:Nat}(h:k < L.length):(L.map d4)[k]?=some (d4 L[k]):=by
 rw[av,ak h];rfl
theorem okD_d4 (L:List Q4):okD (.lst (L.map d4)):=by
 have h1:plains (L.map d4)=true:=by
   induction L with
   | nil=>simp[plains]
   | cons x xs ih=>rw[aL,plains,ih];simp[Sg.plain,plains,d4,d2]
 have h2:∀ L:List Q4,PyData.canLayAll0 (pds (L.map d4))=true/\PyData.depthAll (pds (L.map d4))<=2:=by
   intro L
   induction L with
   | nil=>simp[pds,PyData.canLayAll0,PyData.depthAll]
   | cons y ys ih=>
     rw[aL];obtain⟨i1,i2⟩:=ih;refine⟨by simp[pds,pd,d4,d2,PyData.canLayAll0,PyData.canLay0,i1],?_⟩;simp[pds,pd,d4,d2,PyData.depthAll,PyData.depth];omega
 refine⟨by rw[Sg.plain];exact h1,?_⟩;unfold SeqAt.shaped;rw[pd];obtain⟨i1,i2⟩:=h2 L;simp[PyData.canLay0,PyData.depth,i1];omega
theorem okD_two (L M:List Sk):okD (.lst [.lst (L.map stD),.lst (M.map stD)]):=by
 obtain⟨p1,q1⟩:=okD_st L;obtain⟨p2,q2⟩:=okD_st M;have h2:∀ L:List Sk,PyData.canLayAll0 (pds (L.map stD))=true/\PyData.depthAll (pds (L.map stD))<=2:=by
   intro L
   induction L with
   | nil=>simp[pds,PyData.canLayAll0,PyData.depthAll]
   | cons y ys ih=>
     rw[aL];obtain⟨i1,i2⟩:=ih;refine⟨by simp[pds,pd,stD,sp,PyData.canLayAll0,PyData.canLay0,i1],?_⟩;simp[pds,pd,stD,sp,PyData.depthAll,PyData.depth];omega
 refine⟨by rw[Sg.plain,plains,p1,plains,p2,plains];rfl,?_⟩;unfold SeqAt.shaped;obtain⟨i1,i2⟩:=h2 L;obtain⟨j1,j2⟩:=h2 M;simp[pd,pds,PyData.canLay0,PyData.canLayAll0,PyData.depth,PyData.depthAll,i1,j1];omega
def R_line_of (t:Adr):Rl:=fun ds r=>∃ (six:Bool) (s:Sk),ds=[.obj (t.pc six) [],sp s.1,.int s.2]/\r=.ret (d4 (qln six s))
def R_lines_of (t:Adr):Rl:=fun ds r=>∃ (six:Bool) (L:List Sk),ds=[.obj (t.pc six) [],.lst (L.map stD)]/\L.length<=62/\r=.own (.lst ((L.map (qln six)).map d4))
def R_shared (t:Adr):Rl:=fun ds r=>∃ (six:Bool) (L M:List Sk),ds=[.obj (t.pc six) [],.lst (L.map stD),.lst (M.map stD)]/\(L.length<=62/\M.length<=62)/\r=.own (.lst ((shr (L.map (qln six)) (M.map (qln six))).map d4))
def R_lline:Rl:=fun ds r=>∃ (six:Bool) (s:Sk),ds=[.int (wy six),stD s]/\r=.ret (d4 (qln six s))
def R_llines:Rl:=fun ds r=>∃ (six:Bool) (L M:List Sk),ds=[.int (wy six),.lst (L.map stD),.lst (M.map stD)]/\(L.length<=62/\M.length<=62)/\r=.own (.lst ((shr (L.map (qln six)) (M.map (qln six))).map d4))
def R_same4:Rl:=fun ds r=>∃ L:List Q4,ds=[.lst (L.map d4),.lst (L.map d4)]/\L.length<=1000/\r=.ret (.bl true)
noncomputable def mny (k:Int):Int:=if k=1 then 2 else 5
noncomputable def lss (k:Int):Int:=if k=1 then 0 else 2
noncomputable def mor (k:Int):Int:=if k=2 then 10 ^ 40 else 0
noncomputable def skS (six:Bool)(c k:Int):Sk:=((c / 8 % mny k - lss k+mor k,c / 8 / mny k % mny k - lss k),c / 200 % wy six)
def R_stroke:Rl:=fun ds r=>∃ six c k,ds=[.int (wy six),.int c,.int k]/\(k=0\/k=1\/k=2)/\r=.ret (stD (skS six c k))
noncomputable abbrev bS_los:Scope:=sLc ((defBody s_lines_of).getD 0 (.Pass ⟨0,0,0,0⟩))
theorem bk_los:chkBx bS_los (defScope s_lines_of) n_lines_of ["spot","way","pen"] ["spot","way"] [0]=true:=by decide +kernel
noncomputable abbrev bS_ls:Scope:=sLc ((defBody s_lines).getD 0 (.Pass ⟨0,0,0,0⟩))
theorem bk_ls:chkBx bS_ls (defScope s_lines) n_lines ["_law_stroke_here","_law_ways"] ["_law_stroke_here"] [0]=true:=by decide +kernel
theorem ok_line_of (T:Txt K mg t):GF P w K mg base CX 5 "line_of" 3 (R_line_of t):=by
 refine⟨_,_,_,fnR T.u_line_of.F sc_line_of rfl fun cdv A outer s H E G ds r hr hl hR=>?_,(T.g T.u_line_of.a),T.u_line_of.F.kp,T.u_line_of.b⟩;obtain⟨six,⟨p,z⟩,rfl,rfl⟩:=hR;have m_step:=ok_step (P:=P) (w:=w) (base:=base) T six;exact⟨_,.rt _,es_one (es_ret (ee_tupS2 T.z_tuple T.z_sorted (ee_lst (ea_cons (ee_to (ee_var 1 rfl) (sp_d2 p)) (ea_cons (ee_to (ee_gf (ok_added T) nox0 hr (ea_cons (ee_var 1 rfl) (ea_cons (ee_mf (ee_var 0 rfl) m_step nox0 hr (ea_cons (ee_var 2 rfl) ea_nil) ⟨z,rfl,rfl⟩) ea_nil)) ⟨p,_,rfl,rfl⟩) (sp_d2 _)) ea_nil)) AA3)))⟩
theorem ok_lines_of (T:Txt K mg t):GF P w K mg base CX 6 "lines_of" 2 (R_lines_of t):=by
 refine⟨_,_,_,fnR T.u_lines_of.F sc_lines_of rfl fun cdv A outer s H E G ds r hr hl hR=>?_,(T.g T.u_lines_of.a),T.u_lines_of.F.kp,T.u_lines_of.b⟩;obtain⟨six,L,rfl,hn,rfl⟩:=hR;refine⟨_,.ro _,es_one (es_retO (eo_to (eo_lcx L stD (fun s=>d4 (qln six s)) (fun s=>[.val (sp s.1),.val (.int s.2)]) (fun _=>true) rfl (bx_of bk_los) (pi_list (ee_var 1 rfl)) (pgb_pair rfl (bx_of bk_los) rfl) srcx_list (fun a _=>tg_pair) (.nil fun _ _=>rfl)
   (fun a ha _ C fp s' H' G'=>ee_gf (ok_line_of T) nox0 hr (ea_cons (ee_var 2 rfl) (ea_cons (ee_var 0 rfl) (ea_cons (ee_var 1 rfl) ea_nil))) ⟨six,a,rfl,rfl⟩) (bH (small1000 (by omega)))) ?_))⟩
 rw[List.filter_eq_self.mpr (fun _ _=>rfl),List.map_map];rfl
theorem ok_shared (T:Txt K mg t):GF P w K mg base CX 7 "shared" 3 (R_shared t):=by
 refine⟨_,_,_,fnR T.u_shared.F sc_shared rfl fun cdv A outer s H E G ds r hr hl hR=>?_,(T.g T.u_shared.a),T.u_shared.F.kp,T.u_shared.b⟩;obtain⟨six,L,M,rfl,⟨h1,h2⟩,rfl⟩:=hR;exact⟨_,.ro _,es_one (es_retO (eo_shared (qa:=L.map (qln six)) (qb:=M.map (qln six)) T.z_sorted T.z_set rfl hr.units
   (ee_ol (eo_gf (ok_lines_of T) nox0 hr (ea_cons (ee_var 0 rfl) (ea_cons (ee_var 1 rfl) ea_nil)) ⟨six,L,rfl,h1,rfl⟩)) (ee_ol (eo_gf (ok_lines_of T) nox0 hr (ea_cons (ee_var 0 rfl) (ea_cons (ee_var 2 rfl) ea_nil)) ⟨six,M,rfl,h2,rfl⟩))
   (by rw[ae];omega) (by rw[ae];omega) (shr_nodup _ _) (shr_pw _ _) (shr_mem _ _)))⟩
theorem ok_lline (T:Txt K mg t):GF P w K mg base CX 3 "_law_line" 2 R_lline:=by
 refine⟨_,_,_,fnR T.u_line.F sc_line rfl fun cdv A outer s H E G ds r hr hl hR=>?_,(T.g T.u_line.a),T.u_line.F.kp,T.u_line.b⟩;obtain⟨six,⟨p,z⟩,rfl,rfl⟩:=hR;have nd:=sc_line.nd;have cond:∀ {X:Cx} {dl:List Slot} {a b:Expr} {pos:Pos} {v:Bool},X.A.units+64 < cLine->ltS (ad p (stv six z)).1 (ad p (stv six z)).2 p.1 p.2=v->EE X G dl a (sp (ad p (stv six z)))->EE X G dl b (sp p)->behindInMarks .Lt b=false->EB X G dl (.Compare a [.Lt] [b] pos) v:=fun hu e h1 h2 hm=>eb_to (eb_ltS hu h1 h2 hm) e
 refine⟨_,.rt _,es_cons (es_set 2 nd (ee_gf (ok_lstep T) nox0 hr (ea_cons (ee_var 0 rfl) (ea_cons (ee_ixT (ds:=[sp p,.int z]) (ee_var 1 rfl) ee_int rfl) (ea_cons (ee_ixT (ds:=[sp p,.int z]) (ee_var 1 rfl) ee_int rfl) ea_nil))) ⟨six,p,z,rfl,rfl⟩)) ?_⟩;cases hq:ltS (ad p (stv six z)).1 (ad p (stv six z)).2 p.1 p.2 with
 | true=>
   refine es_stop (es_if (u:=true) (cond hr.units hq (ee_var 2 rfl) (ee_ixT (ds:=[sp p,.int z]) (ee_var 1 rfl) ee_int rfl) rfl) (fun h=>es_one (es_ret (ee_to (ee_tup (ea_cons (ee_var 2 rfl) (ea_cons (ee_ixT (ds:=[sp p,.int z]) (ee_var 1 rfl) ee_int rfl) ea_nil)) AA3) ?_))) (fun h=>nomatch h));unfold qln ln2;rw[hq];rfl
 | false=>
   refine es_cons (es_if (u:=false) (cond hr.units hq (ee_var 2 rfl) (ee_ixT (ds:=[sp p,.int z]) (ee_var 1 rfl) ee_int rfl) rfl) (fun h=>nomatch h) (fun h=>es_nil)) (es_one (es_ret (ee_to (ee_tup (ea_cons (ee_ixT (ds:=[sp p,.int z]) (ee_var 1 rfl) ee_int rfl) (ea_cons (ee_var 2 rfl) ea_nil)) AA3) ?_)));unfold qln ln2;rw[hq];rfl
theorem ok_llines (T:Txt K mg t):GF P w K mg base CX 4 "_law_lines" 3 R_llines:=by
 refine⟨_,_,_,fnR T.u_lines.F sc_lines rfl fun cdv A outer s H E G ds r hr hl hR=>?_,(T.g T.u_lines.a),T.u_lines.F.kp,T.u_lines.b⟩;obtain⟨six,L,M,rfl,⟨h1,h2⟩,rfl⟩:=hR;have nd:=sc_lines.nd;obtain⟨qa,hqa⟩:∃ qa,qa=L.map (qln six):=⟨_,rfl⟩
 obtain⟨qb,hqb⟩:∃ qb,qb=M.map (qln six):=⟨_,rfl⟩
 have hla:qa.length=L.length:=by rw[hqa,ae]
 let S:Nat->List Slot:=fun k=>[.val (.int (wy six)),.val (.lst (L.map stD)),.val (.lst (M.map stD)),.val (.lst (qb.map d4)),.own (.lst ((fnd qb [] (qa.take k)).map d4)),.unk,.unk]
 have e3:(M.filter fun _=>true).map (fun s=>d4 (qln six s))=qb.map d4:=by rw[List.filter_eq_self.mpr (fun _ _=>rfl),hqb,List.map_map];rfl
 have hS:S (L.map stD).length=[.val (.int (wy six)),.val (.lst (L.map stD)),.val (.lst (M.map stD)),.val (.lst (qb.map d4)),.own (.lst ((fnd qb [] qa).map d4)),.unk,.unk]:=by
   show [_,_,_,_,Slot.own (.lst ((fnd qb [] (qa.take (L.map stD).length)).map d4)),_,_]=_;rw[ae,<- hla,List.take_length]
 refine⟨_,.ro _,es_cons (es_lcx 3 M stD (fun s=>d4 (qln six s)) (fun s=>[.val (stD s)]) (fun _=>true) rfl nd (bx_of bk_ls) (pi_list (ee_var 2 rfl)) (pgb_name (bx_of bk_ls) rfl) srcx_list (fun a _=>tg_name) (.nil fun _ _=>rfl)
     (fun a ha _ C fp s' H' G'=>ee_gf (ok_lline T) nox0 hr (ea_cons (ee_var 1 rfl) (ea_cons (ee_var 0 rfl) ea_nil)) ⟨six,a,rfl,rfl⟩) (bH (small1000 (by omega))))
   (es_frz 3 (w:=.lst ((M.filter fun _=>true).map fun s=>d4 (qln six s))) (es_cons (es_setO 4 nd (eo_lst ea_nil AA3)) (es_cons (es_list (m:=(L.map stD).length) 5 S nd rfl PassesOwn.leaving (ee_var 1 rfl) (Le.of ⟨rfl,rfl,rfl,congrArg (fun z=>Slot.val (.lst z)) e3.symm,rfl,trivial⟩) (ag _) (fun k z hk hz=>?l1) (.all rfl)) ?rest)))⟩
 case rest=>
   rw[hS];refine es_frz 4 (w:=.lst ((fnd qb [] qa).map d4)) (es_one (es_retO (eo_to (eo_sortedL T.z_sorted hr.units (ee_var 4 rfl) ?_ (srt_ok _)) ?_)))
   . have:=fnd_len qb qa []
     simp at this;omega
   . rw[<- hqa,<- hqb];rfl
 case l1=>
   rw[ae] at hk;rw[av,ak hk] at hz;cases hz;have hk2:k < qa.length:=by omega
   have eq1:qln six L[k]=qa[k]:=by simp[hqa]
   have ft:=fnd_take qb qa [] k hk2;let Sk1:List Slot:=[.val (.int (wy six)),.val (.lst (L.map stD)),.val (.lst (M.map stD)),.val (.lst (qb.map d4)),.own (.lst ((fnd qb [] (qa.take k)).map d4)),.val (stD L[k]),.val (d4 qa[k])]
   by_cases c:qa[k]∈qb/\qa[k] ∉ fnd qb [] (qa.take k)
   . have hf:(decide (qa[k]∈qb) && !decide (qa[k]∈fnd qb [] (qa.take k)))=true:=by rw[decide_eq_true c.1,decide_eq_false c.2];rfl
     rw[if_pos c] at ft;have hz2:((fnd qb [] (qa.take k)).map d4).length < sizeLine:=by
       have:=fnd_len qb (qa.take k) [];rw[bb] at this;rw[ae];exact small1000 (by simp at this;omega)
     refine .nx (es_cons (dl1:=Sk1) (es_set 6 nd (ee_to (ee_gf (ok_lline T) nox0 hr (ea_cons (ee_var 0 rfl) (ea_cons (ee_var 5 rfl) ea_nil)) ⟨six,L[k],rfl,rfl⟩) (by rw[eq1]))) (es_one (es_if (u:=true) (eb_to (eb_lent 4 (eb_w (ew_and (eb_inLn hr.units (ee_var 6 rfl) (ee_var 3 rfl)) fun _=>ew_and1 (eb_ninLn hr.units (ee_var 6 rfl) (ee_var 4 rfl))))) hf) (fun _=>es_one (es_append 4 (ee_var 6 rfl) hz2)) (fun h=>nomatch h)))) (Le.of ⟨rfl,rfl,rfl,rfl,?_,trivial⟩);show Slot.own (.lst ((fnd qb [] (qa.take (k+1))).map d4))=_;rw[ft,bQ];rfl
   . have hf:(decide (qa[k]∈qb) && !decide (qa[k]∈fnd qb [] (qa.take k)))=false:=by
       cases h:(decide (qa[k]∈qb) && !decide (qa[k]∈fnd qb [] (qa.take k))) with
       | false=>rfl
       | true=>simp at h;exact absurd h c
     rw[if_neg c] at ft;refine .nx (es_cons (dl1:=Sk1) (es_set 6 nd (ee_to (ee_gf (ok_lline T) nox0 hr (ea_cons (ee_var 0 rfl) (ea_cons (ee_var 5 rfl) ea_nil)) ⟨six,L[k],rfl,rfl⟩) (by rw[eq1]))) (es_one (es_if (u:=false) (eb_to (eb_lent 4 (eb_w (ew_and (eb_inLn hr.units (ee_var 6 rfl) (ee_var 3 rfl)) fun _=>ew_and1 (eb_ninLn hr.units (ee_var 6 rfl) (ee_var 4 rfl))))) hf) (fun h=>nomatch h) (fun _=>es_nil)))) (Le.of ⟨rfl,rfl,rfl,rfl,?_,trivial⟩);show Slot.own (.lst ((fnd qb [] (qa.take (k+1))).map d4))=_;rw[ft]
theorem srcx_weak {X:Cx}{G:Gr}{dl dl':List Slot}{zs:List Dt}{wi:TI}(l:Le dl' dl)(h:SrcX X G dl' zs wi):SrcX X G dl zs wi:=fun st H R zq=>aj zq fun Hf zq=>have S:=zq.1;have k:=zq.2;h st H R ⟨Hf,S.weak l,k⟩
theorem pi_listE {X:Cx}{G:Gr}{dl:List Slot}{xs:List Dt}{tg e:Expr}(h:EE X G dl e (.lst xs)):PI X tg e (iList X.K (tD X.K G dl (.lst xs))):=pi_list h
theorem ok_stroke (T:Txt K mg t):GF P w K mg base CX 1 "_law_stroke" 3 R_stroke:=by
 refine⟨_,_,_,fnR T.u_stroke.F sc_stroke rfl fun cdv A outer s H E G ds r hr hl hR=>?_,(T.g T.u_stroke.a),T.u_stroke.F.kp,T.u_stroke.b⟩;obtain⟨six,c,k,rfl,hk,rfl⟩:=hR;have nd:=sc_stroke.nd;have i1:atI [Dt.int 5,.int 2,.int 5] k=some (.int (mny k)):=by rcases hk with rfl | rfl | rfl <;> rfl
 have i2:atI [Dt.int 2,.int 0,.int 2] k=some (.int (lss k)):=by rcases hk with rfl | rfl | rfl <;> rfl
 have i3:atI [Dt.int 0,.int 0,.int (10 ^ 40)] k=some (.int (mor k)):=by rcases hk with rfl | rfl | rfl <;> rfl
 have hm:0 < mny k/\(mny k).natAbs.log2 < 9000:=by rcases hk with rfl | rfl | rfl <;> decide +kernel
 exact⟨_,.rt _,es_cons (es_set 3 nd (ee_ixL (ee_lst (ea_cons ee_int (ea_cons ee_int (ea_cons ee_int ea_nil))) AA3) (ee_var 2 rfl) i1))
   (es_cons (es_set 4 nd (ee_ixL (ee_lst (ea_cons ee_int (ea_cons ee_int (ea_cons ee_int ea_nil))) AA3) (ee_var 2 rfl) i2))
   (es_cons (es_set 5 nd (ee_ixL (ee_lst (ea_cons ee_int (ea_cons ee_int (ea_cons (ee_pow ee_int ee_int ⟨by decide,by decide,by decide⟩) ea_nil))) AA3) (ee_var 2 rfl) i3))
   (es_cons (es_set 6 nd (ee_tup (ea_cons (ee_add (ee_sub (ee_mod (ee_fdiv (ee_var 1 rfl) ee_int ⟨by decide,by decide +kernel⟩) (ee_var 3 rfl) hm.1) (ee_var 4 rfl)) (ee_var 5 rfl)) (ea_cons (ee_sub (ee_mod (ee_fdiv (ee_fdiv (ee_var 1 rfl) ee_int ⟨by decide,by decide +kernel⟩) (ee_var 3 rfl) hm) (ee_var 3 rfl) hm.1) (ee_var 4 rfl)) ea_nil)) AA3))
   (es_one (es_ret (ee_tup (ea_cons (ee_var 6 rfl) (ea_cons (ee_mod (ee_fdiv (ee_var 1 rfl) ee_int ⟨by decide,by decide +kernel⟩) (ee_var 0 rfl) (wy_pos six)) ea_nil)) AA3))))))⟩
theorem ok_same4 (T:Txt K mg t):GF P w K mg base CX 3 "_law_same" 2 R_same4:=by
 refine⟨_,_,_,fnR T.u_same.F sc_same rfl fun cdv A outer s H E G ds r hr hl hR=>?_,(T.g T.u_same.a),T.u_same.F.kp,T.u_same.b⟩;obtain⟨L,rfl,hn,rfl⟩:=hR;have nd:=sc_same.nd;have eqL:(!PyData.eqv (pd (.lst (L.map d4))) (pd (.lst (L.map d4))))=false:=by rw[eqv_refl _ (okD_d4 L).1];rfl
 let S:Nat->List Slot:=fun _=>[.val (.lst (L.map d4)),.val (.lst (L.map d4)),.unk]
 refine⟨_,.rt _,es_cons (es_if (u:=false) (eb_to (eb_w (ew_or (u:=false) (eb_not (u:=true) (eb_of (ee_isi T.z_isinstance (ee_var 0 rfl) (ee_ty T.z_list Sg.boot_list) rfl trivial rfl))) fun _=>(ew_or1 (eb_ne (u:=false) hr.units (ee_var 0 rfl) (ee_var 1 rfl) (okD_d4 L) (okD_d4 L) eqL)))) rfl) (fun h=>nomatch h) (fun h=>es_nil))
   (es_cons (es_list (o:=.nx (S (L.map d4).length)) (m:=(L.map d4).length) 2 S nd rfl PassesOwn.leaving (ee_var 0 rfl) (Le.of ⟨rfl,rfl,trivial⟩) (ag _) (fun k z hk hz=>?_) (.all rfl)) (es_one (es_ret ee_bl)))⟩
 rw[ae] at hk;rw[at_d4 hk] at hz;cases hz;obtain⟨a,b,c,d⟩:=L[k];exact .nx (es_one (es_if (u:=false) (eb_to (eb_w (ew_or (u:=false) (eb_not (u:=true) (eb_of (ee_isi T.z_isinstance (ee_var 2 rfl) (ee_ty T.z_tuple Sg.boot_tuple) rfl trivial rfl))) fun _=>(ew_or (u:=false) (eb_to (eb_neI (ee_lenT (ds:=[d2 a b,d2 c d]) T.z_len (ee_var 2 rfl)) ee_int) rfl) fun _=>(ew_or (u:=false) (eb_not (u:=true) (eb_of (ee_gf (ok_is_spot1 T) nox0 hr (ea_cons (ee_ixT (ds:=[d2 a b,d2 c d]) (ee_var 2 rfl) ee_int rfl) ea_nil) ⟨(a,b),rfl,rfl⟩))) fun _=>(ew_or1 (eb_not (u:=true) (eb_of (ee_gf (ok_is_spot1 T) nox0 hr (ea_cons (ee_ixT (ds:=[d2 a b,d2 c d]) (ee_var 2 rfl) ee_int rfl) ea_nil) ⟨(c,d),rfl,rfl⟩)))))))) rfl) (fun h=>nomatch h) (fun h=>es_nil))) (Le.of ⟨rfl,rfl,trivial⟩)
theorem law_fn (T:Txt K mg t):FnOk P w K mg base CX 8 t.f_law t.d_law ["_law_script"] (spLaw K):=by
 refine fnR T.u_law.F sc_law rfl fun cdv A outer s H E G ds r hr hl hR=>?_
 obtain⟨ns,hlen,rfl,rfl⟩:=hR;have nd:=sc_law.nd;obtain⟨six,e6⟩:∃ six,4+2 * (cellAt ns 0 % 2)=wy six:=by
   have:cellAt ns 0 % 2=0\/cellAt ns 0 % 2=1:=by omega
   rcases this with h | h
   . exact⟨false,by rw[h];rfl⟩
   . exact⟨true,by rw[h];rfl⟩
 have hk3:cellAt ns 0 / 2 % 3=0\/cellAt ns 0 / 2 % 3=1\/cellAt ns 0 / 2 % 3=2:=by omega
 obtain⟨cs,hcs⟩:∃ cs,cs=cellsOf ns 1 63:=⟨_,rfl⟩
 have hcl:cs.length<=62:=by rw[hcs];unfold cellsOf;rw[ae,aX];omega
 let sk:Int->Sk:=fun c=>skS six (c % 10 ^ 12) (cellAt ns 0 / 2 % 3)
 obtain⟨L,hL⟩:∃ L:List Sk,L=(cs.filter fun c=>decide (c % 2=1) == false).map sk:=⟨_,rfl⟩
 obtain⟨M,hM⟩:∃ M:List Sk,M=(cs.filter fun c=>decide (c % 2=1) == true).map sk:=⟨_,rfl⟩
 have lL:L.length<=62:=by rw[hL,ae];exact aO (bw ..) hcl
 have lM:M.length<=62:=by rw[hM,ae];exact aO (bw ..) hcl
 have eL:(cs.filter fun c=>decide (c % 2=1) == false).map (fun c=>stD (sk c))=L.map stD:=by rw[hL,List.map_map];rfl
 have eM:(cs.filter fun c=>decide (c % 2=1) == true).map (fun c=>stD (sk c))=M.map stD:=by rw[hM,List.map_map];rfl
 obtain⟨D,hD⟩:∃ D,D=shr (L.map (qln six)) (M.map (qln six)):=⟨_,rfl⟩
 obtain⟨W,hW⟩:∃ W,W=shr (L.map (qln six)) (L.map (qln six)):=⟨_,rfl⟩
 have lD:D.length<=62:=by rw[hD];have:=shr_len (L.map (qln six)) (M.map (qln six));rw[ae] at this;omega
 have lW:W.length<=62:=by rw[hW];have:=shr_len (L.map (qln six)) (L.map (qln six));rw[ae] at this;omega
 have cD:shr (M.map (qln six)) (L.map (qln six))=D:=by rw[hD];exact shr_comm _ _
 let B:Slot->Slot->Slot->Slot->Slot->List Slot:=fun a3 a5 a6 a7 a8=>[.val (.scr ns),.val (.int (wy six)),.val (.obj (t.pc six) []),a3,.unk,a5,a6,a7,a8]
 have par:∀ c:Int,c % 2=if decide (c % 2=1)=true then 1 else 0:=fun c=>by
   have h:c % 2=0\/c % 2=1:=by omega
   rcases h with h | h <;> simp[h]
 have noB:NoOwn (B .unk .unk .unk .unk .unk):=fun i o z=>by
   rcases i with _ | _ | _ | _ | _ | _ | _ | _ | _ | i
   all_goals cases z
 refine⟨_,.rt _,es_cons (es_set 1 nd (ee_to (ee_add ee_int (ee_mul ee_int (ee_mod (ee_gf (ok_cell_at T) nox0 hr (ea_cons (ee_var 0 rfl) (ea_cons ee_int ea_nil)) ⟨ns,0,rfl,by decide,rfl⟩) ee_int (by decide)) (CMul.ok (bF ⟨by decide,by decide⟩)))) (congrArg Dt.int e6)))
   (es_cons (es_set 2 nd (ee_make0 T.mk_Quarter (T.g T.v_Quarter.a))) (es_cons (dl1:=B .unk .unk .unk .unk .unk) ?pen ?_))⟩
 case pen=>
   cases six with
   | false=>exact es_if (u:=false) (eb_to (eb_eqI (ee_var 1 rfl) ee_int) rfl) (fun h=>nomatch h) (fun h=>es_nil)
   | true=>exact es_if (u:=true) (eb_to (eb_eqI (ee_var 1 rfl) ee_int) rfl) (fun h=>es_one (es_set 2 nd (ee_make0 T.mk_Sixth (T.g T.v_Sixth.a)))) (fun h=>nomatch h)
 refine ess_figs 3 4 cs Dt.int (fun c=>stD (sk c)) (fun c=>decide (c % 2=1)) rfl PassesOwn.leaving nd (by decide) noB (bR hcl (by rw[sizeLine_eq];decide)) (fun f=>rfl) (fun f d=>Le.of ⟨rfl,rfl,rfl,rfl,trivial⟩)
   (pi_listE (G:=G) (dl:=B .unk .unk .unk .unk .unk) (ee_to (ee_ol (eo_gf (ok_cells T) nox0 hr (ea_cons (ee_var 0 rfl) (ea_cons ee_int (ea_cons ee_int ea_nil))) ⟨ns,1,63,rfl,⟨hlen,by decide,by decide⟩,rfl⟩)) (by rw[<- hcs]))) (fun f=>srcx_weak (dl':=B .unk .unk .unk .unk .unk) (Le.of ⟨rfl,rfl,rfl,trivial⟩) srcx_list)
   (fun c _ f=>ee_to (ee_mod (ee_var 4 rfl) ee_int (by decide)) (congrArg Dt.int (par c)))
   (fun c _ f=>ee_gf (ok_stroke T) nox0 hr (ea_cons (ee_var 1 rfl) (ea_cons (ee_mod (ee_var 4 rfl) (ee_pow ee_int ee_int ⟨by decide,by decide,by decide⟩) (by decide)) (ea_cons (ee_mod (ee_fdiv (ee_gf (ok_cell_at T) nox0 hr (ea_cons (ee_var 0 rfl) (ea_cons ee_int ea_nil)) ⟨ns,0,rfl,by decide,rfl⟩) ee_int ⟨by decide,by decide +kernel⟩) ee_int (by decide)) ea_nil))) ⟨six,_,_,rfl,hk3,rfl⟩) ?_
 rw[eL,eM];show ESs _ _ _ (B (.val (.lst [.lst (L.map stD),.lst (M.map stD)])) .unk .unk .unk .unk) _ _;let FG:Slot:=.val (.lst [.lst (L.map stD),.lst (M.map stD)]);refine es_cons (dl1:=B FG FG .unk .unk .unk) (es_set 5 nd (ee_lst (ea_cons (ee_ol (eo_list T.z_list (ee_ixL (ee_var 3 rfl) ee_int rfl))) (ea_cons (ee_ol (eo_list T.z_list (ee_ixL (ee_var 3 rfl) ee_int rfl))) ea_nil)) AA3)) ?_;refine es_cons (dl1:=B FG FG (.val (.lst (D.map d4))) .unk .unk) (es_set 6 nd (ee_to (ee_ol (eo_gf (ok_llines T) nox0 hr (ea_cons (ee_var 1 rfl) (ea_cons (ee_ixL (ee_var 3 rfl) ee_int rfl) (ea_cons (ee_ixL (ee_var 3 rfl) ee_int rfl) ea_nil))) ⟨six,L,M,rfl,⟨lL,lM⟩,rfl⟩)) (by rw[hD]))) ?_;refine es_cons (dl1:=B FG FG (.val (.lst (D.map d4))) (.own (.lst (D.map d4))) .unk) (es_setO 7 nd (eo_to (eo_gf (ok_shared T) nox0 hr (ea_cons (ee_var 2 rfl) (ea_cons (ee_ixL (ee_var 5 rfl) ee_int rfl) (ea_cons (ee_ixL (ee_var 5 rfl) ee_int rfl) ea_nil))) ⟨six,L,M,rfl,⟨lL,lM⟩,rfl⟩) (by rw[hD]))) ?_;refine es_cons (dl1:=B FG FG (.val (.lst (D.map d4))) (.own (.lst (D.map d4))) .unk) (es_if (u:=false) (eb_lent 7 (eb_to (eb_w (ew_or (u:=false) (eb_not (u:=true) (eb_of (ee_gf (ok_same4 T) nox0 hr (ea_cons (ee_var 7 rfl) (ea_cons (ee_var 6 rfl) ea_nil)) ⟨D,rfl,by omega,rfl⟩))) fun _=>(ew_or1 (eb_not (u:=true) (eb_of (ee_gf (ok_same4 T) nox0 hr (ea_cons (ee_to (ee_ol (eo_gf (ok_shared T) nox0 hr (ea_cons (ee_var 2 rfl) (ea_cons (ee_ixL (ee_var 5 rfl) ee_int rfl) (ea_cons (ee_ixL (ee_var 5 rfl) ee_int rfl) ea_nil))) ⟨six,M,L,rfl,⟨lM,lL⟩,rfl⟩)) (by rw[cD])) (ea_cons (ee_var 6 rfl) ea_nil)) ⟨D,rfl,by omega,rfl⟩)))))) rfl)) (fun h=>nomatch h) (fun h=>es_nil)) ?_;refine es_cons (dl1:=B FG FG (.val (.lst (D.map d4))) (.own (.lst (D.map d4 ++ [.tup [.tup [.int 7,.int 7],.tup [.int 7,.int 8]]]))) .unk) (es_append (ds:=D.map d4) 7 (ee_tup (ea_cons (ee_tup (ea_cons ee_int (ea_cons ee_int ea_nil)) AA3) (ea_cons (ee_tup (ea_cons ee_int (ea_cons ee_int ea_nil)) AA3) ea_nil)) AA3) (by rw[ae];exact small1000 (by omega))) ?_;refine es_cons (es_set 8 nd (ee_to (ee_ol (eo_gf (ok_llines T) nox0 hr (ea_cons (ee_var 1 rfl) (ea_cons (ee_ixL (ee_var 3 rfl) ee_int rfl) (ea_cons (ee_ixL (ee_var 3 rfl) ee_int rfl) ea_nil))) ⟨six,L,L,rfl,⟨lL,lL⟩,rfl⟩)) (show Dt.lst _=.lst (W.map d4) by rw[hW]))) ?_;exact es_one (es_ret (ee_and (u:=true) (v:=true) (ee_gf (ok_same4 T) nox0 hr (ea_cons (ee_to (ee_ol (eo_gf (ok_shared T) nox0 hr (ea_cons (ee_var 2 rfl) (ea_cons (ee_ixL (ee_var 5 rfl) ee_int rfl) (ea_cons (ee_ixL (ee_var 5 rfl) ee_int rfl) ea_nil))) ⟨six,L,L,rfl,⟨lL,lL⟩,rfl⟩)) (by rw[hW])) (ea_cons (ee_var 8 rfl) ea_nil)) ⟨W,rfl,by omega,rfl⟩) fun _=>(ee_and1 (ee_eq (u:=true) hr.units (ee_var 5 rfl) (ee_var 3 rfl) (okD_two L M) (okD_two L M) (eqv_refl _ (okD_two L M).1)))))
end Pf
end
theorem zd {p:List PySem.Value->Prop}(h:p []):∀ us:List PySem.Value,us.length=0->p us
 | [],_=>h
theorem ze {p:List PySem.Value->Prop}{n:Nat}(h:∀ a us,us.length=n->p (a::us)):∀ us:List PySem.Value,us.length=n+1->p us
 | a::us,e=>h a us (Nat.succ.inj e)
namespace PySem.W.Fast
theorem tw3809855937540971319:True:=⟨⟩
theorem tw454860536079706479:True:=⟨⟩
theorem tw15225254279768748942:True:=⟨⟩
theorem tw5645064107772888987:True:=⟨⟩
theorem tw16907363870995233078:True:=⟨⟩
theorem tw7213220655639001787:True:=⟨⟩
theorem tw7917318014265692042:True:=⟨⟩
theorem tw6198365774830937832:True:=⟨⟩
theorem tw2145131869535500816:True:=⟨⟩
theorem tw17895439657548130092:True:=⟨⟩
theorem tw376293299971417381:True:=⟨⟩
theorem tw6027280490212535864:True:=⟨⟩
theorem tw2187411752770516603:True:=⟨⟩
theorem tw232699311855207732:True:=⟨⟩
theorem tw18446625371942966229:True:=⟨⟩
theorem tw15073821152515387678:True:=⟨⟩
theorem tw5736062292792143284:True:=⟨⟩
theorem tw17474638155085427314:True:=⟨⟩
theorem tw9748523415433993955:True:=⟨⟩
theorem tw10940484769110206957:True:=⟨⟩
theorem tw7217164998316110228:True:=⟨⟩
theorem tw6669208389848339126:True:=⟨⟩
theorem tw9787003664355829238:True:=⟨⟩
theorem tw9213086910113150947:True:=⟨⟩
theorem tw9795329209805843064:True:=⟨⟩
theorem tw11562256003821039038:True:=⟨⟩
theorem tw10826357358259702539:True:=⟨⟩
theorem tw13458347364033883244:True:=⟨⟩
theorem tw4309309059878104036:True:=⟨⟩
theorem tw16201917418513319296:True:=⟨⟩
theorem tw5425010693663748973:True:=⟨⟩
theorem tw5747760963206495963:True:=⟨⟩
theorem tw6929594920221047342:True:=⟨⟩
theorem tw1665032498064654763:True:=⟨⟩
theorem tw3849791247792473797:True:=⟨⟩
theorem tw7644440790906026527:True:=⟨⟩
theorem tw505764094869081692:True:=⟨⟩
theorem tw3146236928472259446:True:=⟨⟩
theorem tw10214812836629305835:True:=⟨⟩
theorem tw2228082434976930552:True:=⟨⟩
theorem tw6434990850971677192:True:=⟨⟩
theorem tw12138337331492899899:True:=⟨⟩
theorem tw10341344468146728686:True:=⟨⟩
theorem tw4718268307286348763:True:=⟨⟩
theorem tw12311542977488313735:True:=⟨⟩
theorem tw16185295817290192949:True:=⟨⟩
theorem tw5220287607071373429:True:=⟨⟩
theorem tw6289856935888975055:True:=⟨⟩
theorem tw16667326384235888964:True:=⟨⟩
theorem tw11564645136380151103:True:=⟨⟩
theorem tw7466920211314454407:True:=⟨⟩
theorem tw12270704872458772758:True:=⟨⟩
theorem tw5465085572097475748:True:=⟨⟩
theorem tw11637858963135081846:True:=⟨⟩
theorem tw4863933754884325863:True:=⟨⟩
theorem tw1427503224323295855:True:=⟨⟩
theorem tw5690863919004764866:True:=⟨⟩
theorem tw9081072310611575782:True:=⟨⟩
theorem tw10593242051678377815:True:=⟨⟩
theorem tw17470654343940851887:True:=⟨⟩
theorem tw4349791311070151809:True:=⟨⟩
theorem tw3910618536071009051:True:=⟨⟩
theorem tw9352006535271490360:True:=⟨⟩
theorem tw13523419570051741541:True:=⟨⟩
theorem tw16994565503493205152:True:=⟨⟩
theorem tw13379548112856736325:True:=⟨⟩
theorem tw17429924305474197263:True:=⟨⟩
theorem tw3030699219815879505:True:=⟨⟩
theorem tw16353197174149723640:True:=⟨⟩
theorem tw14694465352929062168:True:=⟨⟩
theorem tw12266291138589573926:True:=⟨⟩
theorem tw3858789850730847535:True:=⟨⟩
theorem tw7798786046676446462:True:=⟨⟩
theorem tw11494689734302431294:True:=⟨⟩
end PySem.W.Fast
open PySem PySem.W PyProof.Rows
set_option maxRecDepth 100000 in
set_option maxHeartbeats 0 in
theorem PySem.Challenge.cw_strokegrow_k84_shared_lines_holds : PySem.Challenge.rw_strokegrow_k84_shared_lines.Holds := by
 w_on;o_law;k_head;(case hw=>w_witness2)
 k_fill
 refine L2.walk_ofK (l:=PySem.Challenge.rw_strokegrow_k84_shared_lines) (n:=63) (k:=8) (x:="_law_script") (CX:=Pf.CX) (sp:=fun K=>Pf.spLaw K) rfl (by decide) rfl ⟨rfl,by decide,by decide⟩ (fun w h Y=>PySem.W.kIn_of Y) ?F ?S ?C
 case F=>
   intro w mg fa h KX G hmg;have T:∃ t,Pf.Txt (L2.KOf KX) mg t∧t.f_law=fa:=by
     dsimp only [L2.KOf];obtain⟨t,T,e⟩:∃ t,Pf.Txt _ mg t∧t.f_law=_:=by
       refine' Pf.txt_mk KX G ?_ ?_ ?_ ?_ ?_ ?_ ?_ ?_ ?_ ?_ ?_ ?_ ?_ ?_ ?_ ?_ ?_ ?_ ?_ ?_ ?_ ?_ ?_ ?_ ?_ ?_ ?_ ?_ ?_ ?_ ?_ ?_ ?_ ?_ ?_ ?_ ?_ ?_ ?_ ?_ ?_ ?_ ?_ ?_ ?_ ?_
       any_goals first
        | exact Pf.fny_mk (by k_is) (by k_is) (by k_is) (by k_is) (by refine fun _ _ _ _ _ _=>?_;(repeat refine ze fun _=>?_);exact zd rfl)
        | exact Pf.fnm_mk (by k_is) (by k_is) (by k_is) (by refine fun _ _ _ _ _ _=>?_;(repeat refine ze fun _=>?_);exact zd rfl)
        | exact Pf.fni_mk (by k_is) (by k_is) (by k_is) (by refine fun _ _ _ _ _ _=>?_;(repeat refine ze fun _=>?_);exact zd rfl)
        | exact Pf.clx_mk (by k_is) (by k_is) (by k_is) (by k_is) (by k_is) (by k_is)
        | exact L2.Meth.mk (by k_is) (by k_is) (by k_is)
        | exact L2.Mk.mk (by k_is) (by k_is) (by k_is) (by k_is)
        | exact Sg.Mk0.mk (by k_is) (by k_is) (by k_is)
        | k_is
        | kernel_rfl
     refine⟨t,T,?_⟩;have e0:=hmg.symm.trans (T.g T.u_law.a);cases e0;rfl
   obtain⟨t,T,e⟩:=T;subst e;refine' ⟨t.d_law,?b,fun base kb nb=>Pf.law_fn T⟩;exact Pf.bl_law T
 case S=>exact fun K H a ns hl hO hS=>Pf.law_sp hl hS
 case C=>exact fun H s e s' h=>h
