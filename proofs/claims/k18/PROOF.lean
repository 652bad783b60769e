import PyProof.Rows.All
import Wide.All
import OpenK.AllK
import Wide.FinOn
import Lean
import PyProof.EqAt
import PyProof.EqKinds
import PyProof.TupleCall
import PyProof.StationsW
import PyProof.ExcClass2
import PyProof.ExcArgs
import PyProof.ExcArgsOwn
import PyProof.CompFree
import PyProof.CompMap
import PyProof.CompUse
import KE.LcSums
import KE.KUnpack
import KE.KDictSum
import KE.KDictLaws
import PyProof.Rows.BitMore
import KE.BitLaws
import KE.KBits
import PyProof.LongRange
import PyProof.ListRange
import KE.IntBitsLaws
import KE.KRevIter
import PyProof.Rows.Tup
import PyProof.CollectIter
import PyProof.TupleOfGen
import PyProof.DictWalks
import PyProof.StrWalks
import PyProof.ZipIter
import PyProof.TupleIter
import PyProof.WalksMore
import KE.KTurns
import PyProof.Rows.SortStr
import KE.KSortTup
import PyProof.Rows.StrClose5
import PyProof.Rows.StrClose3
import PyProof.ExcInit
import PyProof.InstStore
import PyProof.InstLoad
import PyProof.InstStoreFacts
import KE.KDictOf
import PyProof.FactsAll.range_2
import KE.RegKIsAll
import PySem.Challenge.RW_leafframe_k18_lift_and_change
set_option Elab.async false
set_option linter.all false
set_option maxRecDepth 100000
namespace L2
open PySem PySem.Spec PyProof.Rows
abbrev Key:=Sum Int Str
def keyIs:Key->Value->Bool
  | .inl k,v=>Value.isInt k v
  | .inr x,v=>Value.isStrOf x v
def keyH (w:World): Key->Int
  | .inl k=>hashInt k
  | .inr x=>hashStr w x
theorem keyIs_shape:∀{k:Key} {v:Value},keyIs k v=true->(∃i t,k=Sum.inl i/\v=Value.int i t)\/(∃x t,k=Sum.inr x/\v=Value.str x t)
  | .inl i,v,h=>by
    obtain⟨t,e⟩:=Value.isInt_shape (k:=i) (v:=v) h
    exact .inl ⟨i,t,rfl,e⟩
  | .inr x,v,h=>by
    obtain⟨t,e⟩:=Value.isStrOf_shape (x:=x) (v:=v) h
    exact .inr ⟨x,t,rfl,e⟩
theorem keyIs_int (i:Int)(t:Tok): keyIs (.inl i) (.int i t)=true:=by simp[keyIs,Value.isInt]
theorem keyIs_str (x:Str)(t:Tok): keyIs (.inr x) (.str x t)=true:=by simp[keyIs,Value.isStrOf]
theorem key_ll (a b:Int): decide ((Sum.inl a:Key)=Sum.inl b)=(a==b):=by
  by_cases e:a=b
  · subst e;simp
  · have h:¬(Sum.inl a:Key)=Sum.inl b:=fun q=>e (Sum.inl.inj q)
    rw[decide_eq_false h]
    exact(beq_eq_false_iff_ne.mpr e).symm
theorem key_rr (a b:Str): decide ((Sum.inr a:Key)=Sum.inr b)=decide (a=b):=by
  by_cases e:a=b
  · subst e;simp
  · have h:¬(Sum.inr a:Key)=Sum.inr b:=fun q=>e (Sum.inr.inj q)
    rw[decide_eq_false h,decide_eq_false e]
theorem key_lr (a:Int)(b:Str): decide ((Sum.inl a:Key)=Sum.inr b)=false:=decide_eq_false (fun q=>nomatch q)
theorem key_rl (a:Str)(b:Int): decide ((Sum.inr a:Key)=Sum.inl b)=false:=decide_eq_false (fun q=>nomatch q)
def mixKind (prog:Program)(w:World): PySem.KeyKind prog w Key where
  is:=keyIs
  hash:=keyH w
  inj:=fun v a b ha hb=>by
    rcases keyIs_shape ha with ⟨i,t,rfl,rfl⟩ | ⟨x,t,rfl,rfl⟩
    · rcases keyIs_shape hb with ⟨j,u,rfl,e⟩ | ⟨y,u,rfl,e⟩
      · injection e with e1 _;rw[e1]
      · exact nomatch e
    · rcases keyIs_shape hb with ⟨j,u,rfl,e⟩ | ⟨y,u,rfl,e⟩
      · exact nomatch e
      · injection e with e1 _;rw[e1]
  byValue:=fun k v h=>by
    rcases keyIs_shape h with ⟨i,t,rfl,rfl⟩ | ⟨x,t,rfl,rfl⟩<;>rfl
  pyHash:=fun hv h=>by
    rcases keyIs_shape hv with ⟨i,t,rfl,rfl⟩ | ⟨x,t,rfl,rfl⟩
    · exact wpAny_pyHash_int h
    · exact wpAny_pyHash_str h
  eqBool:=fun hu hv h=>by
    rcases keyIs_shape hu with ⟨i,t,rfl,rfl⟩ | ⟨x,t,rfl,rfl⟩
    · rcases keyIs_shape hv with ⟨j,u,rfl,rfl⟩ | ⟨y,u,rfl,rfl⟩
      · rw[key_ll] at h;exact wpAny_eqBool_int h
      · rw[key_lr] at h;exact SeqAt.EqAt.int_str i t y u _ _ _ _ h
    · rcases keyIs_shape hv with ⟨j,u,rfl,rfl⟩ | ⟨y,u,rfl,rfl⟩
      · rw[key_rl] at h;exact SeqAt.EqAt.str_int x t j u _ _ _ _ h
      · rw[key_rr] at h;exact wpAny_eqBool_str h
  «strs» := fun k x t v h=>by
    rcases keyIs_shape h with ⟨i,u,rfl,e⟩ | ⟨y,u,rfl,e⟩
    · exact nomatch e
    · injection e with e1 _
      subst e1
      cases v<;>rfl
theorem mixKind_int (prog:Program)(w:World)(i:Int)(t:Tok): (mixKind prog w).is (.inl i) (.int i t)=true:=keyIs_int i t
theorem mixKind_str (prog:Program)(w:World)(x:Str)(t:Tok): (mixKind prog w).is (.inr x) (.str x t)=true:=keyIs_str x t
end L2
namespace L2
open PySem PySem.Spec PyProof.Rows
inductive V where
  | non | bl (b:Bool) | int (i:Int) | str (x:Str) | byt (b:Array UInt8) | flt (b:UInt64) | ref (a:Addr) | ty (n:String)
  deriving DecidableEq
def RelV:V->Value->Prop
  | .non,u=>u=Value.none
  | .bl b,u=>u=Value.bool b
  | .int i,u=>∃t,u=Value.int i t
  | .str x,u=>∃t,u=Value.str x t
  | .byt b,u=>∃t,u=Value.bytes b t
  | .flt b,u=>∃t,u=Value.float b t
  | .ref a,u=>u=Value.ref a
  | .ty n,u=>u=Value.type n
abbrev Vals:List V->List Value->Prop:=Paired RelV
theorem Vals.length {xs:List V}{us:List Value}(r:Vals xs us): xs.length=us.length:=Paired.length r
theorem Vals.get:∀{xs:List V} {us:List Value} {i:Nat} {x:V},Vals xs us->xs[i]?=some x->∃u,us[i]?=some u/\RelV x u
  | _,_,_,_,.nil,e=>by simp at e
  | _,_,0,_,.cons r _,e=>by simp at e;subst e;exact⟨_,rfl,r⟩
  | _,_,i+1,x,.cons _ t,e=>by
    obtain⟨u,h1,h2⟩:=Vals.get (i:=i) (x:=x) t (by simpa using e)
    exact⟨u,by simpa using h1,h2⟩
theorem Vals.append:∀{xs ys:List V} {us ws:List Value},Vals xs us->Vals ys ws->Vals (xs++ys) (us++ws)
  | _,_,_,_,.nil,s=>s
  | _,_,_,_,.cons r t,s=>.cons r (Vals.append t s)
theorem Vals.take:∀{xs:List V} {us:List Value} (n:Nat),Vals xs us->Vals (xs.take n) (us.take n)
  | _,_,0,_=>.nil
  | _,_,_+1,.nil=>.nil
  | _,_,n+1,.cons r t=>.cons r (Vals.take n t)
theorem Vals.drop:∀{xs:List V} {us:List Value} (n:Nat),Vals xs us->Vals (xs.drop n) (us.drop n)
  | _,_,0,r=>r
  | _,_,_+1,.nil=>.nil
  | _,_,n+1,.cons _ t=>Vals.drop n t
def RelO:Option V->Option Value->Prop
  | some v,some u=>RelV v u
  | none,none=>True
  | _,_=>False
def KV {κ:Type}: List (κ×V)->List (κ×Value)->Prop:=Paired fun (p:κ×V) (q:κ×Value)=>p.1=q.1/\RelV p.2 q.2
def kV:Key->V
  | .inl i=>.int i
  | .inr x=>.str x
inductive HO where
  | lst (xs:List V)
  | tup (xs:List V)
  | dK (kvs:List (Key×V)) | dT (kvs:List (List Key×V))
  | set (S:Int->Bool) (n:Nat)
  | ins (C dx:Addr) (fs:List (Str×V))
  | own (x:Addr)
  | xd (fs:List (Str×V))
  | met (f x:Addr)
  | rng (lo hi:Int)
  | frz (o:Obj) (u:HO)
  | tbl (ps:Array Value)
  | ext (φ:Heap->Prop)
abbrev Hp:=Addr->Option HO
def upd (H:Hp)(a:Addr)(o:HO): Hp:=fun b=>if b=a then some o else H b
theorem upd_same {H:Hp}{a:Addr}{o:HO}: upd H a o a=some o:=by unfold upd;rw[if_pos rfl]
theorem upd_ne {H:Hp}{a b:Addr}{o:HO}(h:b≠a): upd H a o b=H b:=by unfold upd;rw[if_neg h]
theorem upd_upd {H:Hp}{a:Addr}{o u:HO}: upd (upd H a o) a u=upd H a u:=by
  funext b;unfold upd;split<;>rfl
theorem ne_of {H:Hp}{a b:Addr}{o u:HO}(h:H a=some o)(h':H b=some u)(d:o≠u): a≠b:=by
  intro e;subst e;rw[h] at h';exact d (Option.some.inj h')
theorem ne_of_none {H:Hp}{a b:Addr}{o:HO}(h:H a=some o)(h':H b=none): a≠b:=by
  intro e;subst e;rw[h] at h';cases h'
section
variable (P:Program)(w:World)
def ObjOk (H:Hp)(h:Heap)(a:Addr): HO->Prop
  | .lst xs=>xs.length<=sizeLine/\∃(its:List Value) (n:Nat),Vals xs its/\h.get? a=some { cls:=.type "list",data:=.seq its.toArray n }
  | .tup xs=>xs.length<=sizeLine/\∃its:List Value,Vals xs its/\IsTup h a its.toArray
  | .dK kvs=>kvs.length<=sizeLine/\(a==sysModules)=false/\∃vs,KV kvs vs/\h.DictOf (mixKind P w) a vs
  | .dT kvs=>kvs.length<=sizeLine/\(a==sysModules)=false/\∃xs:List (List Key×Addr×Value),
      Paired (fun (p:List Key×V) (q:List Key×Addr×Value)=>p.1=q.1/\H q.2.1=some (.tup (p.1.map kV))/\RelV p.2 q.2.2) kvs xs ∧
      ∃o es ep,h.get? a=some o/\o.ExactDict/\o.data=.dict es ep/\es.toList=xs.map (entryOfKey (tupleKind (mixKind P w)))/\(xs.map (·.1)).Nodup
  | .set S n=>h.SetOf (intKind P w) a S n
  | .ins C dx fs=>H dx=some (.own a)/\fs.length<=1000/\dx≠a/\h.get? a=some (PySem.W.instObj C dx) ∧
      ∃mA,h.Ns1 dx mA/\(∀f,RelO (fs.lookup f) (mA f))/\PySem.Within mA (fs.map (·.1))
  | .own _=>∃o,h.get? a=some o
  | .xd fs=>∃mA,h.Ns1 a mA/\∀f,RelO (fs.lookup f) (mA f)
  | .rng lo hi=>∃t u v,h.get? a=some { cls:=.type "range",data:=.fields #[.int lo t,.int hi u,.int 1 v] }
  | .frz o u=>h.get? a=some o/\ObjOk H h a u
  | .tbl ps=>h.get? a=some { cls:=.none,data:=.fields ps }
  | .met f x=>h.get? a=some (PySem.W.methodObj (.ref f) (.ref x))
  | .ext φ=>φ h/\(∃o,h.get? a=some o)/\∀h1 h2:Heap,φ h1->(∀o,h1.get? a=some o->h2.get? a=some o)->φ h2
def HOk (H:Hp)(h:Heap): Prop:=∀a o,H a=some o->ObjOk P w H h a o
end
section
variable {P:Program}{w:World}{H H':Hp}{h h':Heap}{a:Addr}{o:HO}
theorem ObjOk.lt (x:ObjOk P w H h a o): a < h.objs.size:=by
  cases o with
  | lst xs=>obtain⟨_,_,_,_,e⟩:=x;exact Heap.lt_size e
  | tup xs=>obtain⟨_,_,_,p⟩:=x;exact p.lt
  | dK kvs=>obtain⟨_,_,_,_,o,_,_,e,_⟩:=x;exact Heap.lt_size e
  | dT kvs=>obtain⟨_,_,_,_,o,_,_,e,_⟩:=x;exact Heap.lt_size e
  | set S n=>obtain⟨o,_,_,_,e,_⟩:=x;exact Heap.lt_size e
  | ins C dx fs=>obtain⟨_,_,_,e,_⟩:=x;exact Heap.lt_size e
  | own y=>obtain⟨_,e⟩:=x;exact Heap.lt_size e
  | xd fs=>obtain⟨_,⟨_,_,_,e,_⟩,_⟩:=x;exact Heap.lt_size e
  | rng lo hi=>obtain⟨_,_,_,e⟩:=x;exact Heap.lt_size e
  | frz ob u=>obtain⟨e,_⟩:=x;exact Heap.lt_size e
  | tbl ps=>exact Heap.lt_size (show h.get? a=some _ from x)
  | met f y=>exact Heap.lt_size (show h.get? a=some _ from x)
  | ext φ=>obtain⟨_,⟨_,e⟩,_⟩:=x;exact Heap.lt_size e
theorem Paired.mapP {α β:Type}{F G:α->β->Prop}: ∀{l₁:List α} {l₂:List β},Paired F l₁ l₂->(∀a b,F a b->G a b)->Paired G l₁ l₂
  | _,_,.nil,_=>.nil
  | _,_,.cons r t,f=>.cons (f _ _ r) (Paired.mapP t f)
theorem ObjOk.stay (x:ObjOk P w H h a o)(k:∀b u,(b=a\/H b=some (.own a))->h.get? b=some u->h'.get? b=some u)
    (ho:∀b,H b=some (.own a)->H' b=some (.own a)) (ht:∀b xs,H b=some (.tup xs)->H' b=some (.tup xs)):ObjOk P w H' h' a o:=by
  induction o with
  | lst xs=>obtain⟨z,its,n,r,e⟩:=x;exact⟨z,its,n,r,k _ _ (.inl rfl) e⟩
  | tup xs=>obtain⟨z,its,r,ob,e,c⟩:=x;exact⟨z,its,r,ob,k _ _ (.inl rfl) e,c⟩
  | dK kvs=>obtain⟨z,y,vs,r,ob,es,ep,e,c⟩:=x;exact⟨z,y,vs,r,ob,es,ep,k _ _ (.inl rfl) e,c⟩
  | dT kvs =>
    obtain⟨z,y,xs,r,ob,es,ep,e,c⟩:=x
    exact⟨z,y,xs,Paired.mapP r fun p q z=>⟨z.1,ht _ _ z.2.1,z.2.2⟩,ob,es,ep,k _ _ (.inl rfl) e,c⟩
  | set S n=>obtain⟨ob,es,ep,t,e,c⟩:=x;exact⟨ob,es,ep,t,k _ _ (.inl rfl) e,c⟩
  | ins C dx fs =>
    obtain⟨d,z,ne,e,mA,⟨od,es,ep,e2,c⟩,r⟩:=x
    exact⟨ho _ d,z,ne,k _ _ (.inl rfl) e,mA,⟨od,es,ep,k _ _ (.inr d) e2,c⟩,r⟩
  | own y=>obtain⟨ob,e⟩:=x;exact⟨ob,k _ _ (.inl rfl) e⟩
  | xd fs=>obtain⟨mA,⟨od,es,ep,e,c⟩,r⟩:=x;exact⟨mA,⟨od,es,ep,k _ _ (.inl rfl) e,c⟩,r⟩
  | rng lo hi=>obtain⟨t,u,v,e⟩:=x;exact⟨t,u,v,k _ _ (.inl rfl) e⟩
  | frz ob u ih=>obtain⟨e,q⟩:=x;exact⟨k _ _ (.inl rfl) e,ih q⟩
  | tbl ps =>
    have e:h.get? a=some { cls:=.none,data:=.fields ps }:=x
    show h'.get? a=some { cls:=.none,data:=.fields ps }
    exact k a _ (.inl rfl) e
  | met f y =>
    have e:h.get? a=some (PySem.W.methodObj (.ref f) (.ref y)):=x
    show h'.get? a=some (PySem.W.methodObj (.ref f) (.ref y))
    exact k a _ (.inl rfl) e
  | ext φ=>obtain⟨p,⟨o,e⟩,st⟩:=x;exact⟨st _ _ p fun o q=>k _ _ (.inl rfl) q,⟨o,k _ _ (.inl rfl) e⟩,st⟩
theorem HOk.lt (x:HOk P w H h)(e:H a=some o): a < h.objs.size:=(x a o e).lt
theorem HOk.fresh (x:HOk P w H h)(e:h.objs.size<=a): H a=none:=by
  cases q:H a with
  | none=>rfl
  | some u=>exact absurd (Nat.lt_of_lt_of_le (x.lt q) e) (Nat.lt_irrefl _)
theorem HOk.kept (x:HOk P w H h)(k:∀b u,h.get? b=some u->h'.get? b=some u): HOk P w H h':=fun a o e =>
  (x a o e).stay (fun b u _ q=>k b u q) (fun _ q=>q) fun _ _ q=>q
theorem HOk.laid (x:HOk P w H h)(k:∀b u,h.get? b=some u->h'.get? b=some u)(hp:h.objs.size<=a)(new:ObjOk P w (upd H a o) h' a o): HOk P w (upd H a o) h':=fun b u e=>by
  have hn:=x.fresh hp
  by_cases hb:b=a
  · subst hb;rw[upd_same] at e;cases e;exact new
  · rw[upd_ne hb] at e
    exact(x b u e).stay (fun c v _ q=>k c v q) (fun c q=>by rw[upd_ne (ne_of_none q hn)];exact q) fun c xs q=>by rw[upd_ne (ne_of_none q hn)];exact q
end
def Rd (H:Hp)(a:Addr)(u:HO): Prop:=H a=some u\/∃o,H a=some (.frz o u)
theorem Rd.of {H:Hp}{a:Addr}{u:HO}(h:H a=some u): Rd H a u:=.inl h
theorem Rd.ok {P:Program}{w:World}{H:Hp}{h:Heap}{a:Addr}{u:HO}(r:Rd H a u)(x:HOk P w H h): ObjOk P w H h a u:=by
  rcases r with r | ⟨o,r⟩
  · exact x a u r
  · obtain⟨_,q⟩:=x a _ r
    exact q
def Mut:Option HO->Prop
  | some (.lst _)=>True
  | some (.dK _)=>True
  | some (.dT _)=>True
  | some (.set _ _)=>True
  | some (.ins _ _ _)=>True
  | some (.ext _)=>True
  | _=>False
section
variable {P:Program}{w:World}{H:Hp}{h h':Heap}{x e:Addr}{o':HO}
theorem HOk.write (ok:HOk P w H h)(mu:Mut (H x))(he:e=x\/H e=some (.own x))(k:∀b u,b≠e->h.get? b=some u->h'.get? b=some u)(heo:∃u,h'.get? e=some u)
    (new:ObjOk P w (upd H x o') h' x o'):HOk P w (upd H x o') h':=fun b u q=>by
  have nown:∀c y,H c=some (.own y)->c≠x:=fun c y r z=>by subst z;rw[r] at mu;exact mu
  have ntup:∀c xs,H c=some (.tup xs)->c≠x:=fun c xs r z=>by subst z;rw[r] at mu;exact mu
  by_cases hb:b=x
  · subst hb;rw[upd_same] at q;cases q;exact new
  · rw[upd_ne hb] at q
    by_cases hbe:b=e
    · have q':H b=some (.own x):=by
        rcases he with z | z
        · exact absurd (hbe.trans z) hb
        · rw[hbe];exact z
      rw[q] at q';cases q'
      obtain⟨v,hv⟩:=heo
      exact⟨v,by rw[hbe];exact hv⟩
    · refine(ok b u q).stay (fun c v hc r=>k c v ?_ r) (fun c r=>by rw[upd_ne (nown c b r)];exact r) fun c xs r=>by rw[upd_ne (ntup c xs r)];exact r
      rcases hc with rfl | hc
      · exact hbe
      · rintro rfl
        rcases he with z | z
        · exact nown c b hc z
        · rw[hc] at z;cases z;exact hb rfl
end
structure Un (fs ex:List Addr)(H H':Hp)(h h':Heap): Prop where
  keep:∀b o,h.get? b=some o->H b=none->b∉fs->b∉ex->h'.get? b=some o
  slot:∀b o,h.get? b=some o->H b=none->b∈fs->b∉ex->∃sl,h'.get? b=some { o with slots:=sl }
  free:∀b o,h.get? b=some o->H b=none->b∉ex->H' b=none
  there:∀b o,h.get? b=some o->b∉ex->∃o',h'.get? b=some o'
  tups:∀b xs,H b=some (.tup xs)->H' b=some (.tup xs)
  frzs:∀b o u,H b=some (.frz o u)->H' b=some (.frz o u)
  tbls:∀b ps,H b=some (.tbl ps)->∃more,H' b=some (.tbl (ps++more))
section
variable {fs fs' ex ex':List Addr}{H H1 H2:Hp}{h h1 h2 h':Heap}{a x e:Addr}{o:HO}
theorem Un.any (u:Un fs ex H H1 h h1){b:Addr}{ob:Obj}(q:h.get? b=some ob)(n:H b=none)(hx:b∉ex): ∃sl,h1.get? b=some { ob with slots:=sl }:=by
  by_cases hb:b∈fs
  · exact u.slot b ob q n hb hx
  · exact⟨ob.slots,u.keep b ob q n hb hx⟩
theorem Un.kept (k:∀b u,h.get? b=some u->h'.get? b=some u): Un fs ex H H h h' :=
  ⟨fun b ob q _ _ _=>k b ob q,fun b ob q _ _ _=>⟨ob.slots,k b ob q⟩,fun _ _ _ n _=>n,fun b ob q _=>⟨ob,k b ob q⟩,fun _ _ q=>q,fun _ _ _ q=>q,fun _ ps q=>⟨#[],by rw[q];simp⟩⟩
theorem Un.refl:Un fs ex H H h h:=Un.kept fun _ _ q=>q
theorem Un.laid (k:∀b u,h.get? b=some u->h'.get? b=some u)(hp:h.objs.size<=a)(hn:H a=none): Un fs ex H (upd H a o) h h' where
  keep:=fun b u q _ _ _=>k b u q
  slot:=fun b u q _ _ _=>⟨u.slots,k b u q⟩
  free:=fun b u q n _=>by rw[upd_ne (Nat.ne_of_lt (Nat.lt_of_lt_of_le (Heap.lt_size q) hp))];exact n
  there:=fun b u q _=>⟨u,k b u q⟩
  tups:=fun b xs q=>by rw[upd_ne (ne_of_none q hn)];exact q
  frzs:=fun b u xs q=>by rw[upd_ne (ne_of_none q hn)];exact q
  tbls:=fun b ps q=>⟨#[],by rw[upd_ne (ne_of_none q hn),q];simp⟩
theorem Un.write (mu:Mut (H x))(he:e=x\/H e=some (.own x))(k:∀b u,b≠e->h.get? b=some u->h'.get? b=some u)(heo:∃u,h'.get? e=some u): Un fs ex H (upd H x o) h h':=by
  have hx:∀b,H b=none->b≠x:=fun b n z=>by subst z;rw[n] at mu;exact mu
  have hb:∀b,H b=none->b≠e:=fun b n z=>by
    subst z
    rcases he with r | r
    · exact hx b n r
    · rw[n] at r;cases r
  have hm:∀b u,H b=some u->¬Mut (some u)->b≠x:=fun b u q nm z=>by subst z;rw[q] at mu;exact nm mu
  refine⟨fun b u q n _ _=>k b u (hb b n) q,fun b u q n _ _=>⟨u.slots,k b u (hb b n) q⟩,fun b u q n _=>by rw[upd_ne (hx b n)];exact n,fun b u q _=>?_,
    fun b xs q=>by rw[upd_ne (hm b _ q fun z=>z)];exact q,fun b u xs q=>by rw[upd_ne (hm b _ q fun z=>z)];exact q,fun b ps q=>⟨#[],by rw[upd_ne (hm b _ q fun z=>z),q];simp⟩⟩
  by_cases hbe:b=e
  · subst hbe;exact heo
  · exact⟨u,k b u hbe q⟩
end
def trk (h:Heap)(H:Hp): List Addr:=(List.range h.objs.size).filter fun a=>(H a).isSome
def hidT (h:Heap)(H:Hp): Heap:=PySem.W.hideAll h (trk h H)
theorem hidT_size (h:Heap)(H:Hp): (hidT h H).objs.size=h.objs.size:=PySem.W.hideAll_size _ _
theorem hidT_get {h:Heap}{H:Hp}{b:Addr}{o:Obj}(e:h.get? b=some o)(n:H b=none): (hidT h H).get? b=some o :=
  PySem.W.hideAll_get _ e fun hm=>by
    have q:(H b).isSome=true:=(List.mem_filter.mp hm).2
    rw[n] at q;simp at q
theorem of_hidT {h:Heap}{H:Hp}{b:Addr}{o:Obj}(e:(hidT h H).get? b=some o): h.get? b=some o/\H b=none:=by
  have e':h.get? b=some o:=PySem.W.of_hideAll (trk h H) e
  refine⟨e',?_⟩
  cases q:H b with
  | none=>rfl
  | some x =>
    have hm:b∈trk h H:=List.mem_filter.mpr ⟨List.mem_range.mpr (Heap.lt_size e'),by simp[q]⟩
    have z:(hidT h H).get? b=none:=PySem.W.hideAll_none (trk h H) hm
    rw[z] at e;cases e
end L2
namespace L2
open PySem PySem.Spec PyProof.Rows
structure Mod (K:PySem.W.Frag)(mg:Str->Option Value)(base:Heap): Prop where
  kin:K.In base
  glob:base.Ns mainGlobals mg
  blt:∃mb,base.Ns builtinsNs mb/\∀x:Str,x ≠ "__name__" -> mb x=bootBuiltins x
  nolimit:base.NoLimit
structure Cx where
  prog:Program
  w:World
  K:PySem.W.Frag
  mg:Str->Option Value
  base:Heap
  A:Around
  N:List Str
  s₀:Shared
  H₀:Hp
  env:Env
  outer:List Env
  stack:List Env
  ex:List Addr
  fn:Str->Bool
  calm:Bool
  pn:List (Addr×Obj)
  xe:Value->Shared->Prop
def frs (l:List Env): List Addr:=l.filterMap (·.frame)
abbrev Cx.fs (X:Cx): List Addr:=frs X.outer
def Vis (sc:Scope)(x:Str): Prop:=sc.names.lookup x=some .local\/sc.names.lookup x=some .cell\/sc.names.lookup x=some .free
def Loc (sc:Scope)(x:Str): Prop:=sc.names.lookup x=some .local\/sc.names.lookup x=some .cell
def Look (env:Env)(h:Heap)(m:Str->Option Value)(x:Str)(u:Value): Prop :=
  (env.kindOf x=some .local/\m x=some u)\/((env.kindOf x=some .cell\/env.kindOf x=some .free)/\∃c,env.cells.lookup x=some c/\h.IsCell c (some u))
structure Cx.Ok (X:Cx): Prop where
  mod:Mod X.K X.mg X.base
  kind:X.env.scope.kind=.function
  glob:X.env.globals=mainGlobals
  blt:X.env.builtins=builtinsNs
  above:X.s₀.heap.objs.size<=X.env.locals
  inj:∀x y c,X.env.cells.lookup x=some c->X.env.cells.lookup y=some c->x=y
  has:∀x,(X.env.kindOf x=some .cell\/X.env.kindOf x=some .free)->∃c,X.env.cells.lookup x=some c
  cab:∀x c,X.fn x=true->X.env.cells.lookup x=some c->X.s₀.heap.objs.size<=c
  hd:X.calm=true->X.A.handled=none
  frames:X.A.frames=some X.stack
  stk:X.stack=X.outer\/(X.stack=X.env::X.outer/\X.env.frame=some X.env.locals)
  exf:∀b∈X.ex,b≠X.env.locals/\∀x c,X.env.cells.lookup x=some c->c≠b
  bs:∀b o,X.base.get? b=some o->X.s₀.heap.get? b=some o/\X.H₀ b=none
  bsz:X.base.objs.size<=X.s₀.heap.objs.size
  noex:∀b o,X.base.get? b=some o->b∉X.ex
  exfs:∀b∈X.ex,b∉X.fs
  funs:X.s₀.heap.FunFrames X.base X.outer
  frf:∀b∈X.fs,X.H₀ b=none
structure Inv (X:Cx)(pins:List (Addr×Obj))(σ:List (Option V))(H:Hp)(s:Shared): Prop where
  ok:X.Ok
  os:s.os=X.s₀.os
  bare:AllBare s.gens
  base:Un X.fs X.ex X.H₀ H X.s₀.heap s.heap
  loc:∃m,s.heap.Ns X.env.locals m/\∀(i:Nat) (x:Str) (v:V),X.N[i]?=some x->σ[i]?=some (some v)->Vis X.env.scope x->∃u,RelV v u/\Look X.env s.heap m x u
  cell:∀x c,X.env.cells.lookup x=some c->∃v,s.heap.IsCell c v
  free:H X.env.locals=none
  freeC:∀x c,X.env.cells.lookup x=some c->H c=none
  pin:∀p∈X.pn++pins,s.heap.get? p.1=some p.2/\H p.1=none/\p.1≠X.env.locals/\p.1∉X.fs/\∀v,p.2.data≠.cell v
  hok:HOk X.prog X.w H s.heap
  len:σ.length=X.N.length
section
variable {X:Cx}{pins:List (Addr×Obj)}{σ:List (Option V)}{H H':Hp}{s:Shared}{h':Heap}
theorem Cx.Ok.nofr (ok:X.Ok){b:Addr}{o:Obj}(e:X.base.get? b=some o): b∉X.fs:=fun hb=>by
  have:=(ok.funs.mem hb).1
  rw[e] at this;cases this
theorem Inv.bs (I:Inv X pins σ H s): ∀b o,X.base.get? b=some o->s.heap.get? b=some o/\H b=none:=fun b o e =>
  ⟨I.base.keep b o (I.ok.bs b o e).1 (I.ok.bs b o e).2 (I.ok.nofr e) (I.ok.noex b o e),I.base.free b o (I.ok.bs b o e).1 (I.ok.bs b o e).2 (I.ok.noex b o e)⟩
theorem Inv.bk (I:Inv X pins σ H s): ∀b o,X.base.get? b=some o->s.heap.get? b=some o:=fun b o e=>(I.bs b o e).1
theorem Inv.mod (I:Inv X pins σ H s): Mod X.K X.mg X.base:=I.ok.mod
theorem Inv.kIn (I:Inv X pins σ H s): X.K.In s.heap:=I.ok.mod.kin.keeps I.bk
theorem Inv.lt (I:Inv X pins σ H s): X.env.locals < s.heap.objs.size:=let ⟨_,hn,_⟩:=I.loc;hn.lt
theorem Inv.sz (I:Inv X pins σ H s): X.s₀.heap.objs.size<=s.heap.objs.size:=Nat.le_trans I.ok.above (Nat.le_of_lt I.lt)
theorem Inv.nofs (I:Inv X pins σ H s){a:Addr}(h:s.heap.objs.size<=a): a∉X.fs:=fun hb=>by
  obtain⟨_,o,ho,_⟩:=I.ok.funs.mem hb
  exact absurd (Nat.lt_of_lt_of_le (Heap.lt_size ho) (Nat.le_trans I.sz h)) (Nat.lt_irrefl _)
theorem Inv.cne (I:Inv X pins σ H s): ∀x c,X.env.cells.lookup x=some c->c≠X.env.locals:=fun x c e z=>by
  obtain⟨v,o,ho,hd⟩:=I.cell x c e
  obtain⟨m,⟨o',es,ep,ho',hd',_⟩,_⟩:=I.loc
  rw[z,ho'] at ho;cases ho;rw[hd'] at hd;cases hd
theorem Inv.funs (I:Inv X pins σ H s): s.heap.FunFrames X.base X.outer:=by
  have all:∀(l:List Env),(∀b∈frs l,b∈X.fs)->X.s₀.heap.FunFrames X.base l->s.heap.FunFrames X.base l:=by
    intro l
    induction l with
    | nil=>intro _ _;trivial
    | cons env r ih =>
      intro hs hl
      obtain⟨hk,⟨L,o,hf,hn,ho,hd⟩,hr⟩:=hl
      have hL:L∈X.fs:=hs L (by unfold frs;rw[List.filterMap_cons,hf];exact List.mem_cons_self)
      obtain⟨sl,e⟩:=I.base.slot L o ho (I.ok.frf L hL) hL fun z=>I.ok.exfs L z hL
      exact⟨hk,⟨L,_,hf,hn,e,hd⟩,ih (fun b hb=>hs b (by unfold frs;rw[List.filterMap_cons,hf];exact List.mem_cons_of_mem _ hb)) hr⟩
  exact all X.outer (fun _ hb=>hb) I.ok.funs
theorem Inv.stack (I:Inv X pins σ H s): s.heap.FunFrames X.base X.stack:=by
  rcases I.ok.stk with e | ⟨e,hf⟩
  · rw[e];exact I.funs
  · rw[e]
    obtain⟨m,hn,_⟩:=I.loc
    refine .cons (by rw[I.ok.kind];decide) hf hn ?_ I.funs
    exact Heap.get?_none_of_le (Nat.le_trans I.ok.bsz I.ok.above)
theorem Inv.stkSub (I:Inv X pins σ H s): ∀b∈frs X.stack,b∈X.env.locals::X.fs:=fun b hb=>by
  rcases I.ok.stk with e | ⟨e,hf⟩
  · rw[e] at hb;exact List.mem_cons_of_mem _ hb
  · rw[e] at hb
    unfold frs at hb
    rw[List.filterMap_cons,hf] at hb
    exact hb
theorem Inv.stkFree (I:Inv X pins σ H s): ∀b∈frs X.stack,H b=none:=fun b hb=>by
  rcases List.mem_cons.mp (I.stkSub b hb) with e | hb
  · rw[e];exact I.free
  · obtain⟨_,o,ho,_⟩:=I.ok.funs.mem hb
    exact I.base.free b o ho (I.ok.frf b hb) fun z=>I.ok.exfs b z hb
theorem Inv.step {g':Array GenState}{t':Nat}{d':Drawn}{ch:List Addr}(I:Inv X pins σ H s)
    (hch:∀b∈ch,(b∈X.ex\/X.s₀.heap.objs.size<=b)/\b≠X.env.locals/\(∀x c,X.env.cells.lookup x=some c->c≠b)/\∀p∈X.pn++pins,p.1≠b)
    (keep:∀b o,b≠X.env.locals->b∉X.fs->b∉ch->s.heap.get? b=some o->H b=none->h'.get? b=some o)
    (slot:∀b o,b≠X.env.locals->b∈X.fs->b∉ch->s.heap.get? b=some o->H b=none->∃sl,h'.get? b=some { o with slots:=sl }) (free:∀b o,b∉ch->s.heap.get? b=some o->H b=none->H' b=none)
    (there:∀b o,b∉ch->s.heap.get? b=some o->∃o',h'.get? b=some o')
    (tups:∀b xs,H b=some (.tup xs)->H' b=some (.tup xs)) (frzs:∀b o u,H b=some (.frz o u)->H' b=some (.frz o u)) (tbls:∀b ps,H b=some (.tbl ps)->∃more,H' b=some (.tbl (ps++more)))
    (ns:∀m,s.heap.Ns X.env.locals m->h'.Ns X.env.locals m) (hok:HOk X.prog X.w H' h') (hg:AllBare g') :
    Inv X pins σ H' { s with heap:=h',gens:=g',drawn:=d',toks:=t' }:=by
  have neL:∀b o,X.s₀.heap.get? b=some o->b≠X.env.locals:=fun b o e=>Nat.ne_of_lt (Nat.lt_of_lt_of_le (Heap.lt_size e) I.ok.above)
  have neC:∀b o,X.s₀.heap.get? b=some o->b∉X.ex->b∉ch:=fun b o e hx hb=>by
    rcases (hch b hb).1 with z | z
    · exact hx z
    · exact absurd (Nat.lt_of_lt_of_le (Heap.lt_size e) z) (Nat.lt_irrefl _)
  have cellK:∀x c,X.env.cells.lookup x=some c->∀v,s.heap.IsCell c v->h'.IsCell c v:=fun x c e v ⟨o,ho,hd⟩=>by
    have nch:c∉ch:=fun z=>(hch c z).2.2.1 x c e rfl
    by_cases hc:c∈X.fs
    · obtain⟨sl,q⟩:=slot c o (I.cne x c e) hc nch ho (I.freeC x c e)
      exact⟨_,q,hd⟩
    · exact⟨o,keep c o (I.cne x c e) hc nch ho (I.freeC x c e),hd⟩
  refine⟨I.ok,I.os,hg,⟨fun b o e n hb hx=>?_,fun b o e n hb hx=>?_,fun b o e n hx=>?_,fun b o e hx=>?_,fun b xs e=>tups b xs (I.base.tups b xs e),fun b o xs e=>frzs b o xs (I.base.frzs b o xs e),fun b ps e=>?_⟩,?_,fun x c e=>?_,?_,fun x c e=>?_,fun p hp=>?_,hok,I.len⟩
  · exact keep b o (neL b o e) hb (neC b o e hx) (I.base.keep b o e n hb hx) (I.base.free b o e n hx)
  · obtain⟨sl,e1⟩:=I.base.slot b o e n hb hx
    obtain⟨sl',e2⟩:=slot b _ (neL b o e) hb (neC b o e hx) e1 (I.base.free b o e n hx)
    exact⟨sl',e2⟩
  · obtain⟨o',e1⟩:=I.base.there b o e hx
    exact free b o' (neC b o e hx) e1 (I.base.free b o e n hx)
  · obtain⟨o',e1⟩:=I.base.there b o e hx
    exact there b o' (neC b o e hx) e1
  · obtain⟨m1,e1⟩:=I.base.tbls b ps e
    obtain⟨m2,e2⟩:=tbls b _ e1
    exact⟨m1++m2,by rw[e2,Array.append_assoc]⟩
  · obtain⟨m,hn,hl⟩:=I.loc
    refine⟨m,ns m hn,fun i x v e1 e2 e3=>?_⟩
    obtain⟨u,r,l⟩:=hl i x v e1 e2 e3
    refine⟨u,r,?_⟩
    rcases l with l | ⟨k,c,e,z⟩
    · exact .inl l
    · exact .inr ⟨k,c,e,cellK x c e _ z⟩
  · obtain⟨v,z⟩:=I.cell x c e
    exact⟨v,cellK x c e v z⟩
  · obtain⟨m,⟨o,_,_,ho,_⟩,_⟩:=I.loc
    exact free _ o (fun z=>(hch _ z).2.1 rfl) ho I.free
  · obtain⟨v,o,ho,hd⟩:=I.cell x c e
    exact free c o (fun z=>(hch c z).2.2.1 x c e rfl) ho (I.freeC x c e)
  · obtain⟨e,n,ne,nf,d⟩:=I.pin p hp
    have nch:p.1∉ch:=fun z=>(hch p.1 z).2.2.2 p hp rfl
    exact⟨keep p.1 p.2 ne nf nch e n,free p.1 p.2 nch e n,ne,nf,d⟩
theorem Inv.un {t':Nat}(I:Inv X pins σ H s)(u:Un X.fs [] H H' s.heap h')(hok:HOk X.prog X.w H' h'): Inv X pins σ H' { s with heap:=h',toks:=t' }:=by
  obtain⟨m,⟨o,es,ep,ho,r⟩,_⟩:=id I.loc
  obtain⟨sl,hL⟩:=u.any ho I.free (by simp)
  exact I.step (g':=s.gens) (d':=s.drawn) (ch:=[]) (fun _ z=>nomatch z) (fun b o _ hb _ e n=>u.keep b o e n hb (by simp)) (fun b o _ hb _ e n=>u.slot b o e n hb (by simp)) (fun b o _ e n=>u.free b o e n (by simp)) (fun b o _ e=>u.there b o e (by simp)) u.tups u.frzs u.tbls (fun m' hm=>by
    obtain⟨o',es',ep',ho',r'⟩:=hm
    rw[ho] at ho';cases ho'
    exact⟨_,es',ep',hL,r'⟩) hok I.bare
theorem Inv.call {g':Array GenState}{t':Nat}{d':Drawn}{ch:List Addr}(I:Inv X pins σ H s)(u:Un (frs X.stack) ch H H' s.heap h')(hok:HOk X.prog X.w H' h')(hg:AllBare g')
    (hch:∀b∈ch,(b∈X.ex\/X.s₀.heap.objs.size<=b)/\b≠X.env.locals/\(∀x c,X.env.cells.lookup x=some c->c≠b)/\∀p∈X.pn++pins,p.1≠b) :
    Inv X pins σ H' { s with heap:=h',gens:=g',drawn:=d',toks:=t' }:=by
  obtain⟨m,⟨o,es,ep,ho,r⟩,_⟩:=id I.loc
  obtain⟨sl,hL⟩:=u.any ho I.free fun z=>(hch _ z).2.1 rfl
  exact I.step (ch:=ch) hch (fun b o hL hb hc e n=>u.keep b o e n (fun z=>(List.mem_cons.mp (I.stkSub b z)).elim hL hb) hc) (fun b o _ _ hc e n=>u.any e n hc) (fun b o hc e n=>u.free b o e n hc) (fun b o hc e=>u.there b o e hc) u.tups u.frzs u.tbls (fun m' hm=>by
    obtain⟨o',es',ep',ho',r'⟩:=hm
    rw[ho] at ho';cases ho'
    exact⟨_,es',ep',hL,r'⟩) hok hg
theorem Inv.turned {t':Nat}{it:Addr}(I:Inv X pins σ H s)(k:∀b o,b≠it->s.heap.get? b=some o->h'.get? b=some o)(hn:H it=none)(hL:it≠X.env.locals)
    (h1:it∈X.ex\/X.s₀.heap.objs.size<=it) (h2:∀x c,X.env.cells.lookup x=some c->c≠it) (h3:∀p∈X.pn++pins,p.1≠it):Inv X pins σ H { s with heap:=h',toks:=t' }:=by
  have nit:∀b u,H b=some u->b≠it:=fun b u e z=>by rw[z,hn] at e;cases e
  refine I.step (g':=s.gens) (d':=s.drawn) (ch:=[it]) (fun b hb=>?_) (fun b o _ _ hc e _=>k b o (fun z=>hc (by simp[z])) e) (fun b o _ _ hc e _=>⟨o.slots,k b o (fun z=>hc (by simp[z])) e⟩) (fun _ _ _ _ n=>n)
    (fun b o hc e=>⟨o,k b o (fun z=>hc (by simp[z])) e⟩) (fun _ _ e=>e) (fun _ _ _ e=>e) (fun b ps e=>⟨#[],by rw[e];simp⟩) (fun m hm=>?_) (fun b u e=>?_) I.bare
  · have e:b=it:=by simpa using hb
    subst e
    exact⟨h1,hL,h2,h3⟩
  · obtain⟨o,es,ep,ho,r⟩:=hm
    exact⟨o,es,ep,k _ o (Ne.symm hL) ho,r⟩
  · refine(I.hok b u e).stay (fun c v hc q=>k c v ?_ q) (fun _ q=>q) fun _ _ q=>q
    rcases hc with z | z
    · rw[z];exact nit b u e
    · exact nit c _ z
theorem Inv.tok (I:Inv X pins σ H s)(t:Nat): Inv X pins σ H { s with toks:=t }:=I.un (h':=s.heap) (t':=t) Un.refl I.hok
theorem Inv.kept {t':Nat}(I:Inv X pins σ H s)(k:∀b u,s.heap.get? b=some u->h'.get? b=some u): Inv X pins σ H { s with heap:=h',toks:=t' }:=I.un (Un.kept k) (I.hok.kept k)
theorem Inv.laid {a:Addr}{o:HO}{t':Nat}(I:Inv X pins σ H s)(k:∀b u,s.heap.get? b=some u->h'.get? b=some u)(hp:s.heap.objs.size<=a)(new:ObjOk X.prog X.w (upd H a o) h' a o):
    Inv X pins σ (upd H a o) { s with heap:=h',toks:=t' }:=I.un (Un.laid k hp (I.hok.fresh hp)) (I.hok.laid k hp new)
theorem Inv.write {x e:Addr}{o:HO}{t':Nat}(I:Inv X pins σ H s)(mu:Mut (H x))(he:e=x\/H e=some (.own x))(k:∀b u,b≠e->s.heap.get? b=some u->h'.get? b=some u)(heo:∃u,h'.get? e=some u)
    (new:ObjOk X.prog X.w (upd H x o) h' x o):Inv X pins σ (upd H x o) { s with heap:=h',toks:=t' }:=I.un (Un.write mu he k heo) (I.hok.write mu he k heo new)
theorem Inv.pins_of {pins':List (Addr×Obj)}(I:Inv X pins σ H s)(h:∀p∈pins',s.heap.get? p.1=some p.2/\H p.1=none/\p.1≠X.env.locals/\p.1∉X.fs/\∀v,p.2.data≠.cell v): Inv X pins' σ H s :=
  ⟨I.ok,I.os,I.bare,I.base,I.loc,I.cell,I.free,I.freeC,fun p hp=>(List.mem_append.mp hp).elim (fun z=>I.pin p (List.mem_append_left _ z)) (h p),I.hok,I.len⟩
theorem nodup_ix {N:List Str}(hN:N.Nodup){i j:Nat}{x:Str}(a:N[i]?=some x)(b:N[j]?=some x): i=j:=by
  obtain⟨h1,e1⟩:=List.getElem?_eq_some_iff.mp a
  obtain⟨h2,e2⟩:=List.getElem?_eq_some_iff.mp b
  exact(List.getElem_inj hN).mp (e1.trans e2.symm)
theorem store_ok2 {M:Model}{A:Around}{E:Value->Shared->Prop}{i:Nat}{x:Str}{v:V}{u:Value}{Q:Unit->Shared->Prop}(I:Inv X pins σ H s)(hN:X.N.Nodup)(hi:X.N[i]?=some x)(hx:Loc X.env.scope x)(r:RelV v u)
    (h:∀s',Inv X pins (σ.set i (some v)) H s'->(∃a,Heap.SameBut a s.heap s'.heap/\(a=X.env.locals\/X.env.cells.lookup x=some a))->Q () s') (hf:X.fn x=true\/X.env.scope.names.lookup x=some .local:=by first | exact .inl rfl | exact .inr rfl | assumption):wpAny M A (storeName X.env x u) Q E s:=by
  obtain⟨m,hn,hl⟩:=id I.loc
  have hcls:(X.env.scope.kind==.class || (X.env.scope.kind==.module&&X.env.locals != X.env.globals))=false:=by rw[I.ok.kind];rfl
  have hiσ:i < σ.length:=by rw[I.len];exact(List.getElem?_eq_some_iff.mp hi).1
  have cne:=I.cne
  have tracked:∀{a:Addr} {h':Heap},(∃o,s.heap.get? a=some o/\H a=none)->Heap.SameBut a s.heap h'->HOk X.prog X.w H h':=fun {a h'} ha hs b ob e=>by
    obtain⟨_,_,hfree⟩:=ha
    refine(I.hok b ob e).stay (fun c w' hc q=>(hs.2 c ?_).trans q) (fun _ q=>q) fun _ _ q=>q
    rintro rfl
    rcases hc with rfl | hc
    · rw[hfree] at e;cases e
    · rw[hfree] at hc;cases hc
  rcases hx with hk | hk
  · refine wpAny_storeName_local hk hn (fun h' hn' hs=>?_) hcls
    obtain⟨oL,_,_,hoL,_⟩:=id hn
    refine h _ ⟨I.ok,I.os,I.bare,⟨fun b o e n hb hx=>?_,fun b o e n hb hx=>?_,I.base.free,fun b o e hx=>?_,I.base.tups,I.base.frzs,I.base.tbls⟩,⟨_,hn',fun j y v' e1 e2 e3=>?_⟩,fun y c e=>?_,I.free,I.freeC,fun p hp=>?_,tracked ⟨oL,hoL,I.free⟩ hs,by simpa using I.len⟩ ⟨_,hs,.inl rfl⟩
    · exact(hs.2 b (Nat.ne_of_lt (Nat.lt_of_lt_of_le (Heap.lt_size e) I.ok.above))).trans (I.base.keep b o e n hb hx)
    · obtain⟨sl,e1⟩:=I.base.slot b o e n hb hx
      exact⟨sl,(hs.2 b (Nat.ne_of_lt (Nat.lt_of_lt_of_le (Heap.lt_size e) I.ok.above))).trans e1⟩
    · obtain⟨o',e1⟩:=I.base.there b o e hx
      exact⟨o',(hs.2 b (Nat.ne_of_lt (Nat.lt_of_lt_of_le (Heap.lt_size e) I.ok.above))).trans e1⟩
    · by_cases hj:j=i
      · subst hj
        rw[hi] at e1;cases e1
        rw[List.getElem?_set_self hiσ] at e2
        cases e2
        exact⟨u,r,.inl ⟨hk,by simp⟩⟩
      · rw[List.getElem?_set_ne (Ne.symm hj)] at e2
        obtain⟨u',r',q⟩:=hl j y v' e1 e2 e3
        refine⟨u',r',?_⟩
        rcases q with ⟨k,e⟩ | ⟨k,c,e,z⟩
        · refine .inl ⟨k,?_⟩
          have:y≠x:=fun e=>hj (nodup_ix hN e1 (e ▸ hi))
          simp[this,e]
        · exact .inr ⟨k,c,e,z.sameBut hs (cne y c e)⟩
    · obtain⟨w',z⟩:=I.cell y c e
      exact⟨w',z.sameBut hs (cne y c e)⟩
    · obtain⟨e,n,ne,nf,d⟩:=I.pin p hp
      exact⟨(hs.2 p.1 ne).trans e,n,ne,nf,d⟩
  · have hfn:X.fn x=true:=by
      rcases hf with z | z
      · exact z
      · rw[z] at hk;cases hk
    obtain⟨c,hc⟩:=I.ok.has x (.inl hk)
    obtain⟨w',z⟩:=I.cell x c hc
    refine wpAny_storeName_cell I.ok.kind hk hc z (fun h' hc' hs=>?_)
    obtain⟨oc,hoc,hocd⟩:=id z
    refine h { s with heap:=h' } ⟨I.ok,I.os,I.bare,⟨fun b o e n hb hx=>?_,fun b o e n hb hx=>?_,I.base.free,fun b o e hx=>?_,I.base.tups,I.base.frzs,I.base.tbls⟩,⟨m,hn.sameBut hs (Ne.symm (cne x c hc)),fun j y v' e1 e2 e3=>?_⟩,fun y c' e=>?_,I.free,I.freeC,fun p hp=>?_,tracked ⟨oc,hoc,I.freeC x c hc⟩ hs,by simpa using I.len⟩ ⟨c,hs,.inr hc⟩
    · exact(hs.2 b (Nat.ne_of_lt (Nat.lt_of_lt_of_le (Heap.lt_size e) (I.ok.cab x c hfn hc)))).trans (I.base.keep b o e n hb hx)
    · obtain⟨sl,e1⟩:=I.base.slot b o e n hb hx
      exact⟨sl,(hs.2 b (Nat.ne_of_lt (Nat.lt_of_lt_of_le (Heap.lt_size e) (I.ok.cab x c hfn hc)))).trans e1⟩
    · obtain⟨o',e1⟩:=I.base.there b o e hx
      exact⟨o',(hs.2 b (Nat.ne_of_lt (Nat.lt_of_lt_of_le (Heap.lt_size e) (I.ok.cab x c hfn hc)))).trans e1⟩
    · by_cases hj:j=i
      · subst hj
        rw[hi] at e1;cases e1
        rw[List.getElem?_set_self hiσ] at e2
        cases e2
        exact⟨u,r,.inr ⟨.inl hk,c,hc,hc'⟩⟩
      · rw[List.getElem?_set_ne (Ne.symm hj)] at e2
        obtain⟨u',r',q⟩:=hl j y v' e1 e2 e3
        refine⟨u',r',?_⟩
        rcases q with q | ⟨k,c',e,z'⟩
        · exact .inl q
        · refine .inr ⟨k,c',e,z'.sameBut hs ?_⟩
          rintro rfl
          exact hj (nodup_ix hN e1 (I.ok.inj _ _ _ e hc ▸ hi))
    · by_cases hcc:c'=c
      · subst hcc;exact⟨_,hc'⟩
      · obtain⟨w2,z2⟩:=I.cell y c' e
        exact⟨w2,z2.sameBut hs hcc⟩
    · obtain⟨e,n,ne,nf,d⟩:=I.pin p hp
      refine⟨(hs.2 p.1 ?_).trans e,n,ne,nf,d⟩
      intro q
      rw[q,hoc] at e
      have q':oc=p.2:=Option.some.inj e
      exact d w' (by rw[<-q'];exact hocd)
theorem store_ok {M:Model}{A:Around}{E:Value->Shared->Prop}{i:Nat}{x:Str}{v:V}{u:Value}{Q:Unit->Shared->Prop}(I:Inv X pins σ H s)(hN:X.N.Nodup)(hi:X.N[i]?=some x)(hx:Loc X.env.scope x)(r:RelV v u)
    (h:∀s',Inv X pins (σ.set i (some v)) H s'->Q () s') (hf:X.fn x=true\/X.env.scope.names.lookup x=some .local:=by first | exact .inl rfl | exact .inr rfl | assumption):wpAny M A (storeName X.env x u) Q E s :=
  store_ok2 I hN hi hx r (fun s' I' _=>h s' I') hf
theorem Inv.call' {s':Shared}{ch:List Addr}(I:Inv X pins σ H s)(ho:s'.os=s.os)(u:Un (frs X.stack) ch H H' s.heap s'.heap)(hok:HOk X.prog X.w H' s'.heap)(hg:AllBare s'.gens)
    (hch:∀b∈ch,(b∈X.ex\/X.s₀.heap.objs.size<=b)/\b≠X.env.locals/\(∀x c,X.env.cells.lookup x=some c->c≠b)/\∀p∈X.pn++pins,p.1≠b):Inv X pins σ H' s':=by
  obtain⟨h',g',d',t',o'⟩:=s'
  have e:o'=s.os:=ho
  subst e
  exact I.call (g':=g') (t':=t') (d':=d') u hok hg hch
end
abbrev XK:=Value->Option Addr->Hp->Prop
abbrev St:=List (Option V)
abbrev VK:=V->Hp->Prop
abbrev TE:=St->Hp->VK->Prop
abbrev TT:=St->Hp->(Bool->Hp->Prop)->Prop
abbrev TA:=St->Hp->(List V->Hp->Prop)->Prop
structure Ends where
  nx:St->Hp->Prop
  rt:VK
  bk:St->Hp->Prop:=fun _ _=>False
  ct:St->Hp->Prop:=fun _ _=>False
abbrev TS:=Ends->St->Hp->Prop
def EP (X:Cx)(pins:List (Addr×Obj))(σ:St)(Q:VK)(u:Value)(s':Shared): Prop:=∃v H',Inv X pins σ H' s'/\RelV v u/\Q v H'
def TP (X:Cx)(pins:List (Addr×Obj))(σ:St)(Q:Bool->Hp->Prop)(b:Bool)(s':Shared): Prop:=∃H',Inv X pins σ H' s'/\Q b H'
def AP (X:Cx)(pins:List (Addr×Obj))(σ:St)(Q:List V->Hp->Prop)(us:List Value)(s':Shared): Prop:=∃vs H',Inv X pins σ H' s'/\Vals vs us/\Q vs H'
def SP (X:Cx)(pins:List (Addr×Obj))(D:Ends)(f:Flow)(s':Shared): Prop :=
  match f with
  | .next=>∃σ' H',Inv X pins σ' H' s'/\D.nx σ' H'
  | .brk=>∃σ' H',Inv X pins σ' H' s'/\D.bk σ' H'
  | .cont=>∃σ' H',Inv X pins σ' H' s'/\D.ct σ' H'
  | .ret u=>∃v σ' H',Inv X pins σ' H' s'/\RelV v u/\D.rt v H'
def PE (X:Cx)(e:Expr)(t:TE): Prop :=
  ∀(pins:List (Addr×Obj)) (s:Shared) (σ:St) (H:Hp) (Q:VK),Inv X pins σ H s->t σ H Q->wpAny (model X.prog X.w) X.A (eval e X.env) (EP X pins σ Q) X.xe s
def PT (X:Cx)(e:Expr)(t:TT): Prop :=
  ∀(pins:List (Addr×Obj)) (s:Shared) (σ:St) (H:Hp) (Q:Bool->Hp->Prop),Inv X pins σ H s->t σ H Q->wpAny (model X.prog X.w) X.A (isTrue e X.env (eval e X.env)) (TP X pins σ Q) X.xe s
def PW (X:Cx)(e:Expr)(t:TT): Prop :=
  ∀(whole:Sem Value) (pins:List (Addr×Obj)) (s:Shared) (σ:St) (H:Hp) (Q:Bool->Hp->Prop),Inv X pins σ H s->t σ H Q->wpAny (model X.prog X.w) X.A (isTrue e X.env whole) (TP X pins σ Q) X.xe s
theorem PW.pt {X:Cx}{e:Expr}{t:TT}(h:PW X e t): PT X e t:=h _
def PA (X:Cx)(es:List Expr)(t:TA): Prop :=
  ∀(pos:Pos) (pins:List (Addr×Obj)) (s:Shared) (σ:St) (H:Hp) (Q:List V->Hp->Prop),Inv X pins σ H s->t σ H Q->wpAny (model X.prog X.w) X.A (spliced (backTo pos (starEach es X.env))) (AP X pins σ Q) X.xe s
def PS (X:Cx)(st:Stmt)(t:TS): Prop :=
  ∀(pins:List (Addr×Obj)) (s:Shared) (σ:St) (H:Hp) (D:Ends),Inv X pins σ H s->t D σ H->wpAny (model X.prog X.w) X.A (exec st X.env) (SP X pins D) X.xe s
def PSs (X:Cx)(st:List Stmt)(t:TS): Prop :=
  ∀(pins:List (Addr×Obj)) (s:Shared) (σ:St) (H:Hp) (D:Ends),Inv X pins σ H s->t D σ H->wpAny (model X.prog X.w) X.A (execs st X.env) (SP X pins D) X.xe s
theorem thn {α:Type}{t:Sem α}{Q Q':α->Shared->Prop}{M:Model}{A:Around}{E:Value->Shared->Prop}{s:Shared}(h:wpAny M A t Q E s)(hQ:∀a s,Q a s->Q' a s): wpAny M A t Q' E s:=wpAny_mono h hQ fun _ _ x=>x
end L2
namespace L2
open PySem PySem.Spec PyProof.Rows
section
variable {X:Cx}
def tVar (i:Nat): TE:=fun σ H Q=>∃v,σ[i]?=some (some v)/\Q v H
def tC (v:V): TE:=fun _ H Q=>Q v H
theorem pe_var {i:Nat} {x:Str} {pos:Pos} (hN:X.N[i]?=some x) (hv:Vis X.env.scope x) (hd:(x==("__debug__" : Str))=false:=by decide) (hcd:(x==("__classdict__" : Str))=false:=by decide):PE X (.Name x pos) (tVar i):=by
  intro pins s σ H Q I h
  obtain⟨v,e,h⟩:=h
  obtain⟨m,hn,hl⟩:=I.loc
  obtain⟨u,r,l⟩:=hl i x v hN e hv
  have fin:EP X pins σ Q u s:=⟨v,H,I,r,h⟩
  rcases l with ⟨hk,hm⟩ | ⟨hk,c,hc,hcell⟩
  · exact wpAny_Name (wpAny_loadName_local I.ok.kind hk hn hm fin) hd
  · rcases hk with hk | hk
    · exact wpAny_Name (wpAny_loadName_cell I.ok.kind hk hc hcell fin) hd
    · exact wpAny_Name (wpAny_loadName_free I.ok.kind hk hc hcell fin hcd) hd
theorem pe_int {i j pos}: PE X (.Constant (.int i) j pos) (tC (.int i)):=fun _ _ _ H _ I h=>wpAny_Constant_int ⟨.int i,H,I.tok _,⟨_,rfl⟩,h⟩
theorem pe_bl {b j pos}: PE X (.Constant (.bool b) j pos) (tC (.bl b)):=fun _ _ _ H _ I h=>Constant_bool ⟨.bl b,H,I,rfl,h⟩
theorem pe_non {j pos}: PE X (.Constant .none j pos) (tC .non):=fun _ _ _ H _ I h=>Constant_none ⟨.non,H,I,rfl,h⟩
theorem pe_str {x j pos}: PE X (.Constant (.str x) j pos) (tC (.str x)):=fun _ _ _ H _ I h=>Calls.Constant_str ⟨.str x,H,I.tok _,⟨_,rfl⟩,h⟩
def Gl (X:Cx)(x:Str): Prop:=X.env.kindOf x=some .globalImplicit
theorem ld_glob {E:Value->Shared->Prop}{pins:List (Addr×Obj)}{s:Shared}{σ:St}{H:Hp}{x:Str}{u:Value}{pos:Pos}{Q:Value->Shared->Prop}(I:Inv X pins σ H s)(hg:Gl X x)(hm:X.mg x=some u)(h:Q u s)
    (hd:(x==("__debug__" : Str))=false:=by decide):wpAny (model X.prog X.w) X.A (eval (.Name x pos) X.env) Q E s :=
  Calls.Name_function_global I.ok.kind hg (Calls.loadGlobal_global (by rw[I.ok.glob];exact I.mod.glob.keeps I.bk) hm h) hd
theorem ld_blt {E:Value->Shared->Prop}{pins:List (Addr×Obj)}{s:Shared}{σ:St}{H:Hp}{x:Str}{u:Value}{pos:Pos}{Q:Value->Shared->Prop}(I:Inv X pins σ H s)(hg:Gl X x)(hm:X.mg x=none)(hv:bootBuiltins x=some u)(h:Q u s)
    (hn:x ≠ "__name__" := by decide) (hd:(x==("__debug__" : Str))=false:=by decide):wpAny (model X.prog X.w) X.A (eval (.Name x pos) X.env) Q E s:=by
  obtain⟨mb,h1,h2⟩:=I.mod.blt
  exact Calls.Name_function_global I.ok.kind hg (Calls.loadGlobal_builtin (by rw[I.ok.glob];exact I.mod.glob.keeps I.bk) hm (by rw[I.ok.blt];exact h1.keeps I.bk) ((h2 x hn).trans hv) h) hd
theorem pe_glob {x:Str} {v:V} {u:Value} {pos:Pos} (hg:Gl X x) (hm:X.mg x=some u) (r:RelV v u) (hd:(x==("__debug__" : Str))=false:=by decide):PE X (.Name x pos) (tC v) :=
  fun _ _ _ H _ I h=>ld_glob I hg hm ⟨v,H,I,r,h⟩ hd
theorem pe_bltn {x:Str} {v:V} {u:Value} {pos:Pos} (hg:Gl X x) (hm:X.mg x=none) (hv:bootBuiltins x=some u) (r:RelV v u) (hn:x ≠ "__name__" := by decide) (hd:(x==("__debug__" : Str))=false:=by decide):PE X (.Name x pos) (tC v) :=
  fun _ _ _ H _ I h=>ld_blt I hg hm hv ⟨v,H,I,r,h⟩ hn hd
variable {a b:Expr}{ta tb:TE}{pos:Pos}
def tB (t:TE): TT:=fun σ H Q=>t σ H fun x H1=>∃c,x=.bl c/\Q c H1
theorem pt_val {e:Expr}{t:TE}(h:PE X e t)(he:∀whole,isTrue e X.env whole=(do let v <-whole;standAt e.pos;holding [v] (truthy v)):=by intro _;rfl): PT X e (tB t):=by
  intro pins s σ H Q I hw
  refine isTrue_plain (thn (h pins s σ H _ I hw) fun v s1 ⟨x,H1,I1,r1,q1⟩=>?_) (he _)
  obtain⟨d,rfl,q⟩:=q1
  cases r1
  exact wpAny_truthy_bool ⟨H1,I1,q⟩
variable {tA tB':TT}{rest:List Expr}
def tAnd (t u:TT): TT:=fun σ H Q=>t σ H fun c H1=>if c=true then u σ H1 Q else Q false H1
def tOr (t u:TT): TT:=fun σ H Q=>t σ H fun c H1=>if c=true then Q true H1 else u σ H1 Q
def tNot (t:TT): TT:=fun σ H Q=>t σ H fun c H1=>Q (!c) H1
theorem pw_and1 (ha:PT X a tA): PW X (.BoolOp .And [a] pos) tA:=by
  intro wh pins s σ H Q I h
  refine isTrue_and (thn (ha pins s σ H Q I h) fun c s1 e=>?_)
  cases c with
  | true=>exact isTrue_and_nil e
  | false=>exact e
theorem pw_or1 (ha:PT X a tA): PW X (.BoolOp .Or [a] pos) tA:=by
  intro wh pins s σ H Q I h
  refine isTrue_or (thn (ha pins s σ H Q I h) fun c s1 e=>?_)
  cases c with
  | false=>exact isTrue_or_nil e
  | true=>exact e
theorem pw_and (ha:PT X a tA)(hb:PW X (.BoolOp .And (b::rest) pos) tB'): PW X (.BoolOp .And (a::b::rest) pos) (tAnd tA tB'):=by
  intro wh pins s σ H Q I h
  refine isTrue_and (thn (ha pins s σ H _ I h) fun c s1 ⟨H1,I1,q1⟩=>?_)
  cases c with
  | true=>exact hb wh pins s1 σ H1 Q I1 q1
  | false=>exact⟨H1,I1,q1⟩
theorem pw_or (ha:PT X a tA)(hb:PW X (.BoolOp .Or (b::rest) pos) tB'): PW X (.BoolOp .Or (a::b::rest) pos) (tOr tA tB'):=by
  intro wh pins s σ H Q I h
  refine isTrue_or (thn (ha pins s σ H _ I h) fun c s1 ⟨H1,I1,q1⟩=>?_)
  cases c with
  | true=>exact⟨H1,I1,q1⟩
  | false=>exact hb wh pins s1 σ H1 Q I1 q1
theorem pt_not (ha:PT X a tA): PT X (.UnaryOp .Not a pos) (tNot tA):=by
  intro pins s σ H Q I h
  exact isTrue_not (ha pins s σ H (fun c H1=>Q (!c) H1) I h)
def tAndV (ta tb:TE): TE:=fun σ H Q=>ta σ H fun x H1=>∃c,x=.bl c/\if c=true then tb σ H1 Q else Q (.bl false) H1
def tNotV (ta:TE): TE:=fun σ H Q=>ta σ H fun x H1=>∃c,x=.bl c/\Q (.bl (!c)) H1
theorem pe_one {op}{t:TE}(h:PE X a t): PE X (.BoolOp op [a] pos) t:=fun pins s σ H Q I hw=>BoolOp_one (h pins s σ H Q I hw)
theorem pe_and (ha:PE X a ta)(hb:PE X (.BoolOp .And (b::rest) pos) tb): PE X (.BoolOp .And (a::b::rest) pos) (tAndV ta tb):=by
  intro pins s σ H Q I h
  refine BoolOp_and (thn (ha pins s σ H _ I h) fun v s1 ⟨x,H1,I1,r1,q1⟩=>?_)
  obtain⟨c,rfl,q1⟩:=q1
  cases r1
  refine wpAny_truthy_bool ?_
  cases c with
  | true=>exact hb pins s1 σ H1 Q I1 q1
  | false=>exact⟨.bl false,H1,I1,rfl,q1⟩
theorem pe_not (ha:PE X a ta): PE X (.UnaryOp .Not a pos) (tNotV ta):=by
  intro pins s σ H Q I h
  refine UnaryOp_ (thn (ha pins s σ H _ I h) fun v s1 ⟨x,H1,I1,r1,q1⟩=>?_)
  obtain⟨c,rfl,q1⟩:=q1
  cases r1
  exact not_of (wpAny_truthy_bool ⟨.bl (!c),H1,I1,rfl,q1⟩)
end
end L2
namespace L2
open PySem PySem.Spec PyProof.Rows
def SqL (K:PySem.W.Frag)(H:Hp)(a:Addr)(xs:List V): Prop :=
  Rd H a (.lst xs) ∨
    ∃(o:Obj) (its:Array Value) (n:Nat),K.lookup a=some o/\o.cls=.type "list" ∧ o.dict=none/\o.data=.seq its n/\its.size<=sizeLine/\Vals xs its.toList
def SqT (K:PySem.W.Frag)(H:Hp)(a:Addr)(xs:List V): Prop :=
  Rd H a (.tup xs) ∨
    ∃(o:Obj) (its:Array Value) (n:Nat),K.lookup a=some o/\o.cls=.type "tuple" ∧ o.data=.seq its n/\its.size<=sizeLine/\Vals xs its.toList
def absV:Value->Option V
  | .none=>some .non
  | .bool b=>some (.bl b)
  | .int i _=>some (.int i)
  | .str x _=>some (.str x)
  | .bytes b _=>some (.byt b)
  | .float b _=>some (.flt b)
  | .ref a=>some (.ref a)
  | .type n=>some (.ty n)
  | _=>none
theorem RelV.abs {x:V}{u:Value}(r:RelV x u): absV u=some x:=by
  cases x with
  | non=>cases r;rfl
  | bl _=>cases r;rfl
  | int _=>obtain⟨t,rfl⟩:=r;rfl
  | str _=>obtain⟨t,rfl⟩:=r;rfl
  | byt _=>obtain⟨t,rfl⟩:=r;rfl
  | flt _=>obtain⟨t,rfl⟩:=r;rfl
  | ref _=>cases r;rfl
  | ty _=>cases r;rfl
theorem RelV.inj {x y:V}{u:Value}(r:RelV x u)(q:RelV y u): x=y:=Option.some.inj (r.abs.symm.trans q.abs)
theorem Vals.inj:∀{xs ys:List V} {us:List Value},Vals xs us->Vals ys us->xs=ys
  | _,_,_,.nil,.nil=>rfl
  | _,_,_,.cons r t,.cons r' t'=>by rw[r.inj r',Vals.inj t t']
section
variable {X:Cx}{pins:List (Addr×Obj)}{σ:St}{H:Hp}{s:Shared}{a:Addr}{xs ys:List V}
theorem SqL.of {K:PySem.W.Frag}(h:H a=some (.lst xs)): SqL K H a xs:=.inl (.inl h)
theorem SqT.of {K:PySem.W.Frag}(h:H a=some (.tup xs)): SqT K H a xs:=.inl (.inl h)
theorem Inv.list (I:Inv X pins σ H s)(h:SqL X.K H a xs): ∃its:List Value,Vals xs its/\PlainL s.heap a its.toArray/\xs.length<=sizeLine:=by
  rcases h with h | ⟨o,its,n,hk,hc,hd,hs,hz,r⟩
  · obtain⟨z,its,n,r,e⟩:=h.ok I.hok
    exact⟨its,r,⟨_,n,e,rfl,rfl,rfl⟩,z⟩
  · refine⟨its.toList,r,⟨o,n,I.kIn a o hk,hc,hd,by simpa using hs⟩,?_⟩
    have e:=r.length
    simp only [Array.length_toList] at e
    omega
theorem Inv.tuple (I:Inv X pins σ H s)(h:SqT X.K H a xs): ∃its:List Value,Vals xs its/\IsTup s.heap a its.toArray/\xs.length<=sizeLine:=by
  rcases h with h | ⟨o,its,n,hk,hc,hs,hz,r⟩
  · obtain⟨z,its,r,p⟩:=h.ok I.hok
    exact⟨its,r,p,z⟩
  · refine⟨its.toList,r,⟨o,I.kIn a o hk,hc,n,by simpa using hs⟩,?_⟩
    have e:=r.length
    simp only [Array.length_toList] at e
    omega
theorem Inv.list_inj (I:Inv X pins σ H s)(h:SqL X.K H a xs)(h':SqL X.K H a ys): xs=ys:=by
  obtain⟨its,r,⟨o,n,e,_,_,d⟩,_⟩:=I.list h
  obtain⟨its',r',⟨o',n',e',_,_,d'⟩,_⟩:=I.list h'
  rw[e] at e';cases e'
  rw[d] at d'
  injection d' with d1 _
  have:its=its':=by simpa using congrArg Array.toList d1
  subst this
  exact r.inj r'
theorem Inv.tuple_inj (I:Inv X pins σ H s)(h:SqT X.K H a xs)(h':SqT X.K H a ys): xs=ys:=by
  obtain⟨its,r,⟨o,e,_,n,d⟩,_⟩:=I.tuple h
  obtain⟨its',r',⟨o',e',_,n',d'⟩,_⟩:=I.tuple h'
  rw[e] at e';cases e'
  rw[d] at d'
  injection d' with d1 _
  have:its=its':=by simpa using congrArg Array.toList d1
  subst this
  exact r.inj r'
end
section
variable {X:Cx}{pins:List (Addr×Obj)}{σ:St}{H:Hp}{s:Shared}{E:Value->Shared->Prop}
end
section
variable {X:Cx}{st:Stmt}{rest:List Stmt}{t u:TS}{e:Expr}{te:TE}{pos:Pos}
def tNext:TS:=fun D σ H=>D.nx σ H
def tSeq (t u:TS): TS:=fun D σ H=>t { D with nx:=u D } σ H
theorem pss_nil:PSs X [] tNext:=fun _ _ σ H _ I h=>wpAny_execs_nil ⟨σ,H,I,h⟩
theorem pss_cons (h1:PS X st t)(h2:PSs X rest u): PSs X (st::rest) (tSeq t u):=by
  intro pins s σ H D I h
  refine wpAny_execs_cons (thn (h1 pins s σ H { D with nx:=u D } I h) fun f s1 q=>?_)
  cases f with
  | next =>
    obtain⟨σ',H',I',q⟩:=q
    exact h2 pins s1 σ' H' D I' q
  | ret v=>exact q
  | brk=>exact q
  | cont=>exact q
theorem pss_one (h1:PS X st t): PSs X [st] t:=by
  intro pins s σ H D I h
  refine wpAny_execs_cons (thn (h1 pins s σ H D I h) fun f s1 q=>?_)
  cases f with
  | next=>exact wpAny_execs_nil q
  | ret v=>exact q
  | brk=>exact q
  | cont=>exact q
def tBreak:TS:=fun D σ H=>D.bk σ H
theorem ps_break:PS X (.Break pos) tBreak:=fun _ _ σ H _ I h=>wpAny_Break ⟨σ,H,I,h⟩
theorem Inv.quiet {pins:List (Addr×Obj)}{σ:St}{H:Hp}{s:Shared}(I:Inv X pins σ H s): interactive X.env=false:=by simp[interactive,I.ok.kind]
def tDrop (te:TE): TS:=fun D σ H=>te σ H fun _ H1=>D.nx σ H1
theorem ps_expr (he:PE X e te)(hs:swapsWith e none pos.line X.env=pure false:=by rfl): PS X (.Expr e pos) (tDrop te):=by
  intro pins s σ H D I h
  exact wpAny_Expr_any (thn (he pins s σ H _ I h) fun v s1 ⟨x,H1,I1,r1,q1⟩=>⟨σ,H1,I1,q1⟩) I.quiet hs
def tRet (te:TE): TS:=fun D σ H=>te σ H D.rt
theorem ps_ret (he:PE X e te): PS X (.Return (some e) pos) (tRet te):=by
  intro pins s σ H D I h
  exact wpAny_Return_some (thn (he pins s σ H _ I h) fun v s1 ⟨x,H1,I1,r1,q1⟩=>⟨x,σ,H1,I1,r1,q1⟩)
def tIfS (c:TT)(t u:TS): TS:=fun D σ H=>c σ H fun b H1=>if b=true then t D σ H1 else u D σ H1
theorem ps_if {c:Expr}{a b:List Stmt}{tc:TT}(hc:PT X c tc)(ha:PSs X a t)(hb:PSs X b u): PS X (.If c a b pos) (tIfS tc t u):=by
  intro pins s σ H D I h
  refine wpAny_If (thn (hc pins s σ H _ I h) fun d s1 ⟨H1,I1,q1⟩=>?_)
  cases d with
  | true=>exact ha pins s1 σ H1 D I1 q1
  | false=>exact hb pins s1 σ H1 D I1 q1
end
abbrev TG:=V->St->Hp->(St->Hp->Prop)->Prop
abbrev TGs:=List V->St->Hp->(St->Hp->Prop)->Prop
def PG (X:Cx)(target:Expr)(t:TG): Prop :=
  ∀(pins:List (Addr×Obj)) (s:Shared) (σ:St) (H:Hp) (v:V) (u:Value) (Q:St->Hp->Prop),Inv X pins σ H s->RelV v u->t v σ H Q ->
    wpAny (model X.prog X.w) X.A (assign target X.env u) (fun _ s'=>∃σ' H',Inv X pins σ' H' s'/\Q σ' H') X.xe s
def PGs (X:Cx)(ts:List Expr)(t:TGs): Prop :=
  ∀(pins:List (Addr×Obj)) (s:Shared) (σ:St) (H:Hp) (vs:List V) (us:List Value) (Q:St->Hp->Prop),Inv X pins σ H s->Vals vs us->t vs σ H Q ->
    wpAny (model X.prog X.w) X.A (assignInOrder ((assignEach ts X.env).map (·.2)) us) (fun _ s'=>∃σ' H',Inv X pins σ' H' s'/\Q σ' H') X.xe s
section
variable {X:Cx}{pos:Pos}
def gName (i:Nat): TG:=fun v σ H Q=>Q (σ.set i (some v)) H
theorem pg_name {i:Nat}{x:Str}(hN:X.N.Nodup)(hi:X.N[i]?=some x)(hx:Loc X.env.scope x)(hf:X.fn x=true\/X.env.scope.names.lookup x=some .local:=by first | exact .inl rfl | exact .inr rfl | assumption): PG X (.Name x pos) (gName i):=by
  intro pins s σ H v u Q I r h
  exact wpAny_assign_Name (store_ok I hN hi hx r (fun s' I'=>⟨_,H,I',h⟩) hf)
def gNil:TGs:=fun vs σ H Q=>vs=[]/\Q σ H
def gCons (t:TG)(u:TGs): TGs:=fun vs σ H Q=>∃v r,vs=v::r/\t v σ H fun σ' H'=>u r σ' H' Q
theorem pgs_nil:PGs X [] gNil:=by
  intro pins s σ H vs us Q I r h
  obtain⟨e,h⟩:=h
  subst e
  cases r
  exact assignInOrder_nil ⟨σ,H,I,h⟩
theorem pgs_cons {e:Expr}{es:List Expr}{t:TG}{u:TGs}(h1:PG X e t)(h2:PGs X es u)
    (hs:(assignEach (e::es) X.env).map (·.2)=assign e X.env::(assignEach es X.env).map (·.2):=by rfl):PGs X (e::es) (gCons t u):=by
  intro pins s σ H vs us Q I r h
  obtain⟨v,vr,e1,h⟩:=h
  subst e1
  cases r with
  | cons r rr =>
    rw[hs]
    refine assignInOrder_cons (thn (h1 pins s σ H _ _ _ I r h) fun _ s1 ⟨σ1,H1,I1,q1⟩=>?_)
    exact h2 pins s1 σ1 H1 _ _ Q I1 rr q1
def gTup (K:PySem.W.Frag)(n:Nat)(t:TGs): TG:=fun v σ H Q=>∃a xs,v=.ref a/\SqT K H a xs/\xs.length=n/\t xs σ H Q
theorem pg_tup {es:List Expr}{k:Nat}{t:TGs}{n:Nat}(hc:X.calm=true)(h:PGs X es t)
    (hn:(assignEach es X.env).length=n:=by rfl) (hst:(assignEach es X.env).findIdx? (·.1)=none:=by rfl):PG X (.Tuple es k pos) (gTup X.K n t):=by
  intro pins s σ H v u Q I r hw
  obtain⟨a,xs,e1,hq,hl,hw⟩:=hw
  subst e1
  cases r
  obtain⟨its,rv,ht,hz⟩:=I.tuple hq
  refine assign_Tuple_tuple (I.ok.hd hc) ht (by simp[hn,<-hl,rv.length]) hst fun h' hx=>?_
  have I1:Inv X pins σ H { s with heap:=h' }:=I.kept (t':=s.toks) fun b o e=>hx b o (Nat.ne_of_lt (Heap.lt_size e)) e
  exact h pins _ σ H xs _ Q I1 (by simpa using rv) hw
def tAsg (te:TE)(g:TG): TS:=fun D σ H=>te σ H fun x H1=>g x σ H1 D.nx
theorem ps_asg {tg e:Expr}{te:TE}{g:TG}(he:PE X e te)(hg:PG X tg g)(hs:swapsWithSole [tg] e pos.line X.env=pure false:=by rfl)(hw:swappedStores [tg] e X.env=pure none:=by rfl)
    (h1:(assignEach [tg] X.env).map (·.2)=[assign tg X.env]:=by rfl):PS X (.Assign [tg] e pos) (tAsg te g):=by
  intro pins s σ H D I h
  refine wpAny_Assign_stores (thn (he pins s σ H _ I h) fun v s1 ⟨x,H1,I1,r1,q1⟩=>?_) hs hw
  rw[h1]
  exact thn (hg pins s1 σ H1 x v _ I1 r1 q1) fun _ s2 q=>q
theorem ps_set {i:Nat}{x:Str}{e:Expr}{te:TE}{pos':Pos}(hN:X.N.Nodup)(hi:X.N[i]?=some x)(hx:Loc X.env.scope x)(he:PE X e te)(hs:swapsWith e (some (.Name x pos')) pos.line X.env=pure false:=by rfl)(hf:X.fn x=true\/X.env.scope.names.lookup x=some .local:=by first | exact .inl rfl | exact .inr rfl | assumption):
    PS X (.Assign [.Name x pos'] e pos) (tAsg te (gName i)):=by
  intro pins s σ H D I h
  refine wpAny_Assign_Name (thn (he pins s σ H _ I h) fun v s1 ⟨y,H1,I1,r1,q1⟩=>?_) hs
  exact store_ok I1 hN hi hx r1 (fun s2 I2=>⟨_,H1,I2,q1⟩) hf
end
section
variable {X:Cx}{pos:Pos}
end
structure It where
  go:Nat->Hp->Prop
  yld:Nat->Hp->V->Hp->Prop
  stop:Nat->Hp->Prop
def FpOk (X:Cx)(pins:List (Addr×Obj))(H:Hp)(b:Addr): Prop :=
  H b=none/\b≠X.env.locals/\b∉X.fs/\(b∈X.ex\/X.s₀.heap.objs.size<=b)/\(∀x c,X.env.cells.lookup x=some c->c≠b)/\∀p∈X.pn++pins,p.1≠b
theorem Inv.fpOk {X:Cx}{pins:List (Addr×Obj)}{σ:St}{H H':Hp}{s:Shared}{b:Addr}(I:Inv X pins σ H s)(hb:s.heap.objs.size<=b)(hn:H' b=none): FpOk X pins H' b:=by
  refine⟨hn,Nat.ne_of_gt (Nat.lt_of_lt_of_le I.lt hb),I.nofs hb,.inr (Nat.le_trans I.sz hb),fun x c e z=>?_,fun p hp z=>?_⟩
  · obtain⟨v,q⟩:=I.cell x c e
    exact absurd (Nat.lt_of_lt_of_le q.lt (by rw[z];exact hb)) (Nat.lt_irrefl _)
  · exact absurd (Nat.lt_of_lt_of_le (Heap.lt_size (I.pin p hp).1) (by rw[z];exact hb)) (Nat.lt_irrefl _)
structure Turn (P:Program)(w:World)(K:PySem.W.Frag)(tg:Expr)(J:It)(fp:List Addr)(it:Addr)(tn:Nat->Heap->Prop): Prop where
  mem:it∈fp
  obj:∀i h,tn i h->∀b∈fp,∃o,h.get? b=some o/\∀v,o.data≠.cell v
  keep:∀i h h',tn i h->(∀b∈fp,∀o,h.get? b=some o->h'.get? b=some o)->tn i h'
  item:∀(X:Cx),X.prog=P->X.w=w->X.K=K->X.calm=true->∀(i:Nat) (pins:List (Addr×Obj)) (s:Shared) (σ:St) (H:Hp) (E:Value->Shared->Prop),Inv X pins σ H s->(∀b∈fp,FpOk X pins H b)->tn i s.heap->J.go i H ->
    wpAny (model P w) X.A (pyNext (.ref it)) (fun r s1=>∃u,r=some u ∧
      wpAny (model P w) X.A (letOwnedTupleGo tg (.ref it) u) (fun _ s2=>∃x H',Inv X pins σ H' s2/\RelV x u/\J.yld i H x H'/\tn (i+1) s2.heap/\∀b∈fp,H' b=none) E s1) E s
  done:∀(X:Cx),X.prog=P->X.w=w->X.K=K->X.calm=true->∀(i:Nat) (pins:List (Addr×Obj)) (s:Shared) (σ:St) (H:Hp) (E:Value->Shared->Prop),Inv X pins σ H s->(∀b∈fp,FpOk X pins H b)->tn i s.heap->J.stop i H ->
    wpAny (model P w) X.A (pyNext (.ref it)) (fun r s1=>r=none/\Inv X pins σ H s1) E s
  self:∀(A:Around) (i:Nat) (s:Shared) (Q:Value->Shared->Prop) (E:Value->Shared->Prop),tn i s.heap->Q (.ref it) s->wpAny (model P w) A (pyIter (.ref it)) Q E s
abbrev TI:=St->Hp->(It->Hp->Prop)->Prop
def PIE (X:Cx)(pins:List (Addr×Obj))(σ:St)(tg:Expr)(R:It->Hp->Prop)(itv:Value)(s2:Shared): Prop :=
  ∃(it:Addr) (fp:List Addr) (tn:Nat->Heap->Prop) (J:It) (H':Hp),itv=.ref it/\Inv X pins σ H' s2/\Turn X.prog X.w X.K tg J fp it tn/\tn 0 s2.heap/\(∀b∈fp,FpOk X pins H' b)/\R J H'
def PI (X:Cx)(tg iter:Expr)(wi:TI): Prop :=
  ∀(pins:List (Addr×Obj)) (s:Shared) (σ:St) (H:Hp) (R:It->Hp->Prop),Inv X pins σ H s->wi σ H R ->
    wpAny (model X.prog X.w) X.A (eval iter X.env) (fun v s1=>wpAny (model X.prog X.w) X.A (pyIter v) (PIE X pins σ tg R) X.xe s1) X.xe s
theorem go_of {M:Model}{A:Around}{E:Value->Shared->Prop}{s:Shared}{tg:Expr}{it:Addr}{u:Value}{o:Obj}{n:String}{vs:Array Value}{Q:Unit->Shared->Prop}(ho:s.heap.get? it=some o)(hc:o.cls=.type n)(hd:o.data=.fields vs)
    (hn:["enumerate", "zip", "dict_itemiterator", "dict_reverseitemiterator", "odict_iterator", "itertools.zip_longest", "itertools.pairwise"].contains n=false) (hQ:Q () s):wpAny M A (letOwnedTupleGo tg (.ref it) u) Q E s:=by
  unfold letOwnedTupleGo
  cases tg<;>first
    | exact wpAny_pure hQ
    | (cases u<;>first
        | exact wpAny_pure hQ
        | (refine wpAny_bind (wpAny_load ho ?_)
           rw[hc,hd]
           show wpAny M A (if (["enumerate", "zip", "dict_itemiterator", "dict_reverseitemiterator", "odict_iterator", "itertools.zip_longest", "itertools.pairwise"].contains n&&vs[0]?==some (rawInt _))=true then _ else _) Q E s
           rw[if_neg (by intro h;rw[hn,Bool.false_and] at h;cases h)]
           exact wpAny_pure hQ))
def Itl (K:PySem.W.Frag)(a:Addr): It :=
  ⟨fun i H=>∃xs x,SqL K H a xs/\xs[i]?=some x,fun i H x H'=>H'=H/\∀xs,SqL K H a xs->xs[i]?=some x,fun i H=>∃xs,SqL K H a xs/\xs.length<=i⟩
def Itt (K:PySem.W.Frag)(a:Addr): It :=
  ⟨fun i H=>∃xs x,SqT K H a xs/\xs[i]?=some x,fun i H x H'=>H'=H/\∀xs,SqT K H a xs->xs[i]?=some x,fun i H=>∃xs,SqT K H a xs/\xs.length<=i⟩
def Itr (lo:Int)(n:Nat): It:=⟨fun i _=>i < n,fun i H x H'=>H'=H/\x=.int (lo+i),fun i _=>n<=i⟩
theorem turn_list {P:Program}{w:World}{K:PySem.W.Frag}{tg:Expr}(a it:Addr): Turn P w K tg (Itl K a) [it] it (fun i h=>h.IsListIter it a i) where
  mem:=by simp
  obj:=fun i h st b hb=>by
    have e:b=it:=by simpa using hb
    subst e
    obtain⟨o,e,c,d⟩:=st
    exact⟨o,e,fun v z=>by rw[d] at z;cases z⟩
  keep:=fun i h h' st k=>st.at fun o e=>k it (by simp) o e
  item:=by
    intro X hP hw hK hc i pins s σ H E I hf st hg
    subst hP hw hK
    obtain⟨xs,x,hq,hx⟩:=hg
    obtain⟨its,rv,p,hz⟩:=I.list hq
    obtain⟨u,hu,ru⟩:=rv.get hx
    obtain⟨f0,f1,f2,f3,f4,f5⟩:=hf it (by simp)
    refine wpAny_pyNext_list_item st p.isList (x:=u) (by simpa using hu) fun h' st' sb=>?_
    have I1:Inv X pins σ H { s with heap:=h' }:=I.turned (t':=s.toks) (fun b o hb e=>(sb.2 b hb).trans e) f0 f1 f3 f4 f5
    obtain⟨o,e,c,d⟩:=id st'
    exact⟨u,rfl,go_of (s:={ s with heap:=h' }) e c d (by decide) ⟨x,H,I1,ru,⟨rfl,fun ys hy=>by rw[I.list_inj hy hq];exact hx⟩,st',fun b hb=>(hf b hb).1⟩⟩
  done:=by
    intro X hP hw hK hc i pins s σ H E I hf st hg
    subst hP hw hK
    obtain⟨xs,hq,hx⟩:=hg
    obtain⟨its,rv,p,hz⟩:=I.list hq
    obtain⟨f0,f1,f2,f3,f4,f5⟩:=hf it (by simp)
    have hl:=rv.length
    exact wpAny_pyNext_list_end (I.ok.hd hc) st p.isList (by simp;omega) fun h' eb=>⟨rfl,I.turned (t':=s.toks) (fun b o hb e=>eb b o hb e) f0 f1 f3 f4 f5⟩
  self:=fun _ _ _ _ _ st h=>wpAny_pyIter_listiter st h
theorem turn_tuple {P:Program}{w:World}{K:PySem.W.Frag}{tg:Expr}(a it:Addr): Turn P w K tg (Itt K a) [it] it (fun i h=>h.IsTupleIter it a i) where
  mem:=by simp
  obj:=fun i h st b hb=>by
    have e:b=it:=by simpa using hb
    subst e
    obtain⟨o,e,c,d⟩:=st
    exact⟨o,e,fun v z=>by rw[d] at z;cases z⟩
  keep:=fun i h h' st k=>st.at fun o e=>k it (by simp) o e
  item:=by
    intro X hP hw hK hc i pins s σ H E I hf st hg
    subst hP hw hK
    obtain⟨xs,x,hq,hx⟩:=hg
    obtain⟨its,rv,p,hz⟩:=I.tuple hq
    obtain⟨u,hu,ru⟩:=rv.get hx
    obtain⟨f0,f1,f2,f3,f4,f5⟩:=hf it (by simp)
    refine wpAny_pyNext_tuple_item st (show s.heap.IsTuple a its.toArray from p) (x:=u) (by simpa using hu) fun h' st' sb=>?_
    have I1:Inv X pins σ H { s with heap:=h' }:=I.turned (t':=s.toks) (fun b o hb e=>(sb.2 b hb).trans e) f0 f1 f3 f4 f5
    obtain⟨o,e,c,d⟩:=id st'
    exact⟨u,rfl,go_of (s:={ s with heap:=h' }) e c d (by decide) ⟨x,H,I1,ru,⟨rfl,fun ys hy=>by rw[I.tuple_inj hy hq];exact hx⟩,st',fun b hb=>(hf b hb).1⟩⟩
  done:=by
    intro X hP hw hK hc i pins s σ H E I hf st hg
    subst hP hw hK
    obtain⟨xs,hq,hx⟩:=hg
    obtain⟨its,rv,p,hz⟩:=I.tuple hq
    obtain⟨f0,f1,f2,f3,f4,f5⟩:=hf it (by simp)
    have hl:=rv.length
    exact wpAny_pyNext_tuple_end (I.ok.hd hc) st (show s.heap.IsTuple a its.toArray from p) (by simp;omega) fun h' eb=>⟨rfl,I.turned (t':=s.toks) (fun b o hb e=>eb b o hb e) f0 f1 f3 f4 f5⟩
  self:=fun _ _ _ _ _ st h=>wpAny_pyIter_tupleiter st h
theorem turn_range {P:Program}{w:World}{K:PySem.W.Frag}{tg:Expr}(it:Addr)(lo:Int)(n:Nat): Turn P w K tg (Itr lo n) [it] it (fun i h=>IsRangeIter h it (lo+(i:Nat)*1) ((n:Int)-(i:Nat)) 1) where
  mem:=by simp
  obj:=fun i h st b hb=>by
    have e:b=it:=by simpa using hb
    subst e
    exact⟨_,st,fun v z=>by
      have z':Data.fields _=Data.cell v:=z
      cases z'⟩
  keep:=fun i h h' st k=>k it (by simp) _ st
  item:=by
    intro X hP hw hK hc i pins s σ H E I hf st hg
    subst hP hw hK
    obtain⟨f0,f1,f2,f3,f4,f5⟩:=hf it (by simp)
    have W:=Walks.range (prog:=X.prog) (w:=X.w) (I.ok.hd hc) it lo 1 n
    refine W.item i s _ _ hg st fun v h' tk hv st' kk=>?_
    obtain⟨t,rfl⟩:=hv
    have I1:Inv X pins σ H { s with heap:=h',toks:=tk }:=I.turned (fun b o hb e=>kk b o (by simpa using hb) e) f0 f1 f3 f4 f5
    refine⟨_,rfl,go_of (s:={ s with heap:=h',toks:=tk }) (n := "range_iterator") st' rfl rfl (by decide) ⟨.int (lo+i),H,I1,⟨t,?_⟩,⟨rfl,rfl⟩,st',fun b hb=>(hf b hb).1⟩⟩
    rw[Int.mul_one]
  done:=by
    intro X hP hw hK hc i pins s σ H E I hf st hg
    subst hP hw hK
    obtain⟨f0,f1,f2,f3,f4,f5⟩:=hf it (by simp)
    exact wpAny_pyNext_range_end (I.ok.hd hc) st (by have:n<=i:=hg;omega) fun h' eb=>⟨rfl,I.turned (t':=s.toks) (fun b o hb e=>eb b o hb e) f0 f1 f3 f4 f5⟩
  self:=fun _ _ _ _ _ st h=>wpAny_pyIter_rangeiter st h
end L2
namespace L2
open PySem PySem.Spec PyProof.Rows
section
variable {X:Cx}{tg:Expr}
def iList (K:PySem.W.Frag)(tl:TE): TI:=fun σ H R=>tl σ H fun x H1=>∃a,x=.ref a/\(∃xs,SqL K H1 a xs)/\R (Itl K a) H1
def iTup (K:PySem.W.Frag)(tl:TE): TI:=fun σ H R=>tl σ H fun x H1=>∃a,x=.ref a/\(∃xs,SqT K H1 a xs)/\R (Itt K a) H1
theorem pi_list {l:Expr}{tl:TE}(hl:PE X l tl): PI X tg l (iList X.K tl):=by
  intro pins s σ H R I h
  refine thn (hl pins s σ H _ I h) fun v s1 ⟨x,H1,I1,r1,q1⟩=>?_
  obtain⟨a,e,⟨xs,hq⟩,q⟩:=q1
  subst e
  cases r1
  obtain⟨its,rv,p,hz⟩:=I1.list hq
  refine wpAny_pyIter_list p.isList ?_
  refine⟨s1.heap.objs.size,[s1.heap.objs.size],_,_,H1,rfl,I1.kept (t':=s1.toks) fun b o e=>Heap.get?_push_of_some _ e,turn_list a _,⟨_,Heap.get?_push_size _ rfl,rfl,rfl⟩,fun b hb=>?_,q⟩
  have e:b=s1.heap.objs.size:=by simpa using hb
  subst e
  exact I1.fpOk (Nat.le_refl _) (I1.hok.fresh (Nat.le_refl _))
theorem pi_tup {l:Expr}{tl:TE}(hl:PE X l tl): PI X tg l (iTup X.K tl):=by
  intro pins s σ H R I h
  refine thn (hl pins s σ H _ I h) fun v s1 ⟨x,H1,I1,r1,q1⟩=>?_
  obtain⟨a,e,⟨xs,hq⟩,q⟩:=q1
  subst e
  cases r1
  obtain⟨its,rv,p,hz⟩:=I1.tuple hq
  refine wpAny_pyIter_tuple (show s1.heap.IsTuple a its.toArray from p) ?_
  refine⟨s1.heap.objs.size,[s1.heap.objs.size],_,_,H1,rfl,I1.kept (t':=s1.toks) fun b o e=>Heap.get?_push_of_some _ e,turn_tuple a _,⟨_,Heap.get?_push_size _ rfl,rfl,rfl⟩,fun b hb=>?_,q⟩
  have e:b=s1.heap.objs.size:=by simpa using hb
  subst e
  exact I1.fpOk (Nat.le_refl _) (I1.hok.fresh (Nat.le_refl _))
theorem range_it {pins:List (Addr×Obj)}{σ:St}{H:Hp}{s:Shared}{R:It->Hp->Prop}{E:Value->Shared->Prop}{lo hi:Int}{t u v:Tok}{tk:Nat}(I:Inv X pins σ H s)(h1:-(2^62)<=lo)(h2:lo < 2^62)(h3:-(2^62)<=hi)(h4:hi < 2^62)
    (q:R (Itr lo (hi-lo).toNat) H):wpAny (model X.prog X.w) X.A (pyIter (.ref s.heap.objs.size)) (PIE X pins σ tg R) E { s with heap:=s.heap.push { cls:=.type "range",data:=.fields #[.int lo t,.int hi u,.int 1 v] },toks:=tk }:=by
  refine wpAny_pyIter_range (IsRange.new ..) (small_one h1 h2 h3 h4) ?_
  have I1:Inv X pins σ H { s with heap:=s.heap.push { cls:=.type "range",data:=.fields #[.int lo t,.int hi u,.int 1 v] },toks:=tk }:=I.kept fun b o e=>Heap.get?_push_of_some _ e
  refine⟨(s.heap.push { cls:=.type "range",data:=.fields #[.int lo t,.int hi u,.int 1 v] }).objs.size,[(s.heap.push { cls:=.type "range",data:=.fields #[.int lo t,.int hi u,.int 1 v] }).objs.size],_,_,H,rfl,
    I1.kept (t':=tk) fun b o e=>Heap.get?_push_of_some _ e,turn_range _ lo (hi-lo).toNat,?_,fun b hb=>?_,q⟩
  · have e1:lo+((0:Nat):Int)*1=lo:=by simp
    have e2:(((hi-lo).toNat:Nat):Int)-((0:Nat):Int)=Builtin.Range.rangeSize lo hi 1:=by rw[rangeSize_one];split<;>omega
    show IsRangeIter _ _ (lo+((0:Nat):Int)*1) ((((hi-lo).toNat:Nat):Int)-((0:Nat):Int)) 1
    rw[e1,e2]
    exact Heap.get?_push_size _ rfl
  · have e:b=(s.heap.push { cls:=.type "range",data:=.fields #[.int lo t,.int hi u,.int 1 v] }).objs.size:=by simpa using hb
    subst e
    exact I1.fpOk (Nat.le_refl _) (I1.hok.fresh (Nat.le_refl _))
def iRng1 (ta:TA): TI:=fun σ H R=>ta σ H fun vs H1=>∃j:Int,vs=[.int j]/\-(2^62)<=j/\j < 2^62/\R (Itr 0 j.toNat) H1
theorem pi_range1 {a:Expr} {ta:TA} {p pos:Pos} (hg:Gl X "range") (hm:X.mg "range" = none) (ha:PA X [a] ta) (hs:starEach [a] X.env=[(false,eval a X.env)]:=by rfl):PI X tg (.Call (.Name "range" p) [a] [] pos) (iRng1 ta):=by
  intro pins s σ H R I h
  refine Call_ (ld_blt I hg hm boot_range (PyProof.Rows.callWith_type1 (thn (ha pos pins s σ H _ I h) fun us s1 ⟨vs,H1,I1,r1,q1⟩=>?_) hs rfl))
  obtain⟨j,e,q1,q2,q⟩:=q1
  subst e
  cases r1 with
  | cons r rr =>
    cases rr
    obtain⟨t,rfl⟩:=r
    exact call_range_1 (range_it I1 (by omega) (by omega) q1 q2 (by simpa using q))
def tFor (wi:TI)(g:TG)(tb:TS): TS:=fun D σ H=>wi σ H fun J H1=>∃W:Nat->Nat->St->Hp->Prop,(∃m,W 0 m σ H1)/\∀i m σ H,W i m σ H ->
  (J.stop i H/\D.nx σ H)\/(J.go i H/\∃N:St->Hp->Prop,(∀σ' H',N σ' H'->∃m',m' < m/\W (i+1) m' σ' H')/\∀x H',J.yld i H x H'->g x σ H' fun σ2 H2=>tb { D with nx:=N,ct:=N,bk:=D.nx } σ2 H2)
def pinsAt (fp:List Addr)(h:Heap): List (Addr×Obj):=fp.filterMap fun b=>(h.get? b).map fun o=>(b,o)
theorem mem_pinsAt {fp:List Addr}{h:Heap}{b:Addr}{o:Obj}(hb:b∈fp)(e:h.get? b=some o): (b,o)∈pinsAt fp h:=List.mem_filterMap.mpr ⟨b,hb,by rw[e];rfl⟩
theorem of_pinsAt {fp:List Addr}{h:Heap}{p:Addr×Obj}(hp:p∈pinsAt fp h): p.1∈fp/\h.get? p.1=some p.2:=by
  obtain⟨b,hb,e⟩:=List.mem_filterMap.mp hp
  cases q:h.get? b with
  | none=>rw[q] at e;cases e
  | some o =>
    rw[q] at e
    have e':(b,o)=p:=Option.some.inj e
    subst e'
    exact⟨hb,q⟩
theorem Inv.pinned {pins:List (Addr×Obj)}{σ:St}{H:Hp}{s:Shared}{fp:List Addr}(I:Inv X pins σ H s)(hf:∀b∈fp,FpOk X pins H b)(ho:∀b∈fp,∃o,s.heap.get? b=some o/\∀v,o.data≠.cell v): Inv X (pins++pinsAt fp s.heap) σ H s :=
  I.pins_of fun p hp=>(List.mem_append.mp hp).elim (fun z=>I.pin p (List.mem_append_right _ z)) fun z=>by
    obtain⟨hb,e⟩:=of_pinsAt z
    obtain⟨f0,f1,f2,_⟩:=hf p.1 hb
    obtain⟨o,e',d⟩:=ho p.1 hb
    rw[e] at e';cases e'
    exact⟨e,f0,f1,f2,d⟩
theorem Inv.unpinned {pins pl:List (Addr×Obj)}{σ:St}{H:Hp}{s:Shared}(I:Inv X (pins++pl) σ H s): Inv X pins σ H s:=I.pins_of fun p hp=>I.pin p (List.mem_append_right _ (List.mem_append_left _ hp))
theorem ps_for {iter:Expr}{body:List Stmt}{wi:TI}{g:TG}{tb:TS}{pos:Pos}(hp:PassesOwn (model X.prog X.w) X.A X.env X.xe)(hc:X.calm=true)(hi:PI X tg iter wi)(hg:PG X tg g)(hb:PSs X body tb)
    (hs:∀x,foldedSetIterable iter X.env x=pure x:=by intro _;rfl):PS X (.For tg iter body [] pos) (tFor wi g tb):=by
  intro pins s σ H D I h
  refine wpAny_For (thn (hi pins s σ H _ I h) fun v s1 h1=>thn h1 fun itv s2 h2=>?_) hs
  obtain⟨it,fp,tn,J,H2,e,I2,T,st2,f2,W,⟨m0,w0⟩,turn⟩:=h2
  subst e
  have stat:∀{H':Hp},(∀b∈fp,H' b=none)->∀b∈fp,FpOk X pins H' b:=fun hn b hb=>⟨hn b hb,(f2 b hb).2⟩
  refine codeAny_forLoop_any (fun n s'=>∃i σ' H',Inv X pins σ' H' s'/\tn i s'.heap/\(∀b∈fp,H' b=none)/\W i n σ' H') ?_ m0 ⟨0,σ,H2,I2,st2,fun b hb=>(f2 b hb).1,w0⟩
  rintro n s3 ⟨i,σ3,H3,I3,st3,fr3,w3⟩
  rcases turn i n σ3 H3 w3 with ⟨stop,qn⟩ | ⟨go,N,hN,step⟩
  · refine wpAny_passesOwn hp (thn (T.done X rfl rfl rfl hc i pins s3 σ3 H3 X.xe I3 (stat fr3) st3 stop) fun r s4 ⟨hr,I4⟩=>?_)
    subst hr
    exact wpAny_execs_nil ⟨σ3,H3,I4,qn⟩
  · refine wpAny_passesOwn hp (thn (T.item X rfl rfl rfl hc i pins s3 σ3 H3 X.xe I3 (stat fr3) st3 go) fun r s4 ⟨u,hr,h4⟩=>?_)
    subst hr
    refine wpAny_passesOwn hp (thn h4 fun _ s5 ⟨x,H5,I5,r5,y5,st5,fr5⟩=>?_)
    have I5':=I5.pinned (stat fr5) (T.obj _ _ st5)
    refine wpAny_passesOwn hp (thn (hg _ s5 σ3 H5 x u _ I5' r5 (step x H5 y5)) fun _ s6 ⟨σ6,H6,I6,q6⟩=>?_)
    refine wpAny_passesOwn hp (thn (hb _ s6 σ6 H6 _ I6 q6) fun f s7 q7=>?_)
    have again:∀{σ7:St} {H7:Hp},Inv X (pins++pinsAt fp s5.heap) σ7 H7 s7->N σ7 H7->∃m,m < n/\∃i σ' H',Inv X pins σ' H' s7/\tn i s7.heap/\(∀b∈fp,H' b=none)/\W i m σ' H':=fun {σ7 H7} I7 n7=>by
      obtain⟨m',hm,w7⟩:=hN σ7 H7 n7
      refine⟨m',hm,i+1,σ7,H7,I7.unpinned,T.keep _ _ _ st5 fun b hb o e=>(I7.pin (b,o) (List.mem_append_right _ (List.mem_append_right _ (mem_pinsAt hb e)))).1,fun b hb=>?_,w7⟩
      obtain⟨o,e,d⟩:=T.obj _ _ st5 b hb
      exact(I7.pin (b,o) (List.mem_append_right _ (List.mem_append_right _ (mem_pinsAt hb e)))).2.1
    cases f with
    | next=>obtain⟨σ7,H7,I7,n7⟩:=q7;exact again I7 n7
    | cont=>obtain⟨σ7,H7,I7,n7⟩:=q7;exact again I7 n7
    | brk=>obtain⟨σ7,H7,I7,q7⟩:=q7;exact⟨σ7,H7,I7.unpinned,q7⟩
    | ret v=>obtain⟨x7,σ7,H7,I7,r7,q7⟩:=q7;exact⟨x7,σ7,H7,I7.unpinned,r7,q7⟩
end
theorem for_list {K:PySem.W.Frag}{a:Addr}{xs:List V}{g:TG}{tb:TS}{D:Ends}{σ:St}{H:Hp}(Pv:Nat->St->Hp->Prop)(h0:Pv 0 σ H)(hl:∀i σ H,i<=xs.length->Pv i σ H->SqL K H a xs)
    (hs:∀i x σ H,xs[i]?=some x->Pv i σ H->g x σ H fun σ2 H2=>tb { D with nx:=Pv (i+1),ct:=Pv (i+1),bk:=D.nx } σ2 H2) (hd:∀σ H,Pv xs.length σ H->D.nx σ H) :
    ∃W:Nat->Nat->St->Hp->Prop,(∃m,W 0 m σ H)/\∀i m σ H,W i m σ H ->
      ((Itl K a).stop i H/\D.nx σ H)\/((Itl K a).go i H/\∃N:St->Hp->Prop,(∀σ' H',N σ' H'->∃m',m' < m/\W (i+1) m' σ' H')/\∀x H',(Itl K a).yld i H x H'->g x σ H' fun σ2 H2=>tb { D with nx:=N,ct:=N,bk:=D.nx } σ2 H2):=by
  refine⟨fun i m σ H=>m=xs.length-i/\i<=xs.length/\Pv i σ H,⟨xs.length,by simp,Nat.zero_le _,h0⟩,?_⟩
  rintro i m σ H ⟨rfl,hi,p⟩
  have q:=hl i σ H hi p
  by_cases hlt:i < xs.length
  · refine .inr ⟨⟨xs,xs[i],q,by simp[hlt]⟩,Pv (i+1),fun σ' H' p'=>⟨xs.length-(i+1),by omega,rfl,hlt,p'⟩,fun x H' y=>?_⟩
    obtain⟨e,y⟩:=y
    subst e
    exact hs i x σ _ (y xs q) p
  · have e:i=xs.length:=by omega
    subst e
    exact .inl ⟨⟨xs,q,Nat.le_refl _⟩,hd σ H p⟩
theorem for_tup {K:PySem.W.Frag}{a:Addr}{xs:List V}{g:TG}{tb:TS}{D:Ends}{σ:St}{H:Hp}(Pv:Nat->St->Hp->Prop)(h0:Pv 0 σ H)(hl:∀i σ H,i<=xs.length->Pv i σ H->SqT K H a xs)
    (hs:∀i x σ H,xs[i]?=some x->Pv i σ H->g x σ H fun σ2 H2=>tb { D with nx:=Pv (i+1),ct:=Pv (i+1),bk:=D.nx } σ2 H2) (hd:∀σ H,Pv xs.length σ H->D.nx σ H) :
    ∃W:Nat->Nat->St->Hp->Prop,(∃m,W 0 m σ H)/\∀i m σ H,W i m σ H ->
      ((Itt K a).stop i H/\D.nx σ H)\/((Itt K a).go i H/\∃N:St->Hp->Prop,(∀σ' H',N σ' H'->∃m',m' < m/\W (i+1) m' σ' H')/\∀x H',(Itt K a).yld i H x H'->g x σ H' fun σ2 H2=>tb { D with nx:=N,ct:=N,bk:=D.nx } σ2 H2):=by
  refine⟨fun i m σ H=>m=xs.length-i/\i<=xs.length/\Pv i σ H,⟨xs.length,by simp,Nat.zero_le _,h0⟩,?_⟩
  rintro i m σ H ⟨rfl,hi,p⟩
  have q:=hl i σ H hi p
  by_cases hlt:i < xs.length
  · refine .inr ⟨⟨xs,xs[i],q,by simp[hlt]⟩,Pv (i+1),fun σ' H' p'=>⟨xs.length-(i+1),by omega,rfl,hlt,p'⟩,fun x H' y=>?_⟩
    obtain⟨e,y⟩:=y
    subst e
    exact hs i x σ _ (y xs q) p
  · have e:i=xs.length:=by omega
    subst e
    exact .inl ⟨⟨xs,q,Nat.le_refl _⟩,hd σ H p⟩
theorem for_range {lo:Int}{n:Nat}{g:TG}{tb:TS}{D:Ends}{σ:St}{H:Hp}(Pv:Nat->St->Hp->Prop)(h0:Pv 0 σ H)
    (hs:∀i σ H,i < n->Pv i σ H->g (.int (lo+i)) σ H fun σ2 H2=>tb { D with nx:=Pv (i+1),ct:=Pv (i+1),bk:=D.nx } σ2 H2) (hd:∀σ H,Pv n σ H->D.nx σ H) :
    ∃W:Nat->Nat->St->Hp->Prop,(∃m,W 0 m σ H)/\∀i m σ H,W i m σ H ->
      ((Itr lo n).stop i H/\D.nx σ H)\/((Itr lo n).go i H/\∃N:St->Hp->Prop,(∀σ' H',N σ' H'->∃m',m' < m/\W (i+1) m' σ' H')/\∀x H',(Itr lo n).yld i H x H'->g x σ H' fun σ2 H2=>tb { D with nx:=N,ct:=N,bk:=D.nx } σ2 H2):=by
  refine⟨fun i m σ H=>m=n-i/\i<=n/\Pv i σ H,⟨n,by simp,Nat.zero_le _,h0⟩,?_⟩
  rintro i m σ H ⟨rfl,hi,p⟩
  by_cases hlt:i < n
  · refine .inr ⟨hlt,Pv (i+1),fun σ' H' p'=>⟨n-(i+1),by omega,rfl,hlt,p'⟩,fun x H' y=>?_⟩
    obtain⟨e,y⟩:=y
    subst e y
    exact hs i σ _ hlt p
  · have e:i=n:=by omega
    subst e
    exact .inl ⟨Nat.le_refl _,hd σ H p⟩
end L2
namespace L2
open PySem PySem.Spec PyProof.Rows
abbrev R2:=V->V->Hp->VK->Prop
def OpR (X:Cx)(f:Value->Value->Sem Value)(r:R2): Prop :=
  ∀(pins:List (Addr×Obj)) (s:Shared) (σ:St) (H:Hp) (x y:V) (v u:Value) (Q:VK),Inv X pins σ H s->RelV x v->RelV y u->r x y H Q ->
    wpAny (model X.prog X.w) X.A (f v u) (EP X pins σ Q) X.xe s
def UnR (X:Cx)(f:Value->Sem Value)(r:V->Hp->VK->Prop): Prop :=
  ∀(pins:List (Addr×Obj)) (s:Shared) (σ:St) (H:Hp) (x:V) (v:Value) (Q:VK),Inv X pins σ H s->RelV x v->r x H Q ->
    wpAny (model X.prog X.w) X.A (f v) (EP X pins σ Q) X.xe s
def CallR (X:Cx)(f:Value)(r:List V->Hp->VK->Prop): Prop :=
  ∀(pins:List (Addr×Obj)) (s:Shared) (σ:St) (H:Hp) (xs:List V) (us:List Value) (Q:VK),Inv X pins σ H s->Vals xs us->r xs H Q ->
    wpAny (model X.prog X.w) X.A (call f us) (EP X pins σ Q) X.xe s
def tOp (r:R2)(ta tb:TE): TE:=fun σ H Q=>ta σ H fun x H1=>tb σ H1 fun y H2=>r x y H2 Q
def tUn (r:V->Hp->VK->Prop)(ta:TE): TE:=fun σ H Q=>ta σ H fun x H1=>r x H1 Q
def rI (C:Int->Int->Prop)(g:Int->Int->V): R2:=fun x y H Q=>∃i j,x=.int i/\y=.int j/\C i j/\Q (g i j) H
def rI0 (g:Int->Int->V): R2:=fun x y H Q=>∃i j,x=.int i/\y=.int j/\Q (g i j) H
def rU (g:Int->V): V->Hp->VK->Prop:=fun x H Q=>∃i,x=.int i/\Q (g i) H
section
variable {X:Cx}{a b c:Expr}{ta tb tc:TE}{pos:Pos}
theorem binT (ha:PE X a ta)(hb:PE X b tb){pins:List (Addr×Obj)}{s:Shared}{σ:St}{H:Hp}{R:V->V->Hp->Prop}(I:Inv X pins σ H s)
    (h:ta σ H fun x H1=>tb σ H1 fun y H2=>R x y H2) {Q:Value->Shared->Prop} {f:Value->Value->Sem Value}
    (hf:∀v u s2 x y H2,Inv X pins σ H2 s2->RelV x v->RelV y u->R x y H2->wpAny (model X.prog X.w) X.A (f v u) Q X.xe s2) :
    wpAny (model X.prog X.w) X.A (eval a X.env) (fun v s₁=>wpAny (model X.prog X.w) X.A (eval b X.env) (fun u s₂=>wpAny (model X.prog X.w) X.A (f v u) Q X.xe s₂) X.xe s₁) X.xe s:=by
  refine thn (ha pins s σ H _ I h) fun v s1 ⟨x,H1,I1,r1,q1⟩=>?_
  refine thn (hb pins s1 σ H1 _ I1 q1) fun u s2 ⟨y,H2,I2,r2,q2⟩=>?_
  exact hf v u s2 x y H2 I2 r1 r2 q2
theorem pe_op {op:Operator}{r:R2}(ho:OpR X (binaryOp op) r)(ha:PE X a ta)(hb:PE X b tb): PE X (.BinOp a op b pos) (tOp r ta tb):=by
  intro pins s σ H Q I h
  exact wpAny_BinOp (binT ha hb I h fun v u s2 x y H2 I2 rx ry q=>ho pins s2 σ H2 x y v u Q I2 rx ry q)
theorem pe_un {op:UnaryOp}{r:V->Hp->VK->Prop}(ho:UnR X (unaryOp op) r)(ha:PE X a ta): PE X (.UnaryOp op a pos) (tUn r ta):=by
  intro pins s σ H Q I h
  exact UnaryOp_ (thn (ha pins s σ H _ I h) fun v s1 ⟨x,H1,I1,r1,q1⟩=>ho pins s1 σ H1 x v Q I1 r1 q1)
theorem opI {f:Value->Value->Sem Value}{C:Int->Int->Prop}{g:Int->Int->Int}
    (rule:∀(i j:Int) (t u:Tok) (s:Shared) (Q:Value->Shared->Prop) (E:Value->Shared->Prop),C i j->Q (.int (g i j) s.toks) { s with toks:=s.toks+1 }->wpAny (model X.prog X.w) X.A (f (.int i t) (.int j u)) Q E s) :
    OpR X f (rI C fun i j=>.int (g i j)):=by
  intro pins s σ H x y v u Q I rx ry h
  obtain⟨i,j,rfl,rfl,hc,q⟩:=h
  obtain⟨t,rfl⟩:=rx
  obtain⟨t',rfl⟩:=ry
  exact rule i j t t' s _ _ hc ⟨.int (g i j),H,I.tok _,⟨_,rfl⟩,q⟩
theorem opI0 {f:Value->Value->Sem Value}{g:Int->Int->Int}
    (rule:∀(i j:Int) (t u:Tok) (s:Shared) (Q:Value->Shared->Prop) (E:Value->Shared->Prop),Q (.int (g i j) s.toks) { s with toks:=s.toks+1 }->wpAny (model X.prog X.w) X.A (f (.int i t) (.int j u)) Q E s) :
    OpR X f (rI0 fun i j=>.int (g i j)):=by
  intro pins s σ H x y v u Q I rx ry h
  obtain⟨i,j,rfl,rfl,q⟩:=h
  obtain⟨t,rfl⟩:=rx
  obtain⟨t',rfl⟩:=ry
  exact rule i j t t' s _ _ ⟨.int (g i j),H,I.tok _,⟨_,rfl⟩,q⟩
theorem opB0 {f:Value->Value->Sem Value}{g:Int->Int->Bool}
    (rule:∀(i j:Int) (t u:Tok) (s:Shared) (Q:Value->Shared->Prop) (E:Value->Shared->Prop),Q (.bool (g i j)) s->wpAny (model X.prog X.w) X.A (f (.int i t) (.int j u)) Q E s) :
    OpR X f (rI0 fun i j=>.bl (g i j)):=by
  intro pins s σ H x y v u Q I rx ry h
  obtain⟨i,j,rfl,rfl,q⟩:=h
  obtain⟨t,rfl⟩:=rx
  obtain⟨t',rfl⟩:=ry
  exact rule i j t t' s _ _ ⟨.bl (g i j),H,I,rfl,q⟩
def CDiv (i j:Int): Prop:=0 < j/\j < 1073741824
def CPow (i j:Int): Prop:=0<=j/\j<=1000000/\i.natAbs < 2^64
def CMul (i j:Int): Prop:=(-(2^64) < i/\i < 2^64)\/(-(2^64) < j/\j < 2^64)
theorem CMul.ok {i j:Int}(h:CMul i j): IntMulOk i j:=by
  rcases h with ⟨h1,h2⟩ | ⟨h1,h2⟩
  · exact .of_left (intBits_le_64 h1 h2)
  · exact .of_right (intBits_le_64 h1 h2)
theorem two_pow_nn (k:Nat): (0:Int)<=2^k:=by
  rw[two_pow_cast]
  exact Int.natCast_nonneg _
theorem op_add:OpR X (binaryOp .Add) (rI0 fun i j=>.int (i+j)):=opI0 fun _ _ _ _ _ _ _ q=>add_int q
theorem op_sub:OpR X (binaryOp .Sub) (rI0 fun i j=>.int (i-j)):=opI0 fun _ _ _ _ _ _ _ q=>sub_int q
theorem op_mul:OpR X (binaryOp .Mult) (rI CMul fun i j=>.int (i*j)):=opI fun _ _ _ _ _ _ _ hc q=>mul_int q hc.ok
theorem op_fdiv:OpR X (binaryOp .FloorDiv) (rI CDiv fun i j=>.int (i / j)):=opI fun i j _ _ _ _ _ hc q=>by
  have h1:(0:Int) < j:=hc.1
  have h2:j < 1073741824:=hc.2
  exact floordiv_int (by omega) (by rw[Int.fdiv_eq_ediv_of_nonneg i (by omega)];exact q) (.inl (PyProof.noPylong_small (by omega)))
theorem op_mod:OpR X (binaryOp .Mod) (rI (fun _ j=>0 < j) fun i j=>.int (i%j)):=opI fun i j _ _ _ _ _ hc q=>by
  have h1:(0:Int) < j:=hc
  exact mod_int' (by omega) (by rw[Int.fmod_eq_emod_of_nonneg i (by omega)];exact q)
theorem op_pow:OpR X (binaryOp .Pow) (rI CPow fun i j=>.int (i^j.toNat)):=opI fun _ _ _ _ _ _ _ hc q=>pow_int_small hc.1 hc.2.1 hc.2.2 q
theorem op_shl:OpR X (binaryOp .LShift) (rI CPow fun i j=>.int (i*2^j.toNat)):=opI fun _ _ _ _ _ _ _ hc q=>lshift_int_small hc.1 hc.2.1 hc.2.2 q
theorem op_shr:OpR X (binaryOp .RShift) (rI (fun _ j=>0<=j) fun i j=>.int (i / 2^j.toNat)):=opI fun i j _ _ _ _ _ hc q =>
  rshift_int hc (by rw[Int.fdiv_eq_ediv_of_nonneg i (two_pow_nn _)];exact q)
theorem op_and:OpR X (binaryOp .BitAnd) (rI0 fun i j=>.int (Builtin.bitAnd i j)):=opI0 fun _ _ _ _ _ _ _ q=>and_int q
theorem op_or:OpR X (binaryOp .BitOr) (rI0 fun i j=>.int (Builtin.bitOr i j)):=opI0 fun _ _ _ _ _ _ _ q=>or_int q
theorem unI {f:Value->Sem Value}{g:Int->Int}
    (rule:∀(i:Int) (t:Tok) (s:Shared) (Q:Value->Shared->Prop) (E:Value->Shared->Prop),Q (.int (g i) s.toks) { s with toks:=s.toks+1 }->wpAny (model X.prog X.w) X.A (f (.int i t)) Q E s) :
    UnR X f (rU fun i=>.int (g i)):=by
  intro pins s σ H x v Q I rx h
  obtain⟨i,rfl,q⟩:=h
  obtain⟨t,rfl⟩:=rx
  exact rule i t s _ _ ⟨.int (g i),H,I.tok _,⟨_,rfl⟩,q⟩
theorem un_neg:UnR X (unaryOp .USub) (rU fun i=>.int (-i)):=unI fun _ _ _ _ _ q=>neg_int q
end
def scal:V->V->Bool
  | .non,.non=>true | .non,.int _=>true | .int _,.non=>true | .non,.bl _=>true | .bl _,.non=>true | .non,.str _=>true | .str _,.non=>true
  | .int _,.int _=>true | .bl _,.bl _=>true | .str _,.str _=>true | .byt _,.byt _=>true
  | .int _,.str _=>true | .str _,.int _=>true | .bl _,.str _=>true | .str _,.bl _=>true
  | _,_=>false
def rEq:R2:=fun x y H Q=>scal x y=true/\Q (.bl (decide (x=y))) H
def rNe:R2:=fun x y H Q=>scal x y=true/\Q (.bl (!decide (x=y))) H
theorem dec_int {i j:Int}: decide (V.int i=V.int j)=(i==j):=by
  rw[Bool.eq_iff_iff]
  simp
theorem dec_bl {i j:Bool}: decide (V.bl i=V.bl j)=(i==j):=by
  rw[Bool.eq_iff_iff]
  simp
theorem dec_str {i j:Str}: decide (V.str i=V.str j)=(i==j):=by
  rw[Bool.eq_iff_iff]
  simp
theorem dec_byt {i j:Array UInt8}: decide (V.byt i=V.byt j)=(i.toList==j.toList):=by
  rw[Bool.eq_iff_iff]
  cases i
  cases j
  simp
section
variable {X:Cx}{a b c:Expr}{ta tb tc:TE}{pos:Pos}
theorem fin_bl {pins:List (Addr×Obj)}{σ:St}{H:Hp}{s:Shared}{Q:VK}{k k':Bool}(I:Inv X pins σ H s)(q:Q (.bl k) H)(e:k=k'): EP X pins σ Q (.bool k') s:=by
  subst e
  exact⟨.bl k,H,I,rfl,q⟩
theorem op_eq:OpR X (compareOp .Eq) rEq:=by
  intro pins s σ H x y v u Q I rx ry h
  obtain⟨hs,q⟩:=h
  cases x with
  | non =>
    cases rx
    cases y with
    | non=>cases ry;exact PySem.EqNone.eq_none_none (fin_bl I q (by simp))
    | bl j=>cases ry;exact PySem.EqNone.eq_none_bool (fin_bl I q (by simp))
    | int j=>obtain⟨t',rfl⟩:=ry;exact PySem.EqNone.eq_none_int (fin_bl I q (by simp))
    | str j=>obtain⟨t',rfl⟩:=ry;exact PySem.EqNone.eq_none_str (fin_bl I q (by simp))
    | _=>exact absurd (show false=true from hs) Bool.false_ne_true
  | bl i =>
    cases rx
    cases y with
    | non=>cases ry;exact PySem.EqNone.eq_bool_none (fin_bl I q (by simp))
    | bl j=>cases ry;exact eq_bool (fin_bl I q dec_bl)
    | str j=>obtain⟨t',rfl⟩:=ry;exact PySem.EqMixed.eq_bool_str (fin_bl I q (by simp))
    | _=>exact absurd (show false=true from hs) Bool.false_ne_true
  | int i =>
    obtain⟨t,rfl⟩:=rx
    cases y with
    | non=>cases ry;exact PySem.EqNone.eq_int_none (fin_bl I q (by simp))
    | int j=>obtain⟨t',rfl⟩:=ry;exact eq_int (fin_bl I q dec_int)
    | str j=>obtain⟨t',rfl⟩:=ry;exact PySem.EqMixed.eq_int_str (fin_bl I q (by simp))
    | _=>exact absurd (show false=true from hs) Bool.false_ne_true
  | str i =>
    obtain⟨t,rfl⟩:=rx
    cases y with
    | non=>cases ry;exact PySem.EqNone.eq_str_none (fin_bl I q (by simp))
    | bl j=>cases ry;exact PySem.EqMixed.eq_str_bool (fin_bl I q (by simp))
    | int j=>obtain⟨t',rfl⟩:=ry;exact PySem.EqMixed.eq_str_int (fin_bl I q (by simp))
    | str j=>obtain⟨t',rfl⟩:=ry;exact eq_str (fin_bl I q dec_str)
    | _=>exact absurd (show false=true from hs) Bool.false_ne_true
  | byt i =>
    obtain⟨t,rfl⟩:=rx
    cases y with
    | byt j=>obtain⟨t',rfl⟩:=ry;exact PySem.W.eq_bytes (fin_bl I q dec_byt)
    | _=>exact absurd (show false=true from hs) Bool.false_ne_true
  | _=>cases y<;>exact absurd (show false=true from hs) Bool.false_ne_true
theorem op_ne:OpR X (compareOp .NotEq) rNe:=by
  intro pins s σ H x y v u Q I rx ry h
  obtain⟨hs,q⟩:=h
  cases x with
  | non =>
    cases rx
    cases y with
    | non=>cases ry;exact PySem.EqNone.ne_none_none (fin_bl I q (by simp))
    | bl j=>cases ry;exact PySem.EqNone.ne_none_bool (fin_bl I q (by simp))
    | int j=>obtain⟨t',rfl⟩:=ry;exact PySem.EqNone.ne_none_int (fin_bl I q (by simp))
    | str j=>obtain⟨t',rfl⟩:=ry;exact PySem.EqNone.ne_none_str (fin_bl I q (by simp))
    | _=>exact absurd (show false=true from hs) Bool.false_ne_true
  | bl i =>
    cases rx
    cases y with
    | non=>cases ry;exact PySem.EqNone.ne_bool_none (fin_bl I q (by simp))
    | bl j=>cases ry;exact ne_bool (fin_bl I q (congrArg not dec_bl))
    | str j=>obtain⟨t',rfl⟩:=ry;exact PySem.EqMixed.ne_bool_str (fin_bl I q (by simp))
    | _=>exact absurd (show false=true from hs) Bool.false_ne_true
  | int i =>
    obtain⟨t,rfl⟩:=rx
    cases y with
    | non=>cases ry;exact PySem.EqNone.ne_int_none (fin_bl I q (by simp))
    | int j=>obtain⟨t',rfl⟩:=ry;exact ne_int (fin_bl I q (congrArg not dec_int))
    | str j=>obtain⟨t',rfl⟩:=ry;exact PySem.EqMixed.ne_int_str (fin_bl I q (by simp))
    | _=>exact absurd (show false=true from hs) Bool.false_ne_true
  | str i =>
    obtain⟨t,rfl⟩:=rx
    cases y with
    | non=>cases ry;exact PySem.EqNone.ne_str_none (fin_bl I q (by simp))
    | bl j=>cases ry;exact PySem.EqMixed.ne_str_bool (fin_bl I q (by simp))
    | int j=>obtain⟨t',rfl⟩:=ry;exact PySem.EqMixed.ne_str_int (fin_bl I q (by simp))
    | str j=>obtain⟨t',rfl⟩:=ry;exact ne_str (fin_bl I q (congrArg not dec_str))
    | _=>exact absurd (show false=true from hs) Bool.false_ne_true
  | byt i =>
    obtain⟨t,rfl⟩:=rx
    cases y with
    | byt j=>obtain⟨t',rfl⟩:=ry;exact PySem.W.ne_bytes (fin_bl I q (congrArg not dec_byt))
    | _=>exact absurd (show false=true from hs) Bool.false_ne_true
  | _=>cases y<;>exact absurd (show false=true from hs) Bool.false_ne_true
theorem op_lt:OpR X (compareOp .Lt) (rI0 fun i j=>.bl (decide (i < j))):=opB0 fun _ _ _ _ _ _ _ q=>lt_int q
theorem op_le:OpR X (compareOp .LtE) (rI0 fun i j=>.bl (decide (i<=j))):=opB0 fun _ _ _ _ _ _ _ q=>le_int q
theorem op_gt:OpR X (compareOp .Gt) (rI0 fun i j=>.bl (decide (j < i))):=opB0 fun _ _ _ _ _ _ _ q=>gt_int q
theorem op_isN:OpR X (compareOp .Is) (fun x y H Q=>y=.non/\Q (.bl (decide (x=.non))) H):=by
  intro pins s σ H x y v u Q I rx ry h
  obtain⟨rfl,q⟩:=h
  cases ry
  refine is_none_gen (fin_bl I q ?_)
  cases x<;>first
    | (cases rx;rfl)
    | (obtain⟨t,rfl⟩:=rx;rfl)
theorem op_notN:OpR X (compareOp .IsNot) (fun x y H Q=>y=.non/\Q (.bl (!decide (x=.non))) H):=by
  intro pins s σ H x y v u Q I rx ry h
  obtain⟨rfl,q⟩:=h
  cases ry
  refine isnot_none_gen (fin_bl I q ?_)
  cases x<;>first
    | (cases rx;rfl)
    | (obtain⟨t,rfl⟩:=rx;rfl)
theorem nomark (b:Expr){op:CmpOp}(h:op≠.In:=by decide)(h2:op≠.NotIn:=by decide): behindInMarks op b=false:=by
  have e1:(op==CmpOp.In)=false:=by cases op<;>first | rfl | exact absurd rfl h
  have e2:(op==CmpOp.NotIn)=false:=by cases op<;>first | rfl | exact absurd rfl h2
  cases b<;>simp[behindInMarks,e1,e2]
theorem pe_cmpR {op:CmpOp}{r:R2}(ho:OpR X (compareOp op) r)(ha:PE X a ta)(hb:PE X b tb)(hm:behindInMarks op b=false): PE X (.Compare a [op] [b] pos) (tOp r ta tb):=by
  intro pins s σ H Q I h
  exact wpAny_Compare1 (binT ha hb I h fun v u s2 x y H2 I2 rx ry q=>ho pins s2 σ H2 x y v u Q I2 rx ry q) hm
def tTest (t:TE): TT:=fun σ H Q=>t σ H fun x H'=>∃k,x=.bl k/\Q k H'
theorem pt_cmpR {op:CmpOp}{r:R2}(ho:OpR X (compareOp op) r)(ha:PE X a ta)(hb:PE X b tb)(hm:behindInMarks op b=false): PT X (.Compare a [op] [b] pos) (tTest (tOp r ta tb)):=by
  intro pins s σ H Q I h
  refine wpAny_isTrue_Compare1 (thn (ha pins s σ H _ I h) fun v s1 ⟨x,H1,I1,r1,q1⟩=>thn (hb pins s1 σ H1 _ I1 q1) fun u s2 ⟨y,H2,I2,r2,q2⟩ =>
    thn (ho pins s2 σ H2 x y v u _ I2 r1 r2 q2) fun c s3 ⟨z,H3,I3,r3,k,e,q3⟩=>?_) hm
  subst e
  cases r3
  exact wpAny_truthy_bool ⟨H3,I3,q3⟩
def tChain (r r':R2)(ta tb tc:TE): TE:=fun σ H Q=>ta σ H fun x H1=>tb σ H1 fun y H2=>r x y H2 fun z H3=>∃k,z=.bl k ∧
  (if k=true then tc σ H3 fun w' H4=>r' y w' H4 Q else Q (.bl false) H3)
theorem pt_chain {op op':CmpOp}{r r':R2}(ho:OpR X (compareOp op) r)(ho':OpR X (compareOp op') r')(ha:PE X a ta)(hb:PE X b tb)(hc:PE X c tc)
    (hm:lastMarks [op,op'] [b,c]=false:=by with_unfolding_all rfl):PT X (.Compare a [op,op'] [b,c] pos) (tTest (tChain r r' ta tb tc)):=by
  intro pins s σ H Q I h
  refine isTrue_chain (thn (ha pins s σ H _ I h) fun v s1 ⟨x,H1,I1,r1,q1⟩=>test_link (thn (hb pins s1 σ H1 _ I1 q1) fun u s2 ⟨y,H2,I2,r2,q2⟩ =>
    thn (ho pins s2 σ H2 x y v u _ I2 r1 r2 q2) fun d s3 ⟨z,H3,I3,r3,k,e,q3⟩=>?_)) hm
  subst e
  cases r3
  refine wpAny_truthy_bool ?_
  cases k with
  | false =>
    obtain⟨k',e',q'⟩:=q3
    cases e'
    exact ite_ff ⟨H3,I3,q'⟩
  | true =>
    refine ite_tt (test_last (thn (hc pins s3 σ H3 _ I3 q3) fun w' s4 ⟨z',H4,I4,r4,q4⟩=>thn (ho' pins s4 σ H4 y z' u w' _ I4 r2 r4 q4) fun d' s5 ⟨z2,H5,I5,r5,k2,e2,q5⟩=>?_))
    subst e2
    cases r5
    exact wpAny_truthy_bool ⟨H5,I5,q5⟩
theorem line63:(sizeLine:Nat) < 2^63:=by rw[sizeLine_eq];decide
theorem vals1 {x:V}{us:List Value}(r:Vals [x] us): ∃u,us=[u]/\RelV x u:=by
  cases r with
  | cons r1 r2=>cases r2;exact⟨_,rfl,r1⟩
theorem vals2 {x y:V}{us:List Value}(r:Vals [x,y] us): ∃u w',us=[u,w']/\RelV x u/\RelV y w':=by
  cases r with
  | cons r1 r2 =>
    cases r2 with
    | cons r3 r4=>cases r4;exact⟨_,_,rfl,r1,r3⟩
theorem call_min2 (hc:X.calm=true): CallR X (.builtin "min") (fun xs H Q=>∃i j,xs=[.int i,.int j]/\Q (.int (if j < i then j else i)) H):=by
  intro pins s σ H xs us Q I r h
  obtain⟨i,j,rfl,q⟩:=h
  obtain⟨u,w',rfl,⟨t,rfl⟩,⟨t',rfl⟩⟩:=vals2 r
  refine min_two_ints (I.ok.hd hc) fun h' tk k=>⟨_,H,I.kept k,?_,q⟩
  by_cases hj:j < i
  · rw[if_pos hj,if_pos hj];exact⟨_,rfl⟩
  · rw[if_neg hj,if_neg hj];exact⟨_,rfl⟩
end
end L2
namespace L2
open PySem PySem.Spec PyProof.Rows
structure ObjM (h:Heap)(x dx C:Addr)(mA:Str->Option Value): Prop where
  obj:h.get? x=some (PySem.W.instObj C dx)
  ns:h.Ns1 dx mA
  ne:dx≠x
theorem lookIn_ns {h:Heap}{dx:Addr}{mA:Str->Option Value}(n:h.Ns1 dx mA): ∃od,h.get? dx=some od/\∀name,PySem.W.lookIn name od=some (mA name):=by
  obtain⟨o,es,ep,ho,hd,hk,_,hm⟩:=n
  refine⟨o,ho,fun name=>?_⟩
  have e:=hm name
  unfold nsFind findBy at e
  rw[<-Array.find?_toList] at e
  unfold PySem.W.lookIn
  rw[hd]
  dsimp only
  split
  · rename_i y q
    rw[q] at e
    exact congrArg some e
  · rename_i q
    rw[q] at e
    have a:es.toList.any (·.refKey)=false:=by
      rw[List.any_eq_false]
      intro y hy
      obtain⟨z,t,hkey⟩:=hk y (Array.mem_toList_iff.mp hy)
      simp[DictEntry.refKey,hkey]
    have a':¬es.toList.any (·.refKey)=true:=by rw[a];exact Bool.false_ne_true
    rw[if_neg a']
    exact congrArg some e
theorem ObjM.look {h:Heap}{x dx C:Addr}{mA:Str->Option Value}(I:ObjM h x dx C mA): ∃od,PySem.W.InstAt h x (PySem.W.instObj C dx) C (some od)/\∀name,PySem.W.lookIn name od=some (mA name) :=
  let ⟨od,ho,hl⟩:=lookIn_ns I.ns
  ⟨od,⟨I.obj,rfl,rfl,ho⟩,hl⟩
section
variable {prog:Program}{w:World}{A:Around}{E:Value->Shared->Prop}{s:Shared}{K:PySem.W.Frag}{x dx C f:Addr}{mA:Str->Option Value}{name:Str}{v:Value}
theorem get_map {expr:Bool}{Q:Value->Shared->Prop}(X:K.In s.heap)(I:ObjM s.heap x dx C mA)(hg:PySem.W.plainGet K C name=true)(hh:PySem.W.hasDictIn K C=true)
    (ha:PySem.W.findIn K (.ref C) name=some none) (hv:mA name=some v) (hv':PySem.W.handedIn v=true) (h:Q v { s with toks:=s.toks+1 }) :
    wpAny (model prog w) A (getAttr (.ref x) name expr) Q E s:=by
  obtain⟨od,J,hl⟩:=I.look
  exact PySem.W.get_value X J (PySem.W.plainGet_of hg).1 (PySem.W.findObj_own hh ha rfl (by rw[hl,hv])) hv' h
theorem get_meth {pl:Sem Bool}{Q:Value×List Value->Shared->Prop}(X:K.In s.heap)(I:ObjM s.heap x dx C mA)(hg:PySem.W.plainGet K C name=true)
    (hf:PySem.W.findIn K (.ref C) name=some (some (.ref f))) (ht:PySem.W.isFn K (.ref f)=true) (hv:mA name=none) (h:Q (.ref f,[.ref x]) s) :
    wpAny (model prog w) A (getMethod (.ref x) name pl) Q E s:=by
  obtain⟨od,J,hl⟩:=I.look
  exact PySem.W.method_fn X J (PySem.W.plainGet_of hg).1 (PySem.W.plainGet_of hg).2 hf (beq_iff_eq.mp ht) (by show (PySem.W.lookIn name od).map (·.isSome)=some false;rw[hl,hv];rfl) h
theorem set_map {ns:List Str}{Q:Unit->Shared->Prop}(X:K.In s.heap)(I:ObjM s.heap x dx C mA)
    (hs:PySem.W.findIn K (.ref C) "__setattr__" = some (some (.builtin "object.__setattr__"))) (hp:PySem.W.plainOver K C=true) (ht:PySem.W.takerIn K C name=some none) (hh:PySem.W.hasDictIn K C=true)
    (hw:PySem.Within mA ns) (hsz:ns.length<=sizeLine)
    (h:∀h',ObjM h' x dx C (fun y=>if y=name then some v else mA y)->Heap.SameBut dx s.heap h'->Q () { s with heap:=h',toks:=s.toks+2 }) :
    wpAny (model prog w) A (setAttr (.ref x) name v) Q E s:=by
  obtain⟨od,J,hl⟩:=I.look
  refine PySem.W.set_plain X J hs (PySem.W.osa_open (s:={ s with toks:=s.toks+1 }) (r:=none) X J hp ht fun b=>?_)
  obtain⟨cd,hc,hd'⟩:=PySem.W.any_some hh
  have hx:s.heap.get? x=some ⟨.ref C,some dx,.plain,#[]⟩:=I.obj
  refine wpAny_bind (wpAny_pure (wpAny_bind (wpAny_bind (wpAny_loadPart hx (wpAny_bind (PySem.W.Looks.here (s:={ s with toks:=s.toks+1 }) (PySem.W.looks_clsIn X hc) ?_))))))
  rw[hd']
  refine wpAny_pure (a:=some dx) (wpAny_bind (wpAny_pure (wpAny_bind ?_)))
  refine wpAny_nsSet1 (s:={ s with toks:=s.toks+1 }) I.ns fun h' hn2 hs2=>?_
  obtain⟨oD,esD,epD,hoD,hdD,hcD⟩:=hn2.count (PySem.Within.cons name v hw)
  refine wpAny_bind (wpAny_lookBehind hoD (by rw[hdD];exact pastItsLine_dict (Nat.le_trans hcD (by rw[List.length_cons];omega))) ?_)
  exact wpAny_pure (h _ ⟨(hs2.2 _ (Ne.symm I.ne)).trans I.obj,hn2,I.ne⟩ hs2)
theorem make_map {R:Result->Shared->Prop}{vs:List Value}{kw:List (Str×Value)}(X:K.In s.heap)(hm:PySem.W.makesIn K C=true)
    (hi:PySem.W.findIn K (.ref C) "__init__" = some (some (.ref f))) (hf:PySem.W.typeIn K (.ref f)=some (.type "function"))
    (h:codeAny (model prog w) (A.under (.builtin "type.__call__" ⟨.ref C::vs,kw⟩)) (.call (.ref f) ⟨.ref (s.heap.objs.size+1)::vs,kw⟩) (PySem.W.InitBack (s.heap.objs.size+1) R)
      { s with heap:=(s.heap.push PySem.W.emptyDict).push (PySem.W.instObj C s.heap.objs.size) }) :
    codeAny (model prog w) A (.call (.ref C) ⟨vs,kw⟩) R s:=by
  obtain⟨hh,g,d,t,os⟩:=s
  exact PySem.W.make_core (PySem.W.makes_of X hm) (PySem.W.looks_findIn X hi) (fun self=>PySem.W.bind_fn X self hf) (.inl rfl) h
end
def putF (f:Str)(v:V): List (Str×V)->List (Str×V)
  | []=>[(f,v)]
  | (g,x)::r=>if g=f then (g,v)::r else (g,x)::putF f v r
theorem lookup_putF (f g:Str)(v:V): ∀fs:List (Str×V),(putF f v fs).lookup g=if g=f then some v else fs.lookup g
  | []=>by
    show List.lookup g [(f,v)]=_
    by_cases h:g=f
    · have hb:(g==f)=true:=beq_iff_eq.mpr h
      simp only [List.lookup,hb,if_pos h]
    · have hb:(g==f)=false:=beq_eq_false_iff_ne.mpr h
      simp only [List.lookup,hb,if_neg h]
  | (k,x)::r=>by
    have ih:=lookup_putF f g v r
    rw[show putF f v ((k,x)::r)=(if k=f then (k,v)::r else (k,x)::putF f v r) from rfl]
    by_cases hk:k=f
    · rw[if_pos hk]
      by_cases h:g=k
      · have hb:(g==k)=true:=beq_iff_eq.mpr h
        simp only [List.lookup,hb,if_pos (h.trans hk)]
      · have hb:(g==k)=false:=beq_eq_false_iff_ne.mpr h
        simp only [List.lookup,hb,if_neg (fun e:g=f=>h (e.trans hk.symm))]
    · rw[if_neg hk]
      by_cases h:g=k
      · have hb:(g==k)=true:=beq_iff_eq.mpr h
        simp only [List.lookup,hb,if_neg (fun e:g=f=>hk (h.symm.trans e))]
      · have hb:(g==k)=false:=beq_eq_false_iff_ne.mpr h
        simp only [List.lookup,hb]
        exact ih
theorem keys_putF (f:Str)(v:V): ∀fs:List (Str×V),f∈(putF f v fs).map (·.1)/\∀g,g∈fs.map (·.1)->g∈(putF f v fs).map (·.1)
  | []=>⟨by simp[putF],fun g h=>by simp at h⟩
  | (k,x)::r=>by
    obtain⟨i1,i2⟩:=keys_putF f v r
    rw[show putF f v ((k,x)::r)=(if k=f then (k,v)::r else (k,x)::putF f v r) from rfl]
    by_cases hk:k=f
    · rw[if_pos hk]
      subst hk
      exact⟨by simp,fun g h=>by simpa using h⟩
    · rw[if_neg hk]
      refine⟨?_,fun g h=>?_⟩
      · rw[List.map_cons]
        exact List.mem_cons_of_mem _ i1
      · rw[List.map_cons] at h ⊢
        rcases List.mem_cons.mp h with e | e
        · exact List.mem_cons.mpr (.inl e)
        · exact List.mem_cons_of_mem _ (i2 g e)
theorem length_putF (f:Str)(v:V): ∀fs:List (Str×V),(putF f v fs).length<=fs.length+1
  | []=>by simp[putF]
  | (k,x)::r=>by
    have ih:=length_putF f v r
    rw[show putF f v ((k,x)::r)=(if k=f then (k,v)::r else (k,x)::putF f v r) from rfl]
    by_cases hk:k=f
    · rw[if_pos hk,List.length_cons,List.length_cons];omega
    · rw[if_neg hk,List.length_cons,List.length_cons];omega
theorem RelO.some_of {v:V}{o:Option Value}(r:RelO (some v) o): ∃u,o=some u/\RelV v u:=by
  cases o with
  | none=>exact(show False from r).elim
  | some u=>exact⟨u,rfl,r⟩
theorem RelO.none_of {o:Option Value}(r:RelO none o): o=none:=by
  cases o with
  | none=>rfl
  | some u=>exact(show False from r).elim
theorem handed_of {v:V}{u:Value}(r:RelV v u): PySem.W.handedIn u=true:=by
  cases v with
  | non=>cases (show u=Value.none from r);rfl
  | bl b=>cases (show u=Value.bool b from r);rfl
  | int i=>obtain⟨t,e⟩:=(show ∃t,u=Value.int i t from r);cases e;rfl
  | str x=>obtain⟨t,e⟩:=(show ∃t,u=Value.str x t from r);cases e;rfl
  | byt b=>obtain⟨t,e⟩:=(show ∃t,u=Value.bytes b t from r);cases e;rfl
  | flt b=>obtain⟨t,e⟩:=(show ∃t,u=Value.float b t from r);cases e;rfl
  | ref a=>cases (show u=Value.ref a from r);rfl
  | ty n=>cases (show u=Value.type n from r);rfl
section
variable {P:Program}{w:World}{H H':Hp}{h h':Heap}{a C dx:Addr}{fs fs':List (Str×V)}
theorem ins_get (hok:HOk P w H h)(e:H a=some (.ins C dx fs)): ∃mA,ObjM h a dx C mA/\(∀f,RelO (fs.lookup f) (mA f))/\PySem.Within mA (fs.map (·.1))/\fs.length<=1000/\H dx=some (.own a):=by
  obtain⟨d,z,ne,ob,mA,n,r,q⟩:=(show ObjOk P w H h a (.ins C dx fs) from hok a _ e)
  exact⟨mA,⟨ob,n,ne⟩,r,q,z,d⟩
end
structure Cls (K:PySem.W.Frag)(C:Addr): Prop where
  pg:PySem.W.plainGet K C Str.empty=true
  hd:PySem.W.hasDictIn K C=true
  po:PySem.W.plainOver K C=true
  sa:PySem.W.findIn K (.ref C) "__setattr__" = some (some (.builtin "object.__setattr__"))
theorem Cls.get {K:PySem.W.Frag}{C:Addr}(c:Cls K C)(f:Str): PySem.W.plainGet K C f=true:=c.pg
def NoAttr (K:PySem.W.Frag)(C:Addr)(f:Str): Prop:=PySem.W.findIn K (.ref C) f=some none
theorem NoAttr.taker {K:PySem.W.Frag}{C:Addr}{f:Str}(n:NoAttr K C f): PySem.W.takerIn K C f=some none:=by
  unfold PySem.W.takerIn
  rw[show PySem.W.findIn K (.ref C) f=some none from n]
  rfl
structure Meth (K:PySem.W.Frag)(C:Addr)(m:Str)(f:Addr): Prop where
  at_:PySem.W.findIn K (.ref C) m=some (some (.ref f))
  fn:PySem.W.isFn K (.ref f)=true
  kp:PySem.W.keepIn K (.ref f)=true
section
variable {X:Cx}{pins:List (Addr×Obj)}{σ:St}{H:Hp}{s:Shared}{a C dx:Addr}{fs:List (Str×V)}{f:Str}{v:V}{A:Around}{E:Value->Shared->Prop}
theorem getattr_ok {b:Bool}{Q:Value->Shared->Prop}(I:Inv X pins σ H s)(e:H a=some (.ins C dx fs))(c:Cls X.K C)(n:NoAttr X.K C f)(l:fs.lookup f=some v)
    (h:∀u s',Inv X pins σ H s'->RelV v u->Q u s'):wpAny (model X.prog X.w) A (getAttr (.ref a) f b) Q E s:=by
  obtain⟨mA,O,r,_,_,_⟩:=ins_get I.hok e
  obtain⟨u,hu,ru⟩:=RelO.some_of (v:=v) (o:=mA f) (by rw[<-l];exact r f)
  exact get_map I.kIn O (c.get f) c.hd n hu (handed_of ru) (h u _ (I.tok _) ru)
theorem getmeth_ok {m:Str}{g:Addr}{pl:Sem Bool}{Q:Value×List Value->Shared->Prop}(I:Inv X pins σ H s)(e:H a=some (.ins C dx fs))(c:Cls X.K C)(k:Meth X.K C m g)(l:fs.lookup m=none)
    (h:Q (.ref g,[.ref a]) s):wpAny (model X.prog X.w) A (getMethod (.ref a) m pl) Q E s:=by
  obtain⟨mA,O,r,_,_,_⟩:=ins_get I.hok e
  have hn:mA m=none:=RelO.none_of (by rw[<-l];exact r m)
  exact get_meth I.kIn O (c.get m) k.at_ k.fn hn h
theorem setattr_ok {y:V}{u:Value}{Q:Unit->Shared->Prop}(I:Inv X pins σ H s)(e:H a=some (.ins C dx fs))(c:Cls X.K C)(n:NoAttr X.K C f)(hl:fs.length < 1000)(ry:RelV y u)
    (h:∀s',Inv X pins σ (upd H a (.ins C dx (putF f y fs))) s'->Q () s'):wpAny (model X.prog X.w) A (setAttr (.ref a) f u) Q E s:=by
  obtain⟨mA,O,r,wi,_,ho⟩:=ins_get I.hok e
  have hz:(fs.map (·.1)).length<=sizeLine:=by rw[List.length_map,sizeLine_eq];omega
  refine set_map I.kIn O c.sa c.po n.taker c.hd wi hz fun h' O' sb=>h _ ?_
  have hd:∃o,h'.get? dx=some o:=let ⟨o,_,_,e',_⟩:=O'.ns;⟨o,e'⟩
  refine I.write (x:=a) (e:=dx) (by rw[e];exact True.intro) (.inr ho) (fun b q hb z=>(sb.2 b hb).trans z) hd ?_
  refine⟨by rw[upd_ne O.ne];exact ho,?_,O.ne,O'.obj,_,O'.ns,fun g=>?_,fun g hg=>?_⟩
  · have:=length_putF f y fs;omega
  · show RelO ((putF f y fs).lookup g) (if g=f then some u else mA g)
    rw[lookup_putF]
    by_cases q:g=f
    · rw[if_pos q,if_pos q];exact ry
    · rw[if_neg q,if_neg q];exact r g
  · by_cases q:g=f
    · rw[q];exact(keys_putF f y fs).1
    · refine(keys_putF f y fs).2 g (wi g fun z=>hg ?_)
      show (if g=f then some u else mA g)=none
      rw[if_neg q];exact z
theorem Inv.made (I:Inv X pins σ H s): Inv X pins σ (upd (upd H s.heap.objs.size (.own (s.heap.objs.size+1))) (s.heap.objs.size+1) (.ins C s.heap.objs.size []))
    { s with heap:=(s.heap.push PySem.W.emptyDict).push (PySem.W.instObj C s.heap.objs.size) }:=by
  have e1:(s.heap.push PySem.W.emptyDict).get? s.heap.objs.size=some PySem.W.emptyDict:=Heap.get?_push_size s.heap rfl
  have e2:((s.heap.push PySem.W.emptyDict).push (PySem.W.instObj C s.heap.objs.size)).get? (s.heap.objs.size+1)=some (PySem.W.instObj C s.heap.objs.size):=by
    have:=Heap.get?_push_size (s.heap.push PySem.W.emptyDict) (o:=PySem.W.instObj C s.heap.objs.size) rfl
    rwa [Heap.size_push] at this
  have e3:(s.heap.push PySem.W.emptyDict).Ns s.heap.objs.size (fun _=>none):=⟨PySem.W.emptyDict,#[],_,e1,rfl,(fun e he=>absurd he (by simp)),fun _=>rfl⟩
  have I1:=I.laid (a:=s.heap.objs.size) (o:=.own (s.heap.objs.size+1)) (h':=s.heap.push PySem.W.emptyDict) (t':=s.toks) (fun b u q=>Heap.get?_push_of_some _ q) (Nat.le_refl _) ⟨_,e1⟩
  refine I1.laid (a:=s.heap.objs.size+1) (o:=.ins C s.heap.objs.size []) (t':=s.toks) (fun b u q=>Heap.get?_push_of_some _ q) (Nat.le_of_eq (Heap.size_push _ _)) ?_
  have ne:s.heap.objs.size≠s.heap.objs.size+1:=Nat.ne_of_lt (Nat.lt_succ_self _)
  refine⟨by rw[upd_ne ne,upd_same],Nat.zero_le _,ne,e2,fun _=>none,(Heap.Ns1.of_empty e3).at fun o q=>Heap.get?_push_of_some _ q,fun _=>True.intro,fun y hy=>absurd rfl hy⟩
theorem attr_of {prog:Program}{w:World}{env:Env}{e:Expr}{f:Str}{pos:Pos}{s:Shared}{Q:Value->Shared->Prop}(hb:attributeBase e f env (eval e env)=eval e env)
    (h:wpAny (model prog w) A (eval e env) (fun o s₁=>wpAny (model prog w) A (getAttr o f true) Q E s₁) E s):wpAny (model prog w) A (eval (.Attribute e f pos) env) Q E s :=
  Attribute_any_ h (by rw[arm_eval_Attribute,hb])
end
def tFld (K:PySem.W.Frag)(ta:TE)(f:Str): TE:=fun σ H Q=>ta σ H fun x H1=>∃a C dx fs v,x=.ref a/\H1 a=some (.ins C dx fs)/\Cls K C/\NoAttr K C f/\fs.lookup f=some v/\Q v H1
def sFld (K:PySem.W.Frag)(ta tv:TE)(f:Str): TS:=fun D σ H=>tv σ H fun y H1=>ta σ H1 fun x H2=>∃a C dx fs,x=.ref a/\H2 a=some (.ins C dx fs)/\Cls K C/\NoAttr K C f/\fs.length < 1000 ∧
  D.nx σ (upd H2 a (.ins C dx (putF f y fs)))
section
variable {X:Cx}{o e value:Expr}{f:Str}{pos pos' tpos:Pos}{ta tv:TE}
theorem pe_fld (he:PE X e ta)(hb:attributeBase e f X.env (eval e X.env)=eval e X.env): PE X (.Attribute e f pos) (tFld X.K ta f):=by
  intro pins s σ H Q I h
  refine attr_of hb (thn (he pins s σ H _ I h) fun u s1 ⟨x,H1,I1,rx,a,C,dx,fs,v,ex,ea,c,n,l,q⟩=>?_)
  subst ex
  obtain rfl:u=Value.ref a:=rx
  exact getattr_ok I1 ea c n l fun u' s2 I2 ru=>⟨v,H1,I2,ru,q⟩
theorem ps_fld (ha:PE X o ta)(hv:PE X value tv)(hs:swapsWith value (some (.Attribute o f pos')) pos.line X.env=pure false): PS X (.Assign [.Attribute o f pos'] value pos) (sFld X.K ta tv f):=by
  intro pins s σ H D I h
  refine plainObj_wpAny_Assign_Attribute (thn (hv pins s σ H _ I h) fun u s1 ⟨y,H1,I1,ry,q⟩=>thn (ha pins s1 σ H1 _ I1 q) fun ov s2 ⟨x,H2,I2,rx,a,C,dx,fs,ex,ea,c,n,l,q2⟩=>?_) hs
  subst ex
  obtain rfl:ov=Value.ref a:=rx
  exact setattr_ok I2 ea c n l ry fun s3 I3=>⟨σ,_,I3,q2⟩
end
section
variable {X:Cx}{pins:List (Addr×Obj)}{σ:St}{H:Hp}{s:Shared}{A:Around}{E:Value->Shared->Prop}{Q:Value->Shared->Prop}{c:Value}{b:Bool}
inductive TyOf (K:PySem.W.Frag)(H:Hp): V->Value->Prop where
  | non:TyOf K H .non (.type "NoneType")
  | bl (x:Bool):TyOf K H (.bl x) (.type "bool")
  | int (i:Int):TyOf K H (.int i) (.type "int")
  | str (x:Str):TyOf K H (.str x) (.type "str")
  | flt (x:UInt64):TyOf K H (.flt x) (.type "float")
  | lst {a:Addr} {xs:List V} (e:H a=some (.lst xs)):TyOf K H (.ref a) (.type "list")
  | frz {a:Addr} {o:Obj} {xs:List V} (e:H a=some (.frz o (.lst xs))):TyOf K H (.ref a) (.type "list")
  | tup {a:Addr} {xs:List V} (e:H a=some (.tup xs)):TyOf K H (.ref a) (.type "tuple")
  | dK {a:Addr} {kvs:List (Key×V)} (e:H a=some (.dK kvs)):TyOf K H (.ref a) (.type "dict")
  | dT {a:Addr} {kvs:List (List Key×V)} (e:H a=some (.dT kvs)):TyOf K H (.ref a) (.type "dict")
  | ins {a C dx:Addr} {fs:List (Str×V)} (e:H a=some (.ins C dx fs)) (cl:Cls K C) (ha:PySem.W.findIn K (.ref C) "__class__" = some (some (.builtin "object.__class__")))
      (hn:PySem.W.specialIn K (.builtin "object.__class__") "__get__" = some (some (.builtin "getset_descriptor.__get__"))) (htk:PySem.W.takesIn K (.builtin "object.__class__")=some true)
      (hm:PySem.W.mroIn K C (.type "object")=some true):TyOf K H (.ref a) (.ref C)
end
end L2
namespace L2
open PySem PySem.Spec PyProof.Rows
structure Room (k:Nat)(A:Around): Prop where
  hd:A.handled=none
  dp:A.depth+3*k+5 < recursionLimit
  un:A.units+16*k+200 < cLine
theorem Room.mono {j k:Nat}{A:Around}(r:Room k A)(h:j<=k): Room j A:=⟨r.hd,by have:=r.dp;omega,by have:=r.un;omega⟩
theorem Room.deeper {k:Nat}{A:Around}(r:Room (k+1) A)(env:Env): Room k (A.deeper env) :=
  ⟨r.hd,by have:=r.dp;show A.depth+1+3*k+5 < _;omega,by have:=r.un;show A.units+3+16*k+200 < _;omega⟩
theorem make_depth {A:Around}{C:Addr}{us:List Value}{kw:List (Str×Value)}: (A.under (.builtin "type.__call__" ⟨.ref C::us,kw⟩)).depth=A.depth+1:=by
  first | rfl | simp[Around.under,Code.weight,Code.isCreation,Code.isGuard,Code.isCaller,Code.frames,Code.isFrame,guardIds]
theorem make_units {A:Around}{C:Addr}{us:List Value}{kw:List (Str×Value)}: (A.under (.builtin "type.__call__" ⟨.ref C::us,kw⟩)).units=A.units+1:=by
  first | rfl | simp[Around.under,Code.cUnits,Code.frames,Code.isFrame]
theorem Room.make {k:Nat}{A:Around}(r:Room (k+1) A)(C:Addr)(us:List Value)(kw:List (Str×Value)): Room k (A.under (.builtin "type.__call__" ⟨.ref C::us,kw⟩)) :=
  ⟨r.hd,by have:=r.dp;rw[make_depth];omega,by have:=r.un;rw[make_units];omega⟩
theorem Room.depth {k:Nat}{A:Around}(r:Room k A): A.depth < recursionLimit:=by have:=r.dp;omega
theorem Room.units {k:Nat}{A:Around}(r:Room k A): A.units+64 < cLine:=by have:=r.un;omega
def tNil:TA:=fun _ H Q=>Q [] H
def tCons (ta:TE)(tr:TA): TA:=fun σ H Q=>ta σ H fun x H1=>tr σ H1 fun xs H2=>Q (x::xs) H2
section
variable {X:Cx}{e:Expr}{es:List Expr}{te:TE}{t:TA}{pos:Pos}
theorem pa_nil:PA X [] tNil:=fun _ _ _ _ H Q I h=>Calls.spliced_nil ⟨[],H,I,.nil,h⟩
theorem pa_cons (ha:PE X e te)(hr:PA X es t)(hs:starEach (e::es) X.env=(false,eval e X.env)::starEach es X.env:=by rfl): PA X (e::es) (tCons te t):=by
  intro pos pins s σ H Q I h
  rw[hs]
  show wpAny _ _ (spliced ((false,eval e X.env)::backTo pos (starEach es X.env))) _ _ s
  refine Calls.spliced_cons (thn (ha pins s σ H _ I h) fun u s1 ⟨x,H1,I1,r1,q1⟩=>?_)
  exact thn (hr pos pins s1 σ H1 _ I1 q1) fun us s2 ⟨xs,H2,I2,r2,q2⟩=>⟨x::xs,H2,I2,.cons r1 r2,q2⟩
def tTup (t:TA): TE:=fun σ H Q=>t σ H fun xs H1=>xs.length<=sizeLine/\∀p,H1 p=none->Q (.ref p) (upd H1 p (.tup xs))
def tLst (t:TA): TE:=fun σ H Q=>t σ H fun xs H1=>xs.length<=sizeLine/\∀p,H1 p=none->Q (.ref p) (upd H1 p (.lst xs))
theorem pe_tup {x1}(h:PA X es t): PE X (.Tuple es x1 pos) (tTup t):=by
  intro pins s σ H Q I hq
  refine wpAny_Tuple_spliced (thn (h pos pins s σ H _ I hq) fun us s1 ⟨xs,H1,I1,r,z,q⟩=>⟨by rw[<-r.length];exact z,?_⟩)
  have hf:H1 s1.heap.objs.size=none:=I1.hok.fresh (Nat.le_refl _)
  refine⟨.ref s1.heap.objs.size,upd H1 s1.heap.objs.size (.tup xs),I1.laid (t':=s1.toks) (fun b u e=>Heap.get?_push_of_some _ e) (Nat.le_refl _) ?_,rfl,q _ hf⟩
  exact⟨z,us,r,⟨_,Heap.get?_push_size _ rfl,rfl,_,rfl⟩⟩
theorem pe_lst (h:PA X es t): PE X (.List es pos) (tLst t):=by
  intro pins s σ H Q I hq
  refine wpAny_List_spliced (thn (h pos pins s σ H _ I hq) fun us s1 ⟨xs,H1,I1,r,z,q⟩=>⟨by rw[<-r.length];exact z,?_⟩)
  have hf:H1 s1.heap.objs.size=none:=I1.hok.fresh (Nat.le_refl _)
  refine⟨.ref s1.heap.objs.size,upd H1 s1.heap.objs.size (.lst xs),I1.laid (t':=s1.toks) (fun b u e=>Heap.get?_push_of_some _ e) (Nat.le_refl _) ?_,rfl,q _ hf⟩
  exact⟨z,us,0,r,Heap.get?_push_size _ rfl⟩
end
abbrev Sp:=List V->Hp->VK->XK->Prop
abbrev CXT:=List Env->Hp->Shared->XK->Value->Shared->Prop
structure Env0 (P:Program)(w:World)(K:PySem.W.Frag)(mg:Str->Option Value)(base:Heap)(A:Around)(outer:List Env)(s:Shared)(H:Hp): Prop where
  frames:A.frames=some outer
  mod:Mod K mg base
  bs:∀b o,base.get? b=some o->s.heap.get? b=some o/\H b=none
  bsz:base.objs.size<=s.heap.objs.size
  funs:s.heap.FunFrames base outer
  frf:∀b∈frs outer,H b=none
  hok:HOk P w H s.heap
  bare:AllBare s.gens
def CE (outer:List Env)(P:Program)(w:World)(H:Hp)(s:Shared)(Q:VK)(u:Value)(s':Shared): Prop :=
  ∃v H',s'.os=s.os/\AllBare s'.gens/\Un (frs outer) [] H H' s.heap s'.heap/\HOk P w H' s'.heap/\RelV v u/\Q v H'
def CR (CX:CXT)(outer:List Env)(P:Program)(w:World)(H:Hp)(s:Shared)(Q:VK)(E:XK)(r:Result)(s':Shared): Prop :=
  match r with
  | .ok (.ret u)=>CE outer P w H s Q u s'
  | .ok _=>False
  | .error e=>CX outer H s E e s'
structure FnOk (P:Program)(w:World)(K:PySem.W.Frag)(mg:Str->Option Value)(base:Heap)(CX:CXT)(k:Nat)(f:Addr)(fd:FuncData)(ps:List Str)(sp:Sp): Prop where
  len:∀vs H Q E,sp vs H Q E->vs.length=ps.length
  run:∀(A:Around) (outer:List Env) (s:Shared) (H:Hp) (args:Args) (us:List Value) (vs:List V) (Q:VK) (E:XK),Room k A->Env0 P w K mg base A outer s H->BindsTo s fd args (ps.zip us)->Vals vs us->sp vs H Q E ->
    codeAny (model P w) A (.call (.ref f) args) (CR CX outer P w H s Q E) s
theorem Env0.make {P:Program}{w:World}{K:PySem.W.Frag}{mg:Str->Option Value}{base:Heap}{A:Around}{outer:List Env}{s:Shared}{H:Hp}(e:Env0 P w K mg base A outer s H)(C:Addr)(us:List Value)(kw:List (Str×Value)):
    Env0 P w K mg base (A.under (.builtin "type.__call__" ⟨.ref C::us,kw⟩)) outer s H:=⟨by first | exact e.frames | (simpa [Around.under,Code.envs,Code.isFrame,pushEnvs] using e.frames),e.mod,e.bs,e.bsz,e.funs,e.frf,e.hok,e.bare⟩
section
variable {X:Cx}{pins:List (Addr×Obj)}{σ:St}{H:Hp}{s s':Shared}
theorem Inv.env0 (I:Inv X pins σ H s): Env0 X.prog X.w X.K X.mg X.base X.A X.stack s H :=
  ⟨I.ok.frames,I.ok.mod,I.bs,Nat.le_trans I.ok.bsz I.sz,I.stack,I.stkFree,I.hok,I.bare⟩
theorem Inv.after {Q:VK}{u:Value}(I:Inv X pins σ H s)(h:CE X.stack X.prog X.w H s Q u s'): EP X pins σ Q u s':=by
  obtain⟨v,H',os,bare,un,hok,r,q⟩:=h
  obtain⟨hh,g,d,t,os'⟩:=s'
  obtain rfl:os'=s.os:=os
  exact⟨v,H',I.call (h':=hh) (g':=g) (d':=d) (t':=t) (ch:=[]) un hok bare (fun b z=>absurd z (by simp)),r,q⟩
end
def Binds (K:PySem.W.Frag)(fd:FuncData)(ps:List Str)(ds:List Value): Prop :=
  ∀(s:Shared) (us:List Value),K.In s.heap->(us++ds).length=ps.length->BindsTo s fd ⟨us,[]⟩ (ps.zip (us++ds))
theorem Binds.all {K:PySem.W.Frag}{fd:FuncData}{ps:List Str}(h:∀us:List Value,us.length=ps.length->bindArgs fd ⟨us,[]⟩=pure (ps.zip us)): Binds K fd ps []:=fun s us _ hl=>by
  rw[List.append_nil] at hl ⊢
  exact .of_eq (h us hl)
section
variable {X:Cx}{CX:CXT}{k:Nat}{f C:Addr}{fd:FuncData}{ps:List Str}{sp:Sp}{dvs:List V}{ds:List Value}{E:XK}{x m:Str}{p pos apos:Pos}{e o:Expr}{es:List Expr}{ta:TE}{t:TA}
structure Mk (K:PySem.W.Frag)(C f:Addr): Prop where
  makes:PySem.W.makesIn K C=true
  init:PySem.W.findIn K (.ref C) "__init__" = some (some (.ref f))
  fn:PySem.W.isFn K (.ref f)=true
  kp:PySem.W.keepIn K (.ref C)=true
end
section
variable {X:Cx}{CX:CXT}{k:Nat}{f C:Addr}{fd:FuncData}{ps ks:List Str}{sp:Sp}{E:XK}{x m:Str}{p pos apos kpos:Pos}{e o:Expr}{es:List Expr}{kws:List Keyword}{te ta:TE}{t tk:TA}{nm:Option Str}
variable {g:List Value->List Value->List Value}{gV:List V->List V->List V}
end
structure FnScope (N P:List Str)(sc:Scope): Prop where
  kind:sc.kind=.function
  co:sc.isCoroutine=false
  gen:sc.isGenerator=false
  nd:N.Nodup
  pre:N.take P.length=P
  par:∀x∈P,sc.names.lookup x=some .local\/sc.names.lookup x=some .cell
  nofree:∀y∈sc.names,y.2≠.free
theorem bindL_out {kindOf:Str->Option NameKind}{x:Str}: ∀{binds:List (Str×Value)} {m:Str->Option Value},(∀v,(x,v)∉binds)->bindL kindOf binds m x=m x
  | [],_,_=>rfl
  | (n,v)::r,m,h=>by
    unfold bindL
    rw[bindL_out fun w hw=>h w (List.mem_cons_of_mem _ hw)]
    split
    · have:x≠n:=by rintro rfl;exact h v List.mem_cons_self
      simp[this]
    · rfl
theorem bindC_out {kindOf:Str->Option NameKind}{x:Str}: ∀{binds:List (Str×Value)} {m:Str->Option Value},(∀v,(x,v)∉binds)->bindC kindOf binds m x=m x
  | [],_,_=>rfl
  | (n,v)::r,m,h=>by
    unfold bindC
    rw[bindC_out fun w hw=>h w (List.mem_cons_of_mem _ hw)]
    split
    · rfl
    · have:x≠n:=by rintro rfl;exact h v List.mem_cons_self
      simp[this]
theorem bindL_get {kindOf:Str->Option NameKind}{x:Str}{v:Value}: ∀{P:List Str} {vs:List Value} {i:Nat} {m:Str->Option Value},P.Nodup->P[i]?=some x->vs[i]?=some v->kindOf x=some .local ->
    bindL kindOf (P.zip vs) m x=some v
  | [],_,_,_,_,h,_,_=>by simp at h
  | _::_,[],_,_,_,_,h,_=>by simp at h
  | p::P,w::vs,0,m,nd,h1,h2,hk=>by
    simp at h1 h2;subst h1;subst h2
    show bindL kindOf ((p,w)::P.zip vs) m p=_
    unfold bindL
    rw[bindL_out fun v hv=>(List.nodup_cons.mp nd).1 (List.of_mem_zip hv).1,if_pos hk]
    simp
  | p::P,w::vs,i+1,m,nd,h1,h2,hk=>by
    show bindL kindOf ((p,w)::P.zip vs) m x=_
    unfold bindL
    exact bindL_get (i:=i) (List.nodup_cons.mp nd).2 (by simpa using h1) (by simpa using h2) hk
theorem bindC_get {kindOf:Str->Option NameKind}{x:Str}{v:Value}: ∀{P:List Str} {vs:List Value} {i:Nat} {m:Str->Option Value},P.Nodup->P[i]?=some x->vs[i]?=some v->kindOf x≠some .local ->
    bindC kindOf (P.zip vs) m x=some v
  | [],_,_,_,_,h,_,_=>by simp at h
  | _::_,[],_,_,_,_,h,_=>by simp at h
  | p::P,w::vs,0,m,nd,h1,h2,hk=>by
    simp at h1 h2;subst h1;subst h2
    show bindC kindOf ((p,w)::P.zip vs) m p=_
    unfold bindC
    rw[bindC_out fun v hv=>(List.nodup_cons.mp nd).1 (List.of_mem_zip hv).1,if_neg hk]
    simp
  | p::P,w::vs,i+1,m,nd,h1,h2,hk=>by
    show bindC kindOf ((p,w)::P.zip vs) m x=_
    unfold bindC
    exact bindC_get (i:=i) (List.nodup_cons.mp nd).2 (by simpa using h1) (by simpa using h2) hk
def start (N:List Str)(vs:List V): St:=vs.map some++List.replicate (N.length-vs.length) none
def cxOf (CX:CXT)(P:Program)(w:World)(K:PySem.W.Frag)(mg:Str->Option Value)(base:Heap)(N:List Str)(qual:Str)(scope:Scope)(f:Addr)(cd:Value)(A:Around)(outer:List Env)(s:Shared)(H:Hp)(E:XK): Cx where
  prog:=P
  w:=w
  K:=K
  mg:=mg
  base:=base
  A:=A.deeper (envOfC qual scope s.heap.objs.size f cd)
  N:=N
  s₀:=s
  H₀:=H
  env:=envOfC qual scope s.heap.objs.size f cd
  outer:=outer
  stack:=envOfC qual scope s.heap.objs.size f cd::outer
  ex:=[]
  calm:=true
  fn:=fun _=>true
  pn:=[]
  xe:=fun e s'=>wpAny (model P w) (A.deeper (envOfC qual scope s.heap.objs.size f cd)) (leaving (envOfC qual scope s.heap.objs.size f cd) e) (fun _ s''=>CX outer H s E e s'') (fun e' s''=>CX outer H s E e' s'') s'
theorem cell_has {sc:Scope}{n:Nat}{x:Str}(h:sc.names.lookup x=some .cell): ∃c,(cellsFrom n sc.names []).lookup x=some c:=by
  have q:=PySem.W.cellsFrom_some sc.names n [] (.inl h)
  exact Option.isSome_iff_exists.mp q
theorem inv_start {CX:CXT}{P:Program}{w:World}{K:PySem.W.Frag}{mg:Str->Option Value}{base:Heap}{N ps:List Str}{qual:Str}{scope:Scope}{f:Addr}{cd:Value}{A:Around}{outer:List Env}{s s1:Shared}{H:Hp}{E:XK}{us:List Value}{vs:List V}
    (S:FnScope N ps scope) (hd:A.handled=none) (e0:Env0 P w K mg base A outer s H) (hl:vs.length=ps.length) (r:Vals vs us)
    (x:InCallC s s.heap.objs.size (bindL (envOfC qual scope s.heap.objs.size f cd).kindOf (ps.zip us) fun _=>none) (cellsFrom (s.heap.objs.size+1) scope.names []) (bindC (envOfC qual scope s.heap.objs.size f cd).kindOf (ps.zip us) fun _=>none) s1) :
    Inv (cxOf CX P w K mg base N qual scope f cd A outer s H E) [] (start N vs) H s1:=by
  have hpl:ps.length<=N.length:=by have:=congrArg List.length S.pre;rw[List.length_take] at this;omega
  obtain⟨h1,tk,rfl,hk⟩:=x.done
  have noA:∀b:Addr,b∉(cxOf CX P w K mg base N qual scope f cd A outer s H E).ex:=fun b z=>absurd (show b∈([]:List Addr) from z) (by simp)
  refine⟨⟨e0.mod,S.kind,rfl,rfl,Nat.le_refl _,fun y z c h1 h2=>?_,fun y hy=>?_,fun y c _ h=>?_,fun _=>hd,Around.frames_deeper e0.frames,.inr ⟨rfl,rfl⟩,fun b z=>absurd z (noA b),e0.bs,e0.bsz,fun b _ _=>noA b,fun b z=>absurd z (noA b),e0.funs,e0.frf⟩,
    rfl,e0.bare,Un.kept hk,⟨_,x.toInCall.ns,fun i y v h1 h2 h3=>?_⟩,fun y c h=>⟨_,x.cell y c h⟩,e0.hok.fresh (Nat.le_refl _),fun y c h=>?_,fun p hp=>absurd (show p∈([]:List (Addr×Obj)) from hp) (by simp),e0.hok.kept hk,?_⟩
  · exact name_of_addr x.apart (PySem.mem_of_lookup h1) (PySem.mem_of_lookup h2)
  · have hy:scope.names.lookup y=some .cell\/scope.names.lookup y=some .free:=hy
    rcases hy with hy | hy
    · exact cell_has hy
    · exact absurd rfl (S.nofree _ (PySem.mem_of_lookup hy))
  · exact Nat.le_of_lt (x.above y c (PySem.mem_of_lookup h))
  · have hi:i < vs.length:=by
      unfold start at h2
      by_cases hi:i < vs.length
      · exact hi
      · rw[List.getElem?_append_right (by simpa using hi)] at h2
        rw[List.getElem?_replicate] at h2
        split at h2<;>cases h2
    have ha:vs[i]?=some v:=by
      unfold start at h2
      rw[List.getElem?_append_left (by simpa using hi),List.getElem?_map] at h2
      cases e:vs[i]? with
      | none=>rw[e] at h2;cases h2
      | some a=>rw[e] at h2;cases h2;rfl
    obtain⟨u,hu,rv⟩:=r.get ha
    have hp:ps[i]?=some y:=by
      rw[<-S.pre,List.getElem?_take_of_lt (by omega)];exact h1
    have ndP:ps.Nodup:=by rw[<-S.pre];exact S.nd.sublist (List.take_sublist _ _)
    refine⟨u,rv,?_⟩
    rcases S.par y (List.mem_of_getElem? hp) with k | k
    · exact .inl ⟨k,bindL_get ndP hp hu k⟩
    · obtain⟨c,e⟩:=cell_has (n:=s.heap.objs.size+1) k
      refine .inr ⟨.inl k,c,e,?_⟩
      have q:=x.cell y c e
      rw[bindC_get ndP hp hu (by show scope.names.lookup y≠_;rw[k];decide)] at q
      exact q
  · exact e0.hok.fresh (Nat.le_of_lt (x.above y c (PySem.mem_of_lookup h)))
  · unfold start
    show _=N.length
    rw[List.length_append,List.length_map,List.length_replicate]
    omega
theorem fn_of {CX:CXT}{P:Program}{w:World}{K:PySem.W.Frag}{mg:Str->Option Value}{base:Heap}{k:Nat}{f:Addr}{name qual:Str}{params:Arguments}{body:List Stmt}{scope:Scope}{dV kV doc pm cdv ct oc:Value}{an od:Option Addr}
    {osl:Array (Option Value)} {N ps:List Str} {sp:Sp} (lk:K.lookup f=some ⟨oc,od,.func (PySem.W.fnOf name qual params body scope dV kV doc pm an cdv ct),osl⟩) (hcd:PySem.W.codeIn K cdv qual=true) (S:FnScope N ps scope)
    (len:∀vs H Q E,sp vs H Q E->vs.length=ps.length)
    (hbody:∀(A:Around) (outer:List Env) (s:Shared) (H:Hp) (vs:List V) (Q:VK) (E:XK),Room k (A.deeper (envOfC qual scope s.heap.objs.size f cdv))->sp vs H Q E ->
      ∃t,PSs (cxOf CX P w K mg base N qual scope f cdv A outer s H E) body t/\t { nx:=fun _ H'=>Q .non H',rt:=Q } (start N vs) H) :
    FnOk P w K mg base CX (k+1) f (PySem.W.fnOf name qual params body scope dV kV doc pm an cdv ct) ps sp:=by
  refine⟨len,fun A outer s H args us vs Q E hr e0 hb r hsp=>?_⟩
  have hl:=len _ _ _ _ hsp
  have KX:K.In s.heap:=e0.mod.kin.keeps fun b o e=>(e0.bs b o e).1
  have lim:s.heap.NoLimit:=e0.mod.nolimit.keeps fun b o e=>(e0.bs b o e).1
  have hkind:∀y∈ps.zip us,scope.names.lookup y.1=some .local\/(scope.names.lookup y.1=some .cell/\((cellsFrom (s.heap.objs.size+1) scope.names []).lookup y.1).isSome=true):=fun ⟨n,v⟩ hy=>by
    rcases S.par n (List.of_mem_zip hy).1 with q | q
    · exact .inl q
    · exact .inr ⟨q,PySem.W.cellsFrom_some _ _ _ (.inl q)⟩
  refine codeAny_call_function hr.depth (KX _ _ lk) rfl S.co S.gen rfl (PySem.W.codeRec_of KX hcd) (hb _ _ _ _ ?_)
  refine wpAny_newFunctionEnv_cells S.kind hkind fun env he s1 x=>?_
  subst he
  refine⟨lim.keeps x.toInCall.keep,codeAny_func ?_⟩
  obtain⟨t,ht,hq⟩:=hbody A outer s H vs Q E (hr.deeper _) hsp
  have I:Inv (cxOf CX P w K mg base N qual scope f cdv A outer s H E) [] (start N vs) H s1:=inv_start S hr.hd e0 hl r x
  refine wpAny_mono (ht [] s1 (start N vs) H _ I hq) (fun fl s' hs=>?_) fun e s' hs=>hs
  have fin:∀{σ':St} {H':Hp} {v:V} {u:Value},Inv (cxOf CX P w K mg base N qual scope f cdv A outer s H E) [] σ' H' s'->RelV v u->Q v H'->CE outer P w H s Q u s' :=
    fun {σ' H' v u} J rv q=>⟨v,H',J.os,J.bare,J.base,J.hok,rv,q⟩
  cases fl with
  | ret u =>
    obtain⟨v,σ',H',J,rv,q⟩:=hs
    exact fin J rv q
  | next =>
    obtain⟨σ',H',J,q⟩:=hs
    exact fin (v:=V.non) (u:=Value.none) J rfl q
  | brk =>
    obtain⟨_,_,_,q⟩:=hs
    exact False.elim q
  | cont =>
    obtain⟨_,_,_,q⟩:=hs
    exact False.elim q
end L2
namespace L2
open PySem PySem.Spec PyProof.Rows
section
variable {X:Cx}{x:Str}{p pos:Pos}{e:Expr}{es:List Expr}{t:TA}{id T:String}{r:List V->Hp->VK->Prop}
def tCB (r:List V->Hp->VK->Prop)(t:TA): TE:=fun σ H Q=>t σ H fun vs H1=>r vs H1 Q
theorem pe_callB (hc:CallR X (.builtin id) r) (hg:Gl X x) (hm:X.mg x=none) (hv:bootBuiltins x=some (.builtin id)) (ha:PA X (e::es) t) (hn:x ≠ "__name__" := by decide) (hdb:(x==("__debug__" : Str))=false:=by decide)
    (he:starEach (e::es) X.env=(false,eval e X.env)::starEach es X.env:=by rfl) (hpl:(backTo pos (starEach es X.env)).any (·.1)=false:=by rfl):PE X (.Call (.Name x p) (e::es) [] pos) (tCB r t):=by
  intro pins s σ H Q I h
  refine wpAny_Call_Name_kw (ld_blt I hg hm hv ?_ hn hdb)
  exact PyProof.Rows.callWith_builtin1 (thn (ha pos pins s σ H _ I h) fun us s1 ⟨vs,H1,I1,r1,q1⟩=>hc pins s1 σ H1 vs us Q I1 r1 q1) he hpl
theorem pe_callTy (hc:CallR X (.type T) r) (hg:Gl X x) (hm:X.mg x=none) (hv:bootBuiltins x=some (.type T)) (ha:PA X (e::es) t) (hn:x ≠ "__name__" := by decide) (hdb:(x==("__debug__" : Str))=false:=by decide)
    (he:starEach (e::es) X.env=(false,eval e X.env)::starEach es X.env:=by rfl) (hpl:(backTo pos (starEach es X.env)).any (·.1)=false:=by rfl):PE X (.Call (.Name x p) (e::es) [] pos) (tCB r t):=by
  intro pins s σ H Q I h
  refine wpAny_Call_Name_kw (ld_blt I hg hm hv ?_ hn hdb)
  exact PyProof.Rows.callWith_type1 (thn (ha pos pins s σ H _ I h) fun us s1 ⟨vs,H1,I1,r1,q1⟩=>hc pins s1 σ H1 vs us Q I1 r1 q1) he hpl
end
end L2
namespace HT
open PySem PyProof.Rows
section
open PySem.SeqAt
open PySem.AutoSeq1 (wpAny_loadPart')
open PySem.MeetsSeq PySem.MeetsSeq2 PySem.MeetsSeq3
end
section
variable {prog:Program}{w:World}{A:Around}{E:Value->Shared->Prop}{s:Shared}
theorem cat_tup {t b:Addr}{vs ws:List Value}{Q:Value->Shared->Prop}(ht:IsTup s.heap t vs.toArray)(hb:IsTup s.heap b ws.toArray)(hv:vs≠[])
    (h1:ws=[]->Q (.ref t) s) (h2:ws≠[]->Q (.ref s.heap.objs.size) { s with heap:=s.heap.push { cls:=.type "tuple",data:=.seq (vs++ws).toArray } })
    (hsz:vs.length+ws.length<=sizeLine):wpAny (model prog w) A (binaryOp .Add (.ref t) (.ref b)) Q E s:=by
  obtain⟨⟨cls,dd,data,sl⟩,ho,hc,n,hd⟩:=id ht
  obtain⟨⟨cls2,dd2,data2,sl2⟩,ho2,hc2,n2,hd2⟩:=id hb
  simp only at hc hd hc2 hd2
  subst hc hd hc2 hd2
  have e:vs.toArray++ws.toArray=(vs++ws).toArray:=by simp
  by_cases hw:ws=[]
  · exact concat_meets ⟨_,ho,rfl⟩ ⟨_,ho2,rfl⟩ noFill_tuple_add seq_tuple_add PySem.F.slot_tuple_add PySem.F.entry_tuple_add (PySem.F.args_tuple_add_2 _ _)
      (tuple_addW1 t b vs.toArray ws.toArray n n2 dd dd2 sl sl2 (by simpa using hv) (by simp[hw])) ⟨ho,ho2,h1 hw⟩
  · refine concat_meets ⟨_,ho,rfl⟩ ⟨_,ho2,rfl⟩ noFill_tuple_add seq_tuple_add PySem.F.slot_tuple_add PySem.F.entry_tuple_add (PySem.F.args_tuple_add_2 _ _)
      (tuple_addW2 t b vs.toArray ws.toArray n n2 dd dd2 sl sl2 (by simpa using hv) (by simpa using hw) (by rw[List.size_toArray,List.size_toArray];exact hsz)) ⟨ho,ho2,?_⟩
    rw[e]
    exact h2 hw
def sIx (n d:Nat): Option Int->Nat
  | none=>d
  | some v=>if v < 0 then (v+(n:Int)).toNat else min v.toNat n
theorem sIx_none (n d:Nat): sIx n d none=d:=rfl
theorem sIx_nat (n d k:Nat): sIx n d (some (k:Int))=min k n:=by
  show (if (k:Int) < 0 then ((k:Int)+(n:Int)).toNat else min (k:Int).toNat n)=min k n
  rw[if_neg (by omega),Int.toNat_natCast]
theorem sIx_le (n d:Nat)(hd:d<=n)(o:Option Int): sIx n d o<=n:=by
  cases o with
  | none=>exact hd
  | some v =>
    show (if v < 0 then (v+(n:Int)).toNat else min v.toNat n)<=n
    by_cases hv:v < 0
    · rw[if_pos hv];omega
    · rw[if_neg hv];exact Nat.min_le_right _ _
theorem clip_eq (v:Int)(n d:Nat): (if v < 0 then max (v+(n:Int)) 0 else min v (n:Int))=((sIx n d (some v):Nat):Int):=by
  show (if v < 0 then max (v+(n:Int)) 0 else min v (n:Int))=(((if v < 0 then (v+(n:Int)).toNat else min v.toNat n):Nat):Int)
  by_cases hv:v < 0
  · simp only [if_pos hv];omega
  · simp only [if_neg hv];omega
theorem adjust_gen (lo hi:Option Int)(n:Nat): Builtin.Slice.sliceAdjust lo hi 1 (n:Int)=(((sIx n 0 lo:Nat):Int),((sIx n n hi:Nat):Int)):=by
  have h1:¬((1:Int) < 0):=by omega
  unfold Builtin.Slice.sliceAdjust
  simp only [h1,if_false]
  refine Prod.ext ?_ ?_
  · cases lo with
    | none=>rfl
    | some v=>exact clip_eq v n 0
  · cases hi with
    | none=>rfl
    | some v=>exact clip_eq v n n
theorem places_gen (i j:Nat): Builtin.Slice.slicePlaces (i:Int) (j:Int) 1=j-i:=by
  unfold Builtin.Slice.slicePlaces
  have h1:(1:Int) > 0:=by omega
  simp only [h1,if_true,Int.ediv_one]
  split<;>omega
theorem slicePart_ {v:Value}{o:Option Int}{Q:Option Int->Shared->Prop}(p:IsPart v o)(h:Q o s): wpAny (model prog w) A (Builtin.Slice.slicePartIndex v) Q E s:=by
  cases p with
  | none=>exact slicePart_none h
  | int i t=>exact slicePart_int h
theorem sliceApplied_gen {sl:Addr}{vl vu:Value}{lo hi:Option Int}{n:Nat}{Q:Int×Int×Nat->Shared->Prop}(hs:s.heap.IsSliceOf sl vl vu .none)(pl:IsPart vl lo)(pu:IsPart vu hi)
    (h:Q (((sIx n 0 lo:Nat):Int),1,sIx n n hi-sIx n 0 lo) s):wpAny (model prog w) A (Builtin.Slice.sliceApplied (.ref sl) (pure (n:Int))) Q E s:=by
  obtain⟨os,hos,hcs,hds⟩:=id hs
  unfold Builtin.Slice.sliceApplied Builtin.Slice.sliceFields
  refine wpAny_bind (wpAny_bind (wpAny_field hos hds (x:=vl) rfl (wpAny_bind (wpAny_field hos hds (x:=vu) rfl (wpAny_bind (wpAny_field hos hds (x:=.none) rfl (wpAny_pure ?_)))))))
  refine wpAny_bind (slicePart_none ?_)
  show wpAny _ _ (if ((1:Int)==0)=true then _ else _) _ _ s
  rw[if_neg (by decide)]
  refine wpAny_bind (slicePart_ pl (wpAny_bind (slicePart_ pu (wpAny_bind (wpAny_pure ?_)))))
  show wpAny _ _ (match Builtin.Slice.sliceAdjust lo hi 1 (n:Int) with | (lo,hi)=>pure (lo,(1:Int),Builtin.Slice.slicePlaces lo hi 1)) _ _ s
  rw[adjust_gen lo hi n]
  show wpAny _ _ (pure (((sIx n 0 lo:Nat):Int),(1:Int),Builtin.Slice.slicePlaces ((sIx n 0 lo:Nat):Int) ((sIx n n hi:Nat):Int) 1)) _ _ s
  rw[places_gen]
  exact wpAny_pure h
theorem pick_gen (xs:Array Value)(i k:Nat): ((List.range k).filterMap fun (m:Nat)=>xs[((i:Int)+(m:Int)*1).toNat]?).toArray=((xs.toList.drop i).take k).toArray:=by
  have e:(fun (m:Nat)=>xs[((i:Int)+(m:Int)*1).toNat]?)=fun m=>xs[i+m]?:=by
    funext m
    have:((i:Int)+(m:Int)*1).toNat=i+m:=by omega
    rw[this]
  rw[e]
  have:=pick_run xs i k
  rw[List.filterMap_map] at this
  have e2:((fun x=>xs[x]?) ∘ fun x=>i+x)=fun m=>xs[i+m]?:=rfl
  rw[e2] at this
  rw[this]
theorem getItem_tuple_cut {t sl:Addr}{items:Array Value}{vl vu:Value}{lo hi:Option Int}{Q:Value->Shared->Prop}(ht:IsTup s.heap t items)(hs:s.heap.IsSliceOf sl vl vu .none)(pl:IsPart vl lo)(pu:IsPart vu hi)
    (hw:¬(sIx items.size 0 lo=0/\sIx items.size items.size hi=items.size))
    (h:Q (.ref s.heap.objs.size) { s with heap:=s.heap.push { cls:=.type "tuple",data:=.seq ((items.toList.drop (sIx items.size 0 lo)).take (sIx items.size items.size hi-sIx items.size 0 lo)).toArray } })
    (hsz:items.size<=sizeLine):wpAny (model prog w) A (getItem (.ref t) (.ref sl)) Q E s:=by
  have htake:sizeOk (.seq ((items.toList.drop (sIx items.size 0 lo)).take (sIx items.size items.size hi-sIx items.size 0 lo)).toArray):=by
    show ((items.toList.drop (sIx items.size 0 lo)).take (sIx items.size items.size hi-sIx items.size 0 lo)).toArray.size<=sizeLine
    rw[List.size_toArray,List.length_take,List.length_drop,Array.length_toList]
    omega
  have hj:sIx items.size items.size hi<=items.size:=sIx_le _ _ (Nat.le_refl _) hi
  obtain⟨os,hos,hcs,hds⟩:=id hs
  have hTs:s.TypeIs (.ref sl) "slice" := ⟨os,hos,hcs⟩
  unfold getItem
  try with_reducible refine wpAny_holding ?_
  first | refine wpAny_bind (wpAny_pure ?_) | skip
  refine wpAny_bind (wpAny_sequenceKey ht.typeIs (by decide) ?_)
  refine wpAny_bind (wpAny_callSpecial?_slot (name:=Str.ofString "__getitem__") ht.typeIs PyProof.Rows.slot_tuple_getitem
    (wpAny_call_entry PyProof.Rows.slot_tuple_getitem ht.typeIs entry_tuple_getitem ?_ (args_tuple_getitem _ _)))
  show wpAny _ _ (Builtin.Tuple.tupleItemsOf (.ref t) >>= _) _ _ s
  refine wpAny_bind (tupleItemsOf_ ht ?_)
  refine wpAny_bind (wpAny_typeOf hTs ?_)
  rw[if_pos (by decide)]
  refine wpAny_bind (sliceApplied_gen hs pl pu ?_)
  have hno:¬((((sIx items.size 0 lo:Nat):Int)==0&&(1:Int)==1&&(sIx items.size items.size hi-sIx items.size 0 lo)==items.size)=true):=by
    intro q
    rw[Bool.and_eq_true,Bool.and_eq_true] at q
    have q1:((sIx items.size 0 lo:Nat):Int)=0:=eq_of_beq q.1.1
    have q2:sIx items.size items.size hi-sIx items.size 0 lo=items.size:=eq_of_beq q.2
    exact hw ⟨by omega,by omega⟩
  show wpAny _ _ (if (((sIx items.size 0 lo:Nat):Int)==0&&(1:Int)==1&&(sIx items.size items.size hi-sIx items.size 0 lo)==items.size)=true then _ else _) _ _ s
  rw[if_neg hno,pick_gen]
  first
    | exact wpAny_bind (m:=Builtin.Tuple.tupleExact _) (wpAny_newObj_type (wpAny_pure ⟨_,rfl,wpAny_pure h⟩) htake)
    | exact wpAny_bind (m:=Builtin.Tuple.tupleExact _) (wpAny_newObj_type (wpAny_bind (wpAny_pure (wpAny_pure ⟨_,rfl,wpAny_pure h⟩))) htake)
    | exact wpAny_bind (wpAny_bind (m:=Builtin.Tuple.tupleExact _) (wpAny_newObj_type (wpAny_pure (wpAny_pure ⟨_,rfl,wpAny_pure h⟩)) htake))
    | exact wpAny_bind (wpAny_bind (m:=Builtin.Tuple.tupleExact _) (wpAny_newObj_type (wpAny_pure ⟨_,rfl,wpAny_pure h⟩) htake))
end
end HT
namespace L2
open PySem PySem.Spec PyProof.Rows
abbrev TO:=St->Hp->(Option Int->Hp->Prop)->Prop
def PO (X:Cx)(e:Option Expr)(t:TO): Prop :=
  ∀(pins:List (Addr×Obj)) (s:Shared) (σ:St) (H:Hp) (Q:Option Int->Hp->Prop),Inv X pins σ H s->t σ H Q ->
    wpAny (model X.prog X.w) X.A (evalPart e X.env) (fun u s'=>∃o H',Inv X pins σ H' s'/\IsPart u o/\Q o H') X.xe s
def tNoPart:TO:=fun _ H Q=>Q none H
def tPart (t:TE): TO:=fun σ H Q=>t σ H fun x H1=>∃i,x=.int i/\Q (some i) H1
section
variable {X:Cx}{e:Expr}{te:TE}{lo hi:Option Expr}{tl th:TO}{pos p2:Pos}
theorem po_none:PO X none tNoPart:=by
  intro pins s σ H Q I h
  rw[evalPart_none]
  exact wpAny_pure ⟨none,H,I,.none,h⟩
theorem po_some (h:PE X e te): PO X (some e) (tPart te):=by
  intro pins s σ H Q I hw
  rw[evalPart_some]
  refine thn (h pins s σ H _ I hw) fun u s1 ⟨x,H1,I1,r1,q1⟩=>?_
  obtain⟨i,rfl,q⟩:=q1
  obtain⟨t,rfl⟩:=r1
  exact⟨some i,H1,I1,.int i t,q⟩
def SlR (X:Cx)(r:V->Option Int->Option Int->Hp->VK->Prop): Prop :=
  ∀(pins:List (Addr×Obj)) (s:Shared) (σ:St) (H:Hp) (x:V) (v vl vu:Value) (lo hi:Option Int) (sl:Addr) (Q:VK),Inv X pins σ H s->RelV x v->s.heap.IsSliceOf sl vl vu .none->IsPart vl lo->IsPart vu hi->r x lo hi H Q ->
    ∃T id,typeLookup (.type T) "__getitem__" = pure (some (.builtin id))/\s.TypeIs v T/\wpAny (model X.prog X.w) X.A (getItem v (.ref sl)) (EP X pins σ Q) X.xe s
def tSl (r:V->Option Int->Option Int->Hp->VK->Prop)(te:TE)(tl th:TO): TE:=fun σ H Q=>te σ H fun x H1=>tl σ H1 fun l H2=>th σ H2 fun u H3=>r x l u H3 Q
theorem pe_slice {r:V->Option Int->Option Int->Hp->VK->Prop}(hr:SlR X r)(he:PE X e te)(hl:PO X lo tl)(hu:PO X hi th): PE X (.Subscript e (.Slice lo hi none p2) pos) (tSl r te tl th):=by
  intro pins s σ H Q I h
  refine Subscript_ (thn (he pins s σ H _ I h) fun v s1 ⟨x,H1,I1,r1,q1⟩=>?_)
  refine wpAny_Slice (thn (hl pins s1 σ H1 _ I1 q1) fun vl s2 ⟨l,H2,I2,pl,q2⟩=>thn (hu pins s2 σ H2 _ I2 q2) fun vu s3 ⟨u,H3,I3,pu,q3⟩=>?_)
  rw[evalPart_none]
  refine wpAny_pure ?_
  have I4:Inv X pins σ H3 { s3 with heap:=s3.heap.push { cls:=.type "slice",data:=.fields #[vl,vu,.none] } }:=I3.kept (t':=s3.toks) fun b ob q=>Heap.get?_push_of_some _ q
  obtain⟨T,id,hT,ht,hg⟩:=hr pins { s3 with heap:=s3.heap.push { cls:=.type "slice",data:=.fields #[vl,vu,.none] } } σ H3 x v vl vu l u s3.heap.objs.size Q I4 r1 (Heap.IsSliceOf.new ..) pl pu q3
  show wpAny (model X.prog X.w) X.A (subscriptTail e (.Slice lo hi none p2) v (.ref s3.heap.objs.size)) (EP X pins σ Q) X.xe { s3 with heap:=s3.heap.push { cls:=.type "slice",data:=.fields #[vl,vu,.none] } }
  exact tail_any (ops:=[.ref s3.heap.objs.size,v]) ht hT hg (by with_unfolding_all rfl)
def cutV (xs:List V)(lo hi:Option Int): List V:=(xs.drop (HT.sIx xs.length 0 lo)).take (HT.sIx xs.length xs.length hi-HT.sIx xs.length 0 lo)
theorem cutV_length (xs:List V)(lo hi:Option Int): (cutV xs lo hi).length<=xs.length:=by
  unfold cutV
  rw[List.length_take,List.length_drop]
  omega
def rSlT (K:PySem.W.Frag): V->Option Int->Option Int->Hp->VK->Prop:=fun x lo hi H Q=>∃a xs,x=.ref a/\SqT K H a xs ∧
  ¬(HT.sIx xs.length 0 lo=0/\HT.sIx xs.length xs.length hi=xs.length)/\∀p,H p=none->Q (.ref p) (upd H p (.tup (cutV xs lo hi)))
theorem sl_tup:SlR X (rSlT X.K):=by
  intro pins s σ H x v vl vu lo hi sl Q I rx hs pl pu h
  obtain⟨a,xs,rfl,hx,hw,q⟩:=h
  cases rx
  obtain⟨its,r,ht,hz⟩:=I.tuple hx
  have hlen:its.toArray.size=xs.length:=by rw[List.size_toArray];exact r.length.symm
  refine⟨"tuple",_,PyProof.Rows.slot_tuple_getitem.lookup,ht.typeIs,?_⟩
  refine HT.getItem_tuple_cut ht hs pl pu (by rw[hlen];exact hw) ?_ (by rw[hlen];exact hz)
  rw[hlen]
  refine⟨.ref s.heap.objs.size,_,I.laid (t':=s.toks) (o:=.tup (cutV xs lo hi)) (fun b ob q=>Heap.get?_push_of_some _ q) (Nat.le_refl _) ?_,rfl,q _ (I.hok.fresh (Nat.le_refl _))⟩
  exact⟨Nat.le_trans (cutV_length xs lo hi) hz,_,(r.drop (HT.sIx xs.length 0 lo)).take (HT.sIx xs.length xs.length hi-HT.sIx xs.length 0 lo),IsTup.new _ _⟩
def rCatT (K:PySem.W.Frag): R2:=fun x y H Q=>∃a b xs ys,x=.ref a/\y=.ref b/\SqT K H a xs/\SqT K H b ys/\xs≠[]/\xs.length+ys.length<=sizeLine ∧
  (ys=[]->Q (.ref a) H)/\(ys≠[]->∀p,H p=none->Q (.ref p) (upd H p (.tup (xs++ys))))
theorem Vals.nil_iff {xs:List V}{us:List Value}(r:Vals xs us): us=[]↔xs=[]:=by
  cases r with
  | nil=>simp
  | cons _ _=>simp
theorem op_catT:OpR X (binaryOp .Add) (rCatT X.K):=by
  intro pins s σ H x y v u Q I rx ry h
  obtain⟨a,b,xs,ys,rfl,rfl,ha,hb,hx,hz,q1,q2⟩:=h
  cases rx
  cases ry
  obtain⟨its,r1,p1,_⟩:=I.tuple ha
  obtain⟨its2,r2,p2,_⟩:=I.tuple hb
  refine HT.cat_tup p1 p2 (fun z=>hx (r1.nil_iff.mp z)) (fun z=>⟨.ref a,H,I,rfl,q1 (r2.nil_iff.mp z)⟩) (fun z=>?_) (by rw[<-r1.length,<-r2.length];exact hz)
  refine⟨.ref s.heap.objs.size,_,I.laid (t':=s.toks) (o:=.tup (xs++ys)) (fun b ob q=>Heap.get?_push_of_some _ q) (Nat.le_refl _) ?_,rfl,q2 (fun w=>z (r2.nil_iff.mpr w)) _ (I.hok.fresh (Nat.le_refl _))⟩
  exact⟨by rw[List.length_append];exact hz,_,r1.append r2,IsTup.new _ _⟩
end
end L2
namespace L2
open PySem PySem.Spec PyProof.Rows
def ixN (n:Nat)(i:Int): Option Nat:=if 0<=i then (if i < n then some i.toNat else none) else if -(n:Int)<=i then some (i+n).toNat else none
def atI {α:Type}(xs:List α)(i:Int): Option α:=(ixN xs.length i).bind fun j=>xs[j]?
theorem ixN_seq {n:Nat}{i:Int}{j:Nat}(h:ixN n i=some j): seqIndex? i n=some j/\j < n/\-(n:Int)<=i/\i < n:=by
  unfold ixN at h
  by_cases h0:0<=i
  · rw[if_pos h0] at h
    by_cases h1:i < n
    · rw[if_pos h1] at h
      have e:i.toNat=j:=Option.some.inj h
      exact⟨by rw[seqIndex_of h0 h1,e],by omega,by omega,h1⟩
    · rw[if_neg h1] at h;cases h
  · rw[if_neg h0] at h
    by_cases h1:-(n:Int)<=i
    · rw[if_pos h1] at h
      have e:(i+n).toNat=j:=Option.some.inj h
      exact⟨by rw[seqIndex_neg (by omega) h1,e],by omega,h1,by omega⟩
    · rw[if_neg h1] at h;cases h
theorem atI_get {α:Type}{xs:List α}{i:Int}{v:α}(h:atI xs i=some v): ∃j,seqIndex? i xs.length=some j/\xs[j]?=some v/\j < xs.length/\-(xs.length:Int)<=i/\i < xs.length:=by
  unfold atI at h
  cases e:ixN xs.length i with
  | none=>rw[e] at h;cases h
  | some j =>
    rw[e] at h
    obtain⟨h1,h2,h3,h4⟩:=ixN_seq e
    exact⟨j,h1,h,h2,h3,h4⟩
theorem atI_nat {α:Type}{xs:List α}{j:Nat}{v:α}(h:xs[j]?=some v): atI xs (j:Int)=some v:=by
  have hj:j < xs.length:=(List.getElem?_eq_some_iff.mp h).1
  have e:ixN xs.length (j:Int)=some j:=by
    unfold ixN
    rw[if_pos (by omega),if_pos (by omega)];simp
  unfold atI;rw[e];exact h
def PlainIx (b:Expr): Prop:=∀o i,subscripted b false o i=operate [o,i] (getItem o i)
def IxR (X:Cx)(r:R2): Prop :=
  ∀(value slice:Expr) (pins:List (Addr×Obj)) (s:Shared) (σ:St) (H:Hp) (x y:V) (v u:Value) (Q:VK),Inv X pins σ H s->RelV x v->RelV y u->r x y H Q ->
    subscripted slice false v u=operate [v,u] (getItem v u)->wpAny (model X.prog X.w) X.A (subscriptTail value slice v u) (EP X pins σ Q) X.xe s
def MtR (X:Cx)(id:String)(r:V->List V->Hp->VK->Prop): Prop :=
  ∀(pins:List (Addr×Obj)) (s:Shared) (σ:St) (H:Hp) (x:V) (xs:List V) (v:Value) (us:List Value) (Q:VK),Inv X pins σ H s->RelV x v->Vals xs us->r x xs H Q ->
    wpAny (model X.prog X.w) X.A (call (.builtin id) (v::us)) (EP X pins σ Q) X.xe s
section
variable {X:Cx}{a b:Expr}{ta tb:TE}{pos:Pos}
theorem pe_ix {r:R2}(hr:IxR X r)(ha:PE X a ta)(hb:PE X b tb)(hs:PlainIx b): PE X (.Subscript a b pos) (tOp r ta tb):=by
  intro pins s σ H Q I h
  exact Subscript_ (binT ha hb I h fun v u s2 x y H2 I2 rx ry q=>hr a b pins s2 σ H2 x y v u Q I2 rx ry q (hs _ _))
def rIxL (K:PySem.W.Frag): R2:=fun x y H Q=>∃p xs i v,x=.ref p/\y=.int i/\SqL K H p xs/\atI xs i=some v/\Q v H
def rIxT (K:PySem.W.Frag): R2:=fun x y H Q=>∃p xs i v,x=.ref p/\y=.int i/\SqT K H p xs/\atI xs i=some v/\Q v H
def rIxS:R2:=fun x y H Q=>∃z i c,x=.str z/\y=.int i/\z.length<=sizeLine/\atI z.cps.toList i=some c/\Q (.str ⟨#[c]⟩) H
theorem ix_list:IxR X (rIxL X.K):=by
  intro value slice pins s σ H x y v u Q I rx ry h hs
  obtain⟨p,xs,i,z,rfl,rfl,hq,he,q⟩:=h
  cases rx
  obtain⟨t,rfl⟩:=ry
  obtain⟨its,r,pl,hz⟩:=I.list hq
  obtain⟨j,h1,h2,h3,h4,h5⟩:=atI_get he
  obtain⟨w,ew,rw'⟩:=r.get h2
  have hl:=r.length
  have hn:=line63
  have fin:EP X pins σ Q w s:=⟨z,H,I,rw',q⟩
  by_cases h0:0<=i
  · have hj:i.toNat=j:=by
      rw[seqIndex_of h0 h5] at h1
      exact Option.some.inj h1
    exact item_listR pl.isList h0 (by omega) (by rw[hj];simpa using ew) fin hs
  · have hj:(i+(its.toArray.size:Int)).toNat=j:=by
      rw[seqIndex_neg (by omega) h4] at h1
      rw[List.size_toArray,<-hl]
      exact Option.some.inj h1
    exact subscriptTail_builtinR (x:=w) pl.isList.typeIs slot_list_getitem.lookup
      (wpAny_getItem_list_neg (Q:=fun r s'=>r=w/\EP X pins σ Q r s') pl.isList (by omega) (by rw[List.size_toArray]<;>omega) (by omega) (by rw[hj];simpa using ew) ⟨rfl,fin⟩) hs
theorem ix_tup:IxR X (rIxT X.K):=by
  intro value slice pins s σ H x y v u Q I rx ry h hs
  obtain⟨p,xs,i,z,rfl,rfl,hq,he,q⟩:=h
  cases rx
  obtain⟨t,rfl⟩:=ry
  obtain⟨its,r,pl,hz⟩:=I.tuple hq
  obtain⟨j,h1,h2,h3,h4,h5⟩:=atI_get he
  obtain⟨w,ew,rw'⟩:=r.get h2
  have hl:=r.length
  have hn:=line63
  have fin:EP X pins σ Q w s:=⟨z,H,I,rw',q⟩
  exact subscriptTail_builtinR (x:=w) pl.typeIs slot_tuple_getitem.lookup
    (getItem_tuple (j:=j) (Q:=fun r s'=>r=w/\EP X pins σ Q r s') pl (by omega) (by omega) (by rw[List.size_toArray,<-hl];exact h1) (by simpa using ew) ⟨rfl,fin⟩) hs
theorem ix_str:IxR X rIxS:=by
  intro value slice pins s σ H x y v u Q I rx ry h hs
  obtain⟨z,i,c,rfl,rfl,hz,he,q⟩:=h
  obtain⟨t,rfl⟩:=rx
  obtain⟨t',rfl⟩:=ry
  obtain⟨j,h1,h2,h3,h4,h5⟩:=atI_get he
  have hl:z.cps.toList.length=z.length:=by simp[Str.length]
  rw[hl] at h1 h4 h5
  have hn:=line63
  exact tail_any (typeIs_str s z t) slot_str_getitem.lookup (getItem_str (c:=c) (by
    have e1:decide (i < -(2^63:Int))=false:=decide_eq_false (by omega)
    have e2:decide (i>=2^63)=false:=decide_eq_false (by omega)
    rw[e1,e2,Bool.or_false]) (by rw[h1];simpa using h2) ⟨.str ⟨#[c]⟩,H,I.tok _,⟨_,rfl⟩,q⟩) hs
theorem slice_bounds (lo hi:Option Int)(n:Nat): (sliceBounds lo hi none n).1=((HT.sIx n 0 lo:Nat):Int)/\(sliceBounds lo hi none n).2.1=((HT.sIx n n hi:Nat):Int)/\(sliceBounds lo hi none n).2.2=1:=by
  refine⟨?_,?_,rfl⟩
  · cases lo with
    | none=>simp[sliceBounds,HT.sIx]
    | some i =>
      simp only [sliceBounds,HT.sIx,Option.getD_none,show (1:Int) > 0 by decide,if_true]
      by_cases h:i < 0
      · simp only [h,if_true]<;>omega
      · simp only [h,if_false]<;>omega
  · cases hi with
    | none=>simp[sliceBounds,HT.sIx]
    | some i =>
      simp only [sliceBounds,HT.sIx,Option.getD_none,show (1:Int) > 0 by decide,if_true]
      by_cases h:i < 0
      · simp only [h,if_true]<;>omega
      · simp only [h,if_false]<;>omega
theorem slicePick_cut (its:List Value)(lo hi:Option Int): slicePick its.toArray lo hi none=((its.drop (HT.sIx its.length 0 lo)).take (HT.sIx its.length its.length hi-HT.sIx its.length 0 lo)).toArray:=by
  obtain⟨h1,h2,h3⟩:=slice_bounds lo hi its.toArray.size
  unfold slicePick
  rw[h1,h2,h3]
  simp only [sliceRange_one,pick_run,List.size_toArray]<;>rfl
def rSlL (K:PySem.W.Frag): V->Option Int->Option Int->Hp->VK->Prop:=fun x lo hi H Q=>∃a xs,x=.ref a/\SqL K H a xs/\∀p,H p=none->Q (.ref p) (upd H p (.lst (cutV xs lo hi)))
theorem sl_list:SlR X (rSlL X.K):=by
  intro pins s σ H x v vl vu lo hi sl Q I rx hs pl pu h
  obtain⟨a,xs,rfl,hx,q⟩:=h
  cases rx
  obtain⟨its,r,ht,hz⟩:=I.list hx
  have hlen:=r.length
  refine⟨"list",_,slot_list_getitem.lookup,ht.isList.typeIs,?_⟩
  refine wpAny_getItem_list_slice ht.isList hs pl pu .none (by simp) ?_ (by rw[List.size_toArray]<;>omega)
  rw[slicePick_cut,<-hlen]
  refine⟨.ref s.heap.objs.size,_,I.laid (t':=s.toks) (o:=.lst (cutV xs lo hi)) (fun b ob q=>Heap.get?_push_of_some _ q) (Nat.le_refl _) ?_,rfl,q _ (I.hok.fresh (Nat.le_refl _))⟩
  exact⟨Nat.le_trans (cutV_length xs lo hi) hz,_,0,(r.drop (HT.sIx xs.length 0 lo)).take (HT.sIx xs.length xs.length hi-HT.sIx xs.length 0 lo),Heap.get?_push_size _ rfl⟩
def flatV:V->Bool
  | .non=>true
  | .bl _=>true
  | .int _=>true
  | .str _=>true
  | _=>false
def eqV:V->V->Bool
  | .non,.non=>true
  | .bl a,.bl b=>a==b
  | .bl a,.int b=>(if a then 1 else 0)==b
  | .int a,.bl b=>a==(if b then 1 else 0)
  | .int a,.int b=>a==b
  | .str a,.str b=>a==b
  | _,_=>false
theorem eqAt_V {A:Around}{s:Shared}{y x:V}{u v:Value}(ry:RelV y u)(rx:RelV x v)(fy:flatV y=true)(fx:flatV x=true): SeqAt.EqAt A s u v (eqV y x):=by
  cases y with
  | non =>
    cases ry
    cases x with
    | non=>cases rx;exact SeqAt.EqAt.same _
    | bl b=>cases rx;exact SeqAt.EqAt.none_bool b
    | int b=>obtain⟨t,rfl⟩:=rx;exact SeqAt.EqAt.none_int b t
    | str b=>obtain⟨t,rfl⟩:=rx;exact SeqAt.EqAt.none_str b t
    | _=>exact absurd (show false=true from fx) Bool.false_ne_true
  | bl a =>
    cases ry
    cases x with
    | non=>cases rx;exact SeqAt.EqAt.bool_none a
    | bl b=>cases rx;exact SeqAt.EqAt.bool_bool a b
    | int b=>obtain⟨t,rfl⟩:=rx;exact SeqAt.EqAt.bool_int a b t
    | str b=>obtain⟨t,rfl⟩:=rx;exact SeqAt.EqAt.bool_str a b t
    | _=>exact absurd (show false=true from fx) Bool.false_ne_true
  | int a =>
    obtain⟨t',rfl⟩:=ry
    cases x with
    | non=>cases rx;exact SeqAt.EqAt.int_none a t'
    | bl b=>cases rx;exact SeqAt.EqAt.int_bool a t' b
    | int b=>obtain⟨t,rfl⟩:=rx;exact SeqAt.EqAt.int_int a t' b t
    | str b=>obtain⟨t,rfl⟩:=rx;exact SeqAt.EqAt.int_str a t' b t
    | _=>exact absurd (show false=true from fx) Bool.false_ne_true
  | str a =>
    obtain⟨t',rfl⟩:=ry
    cases x with
    | non=>cases rx;exact SeqAt.EqAt.str_none a t'
    | bl b=>cases rx;exact SeqAt.EqAt.str_bool a t' b
    | int b=>obtain⟨t,rfl⟩:=rx;exact SeqAt.EqAt.str_int a t' b t
    | str b=>obtain⟨t,rfl⟩:=rx;exact SeqAt.EqAt.str_str a t' b t
    | _=>exact absurd (show false=true from fx) Bool.false_ne_true
  | _=>exact absurd (show false=true from fy) Bool.false_ne_true
def eqU (x:V)(u:Value): Bool:=match u with
  | .none=>eqV .non x
  | .bool b=>eqV (.bl b) x
  | .int i _=>eqV (.int i) x
  | .str z _=>eqV (.str z) x
  | _=>false
theorem eqU_of {x y:V}{u:Value}(r:RelV y u)(f:flatV y=true): eqU x u=eqV y x:=by
  cases y with
  | non=>cases r;rfl
  | bl b=>cases r;rfl
  | int i=>obtain⟨t,rfl⟩:=r;rfl
  | str z=>obtain⟨t,rfl⟩:=r;rfl
  | _=>exact absurd (show false=true from f) Bool.false_ne_true
theorem any_eqU {x:V}: ∀{xs:List V} {us:List Value},Vals xs us->xs.all flatV=true->us.any (eqU x)=xs.any fun y=>eqV y x
  | _,_,.nil,_=>rfl
  | y::xs,u::us,.cons r t,f=>by
    rw[List.all_cons,Bool.and_eq_true] at f
    rw[List.any_cons,List.any_cons,eqU_of r f.1,any_eqU t f.2]
theorem mem_eqAt {A:Around}{s:Shared}{x:V}{v:Value}(rx:RelV x v)(fx:flatV x=true): ∀{xs:List V} {us:List Value},Vals xs us->xs.all flatV=true->∀u∈us,SeqAt.EqAt A s u v (eqU x u)
  | _,_,.nil,_=>fun u hu=>by cases hu
  | y::xs,u::us,.cons r t,f=>fun u' hu=>by
    rw[List.all_cons,Bool.and_eq_true] at f
    rcases List.mem_cons.mp hu with rfl | hu
    · rw[eqU_of r f.1];exact eqAt_V r rx f.1 fx
    · exact mem_eqAt rx fx t f.2 u' hu
def inV (x:V)(xs:List V): Bool:=xs.any fun y=>eqV y x
def rIn (K:PySem.W.Frag)(neg:Bool): R2:=fun x y H Q=>∃p xs,y=.ref p/\(SqL K H p xs\/SqT K H p xs)/\flatV x=true/\xs.all flatV=true/\Q (.bl (if neg then !inV x xs else inV x xs)) H
theorem op_notIn_seq:OpR X (compareOp .NotIn) (rIn X.K true):=by
  intro pins s σ H x y v u Q I rx ry h
  obtain⟨p,xs,rfl,hq,fx,fs,q⟩:=h
  cases ry
  rcases hq with hq | hq
  · obtain⟨its,r,pl,hz⟩:=I.list hq
    refine SeqAt.notIn_listAt (eqU x) pl.isList (fun w hw=>mem_eqAt rx fx r fs w (by simpa using hw)) ⟨.bl _,H,I,rfl,?_⟩
    rw[show its.toArray.any (eqU x)=its.any (eqU x) by simp,any_eqU r fs]
    exact q
  · obtain⟨its,r,pl,hz⟩:=I.tuple hq
    refine SeqAt.notIn_tupleAt (eqU x) pl (fun w hw=>mem_eqAt rx fx r fs w (by simpa using hw)) ⟨.bl _,H,I,rfl,?_⟩
    rw[show its.toArray.any (eqU x)=its.any (eqU x) by simp,any_eqU r fs]
    exact q
theorem call_len_seq:CallR X (.builtin "len") (fun xs H Q=>∃p ys,xs=[.ref p]/\(SqL X.K H p ys\/SqT X.K H p ys)/\Q (.int ys.length) H):=by
  intro pins s σ H xs us Q I r h
  obtain⟨p,ys,rfl,hq,q⟩:=h
  obtain⟨u,rfl,rx⟩:=vals1 r
  cases rx
  have hn:=line63
  rcases hq with hq | hq
  · obtain⟨its,r',pl,hz⟩:=I.list hq
    have hlen:=r'.length
    exact Calls.call_len_list pl.isList (by simp only [List.size_toArray]<;>omega) ⟨.int ys.length,H,I.tok _,⟨s.toks+1,by rw[List.size_toArray,hlen]⟩,q⟩
  · obtain⟨its,r',pl,hz⟩:=I.tuple hq
    have hlen:=r'.length
    exact len_tuple pl (by simp only [List.size_toArray]<;>omega) ⟨.int ys.length,H,I.tok _,⟨s.toks+1,by rw[List.size_toArray,hlen]⟩,q⟩
theorem call_list_of:CallR X (.type "list") (fun xs H Q=>∃p ys,xs=[.ref p]/\(SqL X.K H p ys\/SqT X.K H p ys)/\∀l,H l=none->Q (.ref l) (upd H l (.lst ys))):=by
  intro pins s σ H xs us Q I r h
  obtain⟨p,ys,rfl,hq,q⟩:=h
  obtain⟨u,rfl,rx⟩:=vals1 r
  cases rx
  have fin:∀(its:List Value),Vals ys its->ys.length<=sizeLine->∀(h':Heap) (c':Nat),(∀b o',s.heap.get? b=some o'->h'.get? b=some o') ->
      h'.get? s.heap.objs.size=some { cls:=.type "list",dict:=none,data:=.seq its.toArray c',slots:=#[] }->EP X pins σ Q (.ref s.heap.objs.size) { s with heap:=h' }:=fun its r' hz h' c' kp e =>
    ⟨.ref s.heap.objs.size,_,I.laid (t':=s.toks) kp (Nat.le_refl _) (show ObjOk X.prog X.w _ h' _ (.lst ys) from ⟨hz,its,c',r',e⟩),rfl,q _ (I.hok.fresh (Nat.le_refl _))⟩
  rcases hq with hq | hq
  · obtain⟨its,r',pl,hz⟩:=I.list hq
    have hlen:=r'.length
    obtain⟨o,ho,hc,n,hd⟩:=pl.isList
    exact call_list_seq p (.inl rfl) ho hc hd (fun h' c' kp e=>fin its r' hz h' c' kp e) (by simp only [List.size_toArray]<;>omega)
  · obtain⟨its,r',pl,hz⟩:=I.tuple hq
    have hlen:=r'.length
    obtain⟨o,ho,hc,n,hd⟩:=pl
    exact call_list_seq p (.inr rfl) ho hc hd (fun h' c' kp e=>fin its r' hz h' c' kp e) (by simp only [List.size_toArray]<;>omega)
theorem call_tuple_of:CallR X (.type "tuple") (fun xs H Q=>∃p ys,xs=[.ref p]/\((SqL X.K H p ys/\∀l,H l=none->Q (.ref l) (upd H l (.tup ys)))\/(SqT X.K H p ys/\Q (.ref p) H))):=by
  intro pins s σ H xs us Q I r h
  obtain⟨p,ys,rfl,h⟩:=h
  obtain⟨u,rfl,rx⟩:=vals1 r
  cases rx
  rcases h with ⟨hq,q⟩ | ⟨hq,q⟩
  · obtain⟨its,r',pl,hz⟩:=I.list hq
    have hlen:=r'.length
    refine call_tuple_list pl.isList (fun h' kp=>?_) (by simp only [List.size_toArray]<;>omega)
    have I1:Inv X pins σ H { s with heap:=h' }:=I.kept (t':=s.toks) kp
    have I2:Inv X pins σ (upd H h'.objs.size (.tup ys)) { s with heap:=h'.push { cls:=.type "tuple",data:=.seq its.toArray } } :=
      I1.laid (t':=s.toks) (fun b o e=>Heap.get?_push_of_some _ e) (Nat.le_refl _) (show ObjOk X.prog X.w _ _ _ (.tup ys) from ⟨hz,its,r',IsTup.new _ _⟩)
    exact⟨.ref h'.objs.size,_,I2,rfl,q _ (I1.hok.fresh (Nat.le_refl _))⟩
  · obtain⟨its,r',pl,hz⟩:=I.tuple hq
    exact call_tuple_same pl ⟨.ref p,H,I,rfl,q⟩
def tyV (K:PySem.W.Frag)(T:String)(x:V)(H:Hp): Prop:=match x with
  | .str _=>T = "str"
  | .int _=>T = "int"
  | .ref p=>(T = "list" ∧ ∃xs,SqL K H p xs)\/(T = "tuple" ∧ ∃o,K.lookup p=some o/\o.cls=.type "tuple" ∧ o.dict=none) ∨
      (T = "dict" ∧ ((∃kvs,H p=some (.dK kvs))\/∃kvs,H p=some (.dT kvs)))\/(T = "set" ∧ ∃S n,H p=some (.set S n))
  | _=>False
theorem tyV_is {pins:List (Addr×Obj)}{σ:St}{H:Hp}{s:Shared}{T:String}{x:V}{v:Value}(I:Inv X pins σ H s)(r:RelV x v)(ty:tyV X.K T x H):
    s.TypeIs v T/\∀a,v=.ref a->∃ob,s.heap.get? a=some ob/\ob.dict=none:=by
  cases x with
  | str z =>
    obtain⟨t,rfl⟩:=r
    cases (show T = "str" from ty)
    exact⟨typeIs_str s z t,fun _ e=>nomatch e⟩
  | int i =>
    obtain⟨t,rfl⟩:=r
    cases (show T = "int" from ty)
    exact⟨typeIs_int s i t,fun _ e=>nomatch e⟩
  | ref p =>
    cases r
    rcases ty with ⟨rfl,xs,hq⟩ | ⟨rfl,o,hk,hc,hd⟩ | ⟨rfl,hk⟩ | ⟨rfl,S,n,hk⟩
    · obtain⟨its,_,pl,_⟩:=I.list hq
      refine⟨pl.isList.typeIs,fun a e=>?_⟩
      cases e
      obtain⟨o,n,e,c,hd,_⟩:=pl
      exact⟨o,e,hd⟩
    · refine⟨⟨o,I.kIn p o hk,hc⟩,fun a e=>?_⟩
      cases e
      exact⟨o,I.kIn _ o hk,hd⟩
    · have z:∃o,s.heap.get? p=some o/\o.ExactDict:=by
        rcases hk with ⟨kvs,hk⟩ | ⟨kvs,hk⟩
        · obtain⟨_,_,_,_,o,_,_,e,ex,_⟩:=I.hok p _ hk
          exact⟨o,e,ex⟩
        · obtain⟨_,_,_,_,o,_,_,e,ex,_⟩:=I.hok p _ hk
          exact⟨o,e,ex⟩
      obtain⟨o,e,ex⟩:=z
      refine⟨⟨o,e,ex.1⟩,fun a e2=>?_⟩
      cases e2
      exact⟨o,e,ex.2.1⟩
    · obtain⟨o,_,_,_,e,ex,_⟩:=I.hok p _ hk
      refine⟨⟨o,e,ex.1⟩,fun a e2=>?_⟩
      cases e2
      exact⟨o,e,ex.2.1⟩
  | _=>exact False.elim ty
def tBM (K:PySem.W.Frag)(T:String)(r:V->List V->Hp->VK->Prop)(to:TE)(t:TA): TE:=fun σ H Q=>to σ H fun x H1=>tyV K T x H1/\t σ H1 fun xs H2=>r x xs H2 Q
variable {o e:Expr}{es:List Expr}{to:TE}{t:TA}{name:Str}{apos cpos:Pos}{T id:String}{r:V->List V->Hp->VK->Prop}
theorem pe_bm (pa:PlainAttrs T) (slot:Slot T name id) (hty:typeOf (.builtin id)=pure (.type "method_descriptor")) (hm:MtR X id r) (ho:PE X o to) (ha:PA X (e::es) t)
    (hbase:attributeBase o name X.env (eval o X.env)=eval o X.env:=by rfl)
    (hfew:((backTo cpos (starEach (e::es) X.env)).all (fun x=>!x.1)&&(backToKw cpos (keywordEach [] X.env)).all (fun x=>x.1.isSome)
      && decide ((e::es).length+([]:List Keyword).length+(if ([]:List Keyword).isEmpty then 0 else 1) < 30))=true:=by rfl)
    (hline:(apos.endLine==cpos.line)=true:=by rfl) (hs:starEach (e::es) X.env=(false,eval e X.env)::starEach es X.env:=by rfl) (hplain:(backTo cpos (starEach es X.env)).any (·.1)=false:=by rfl) :
    PE X (.Call (.Attribute o name apos) (e::es) [] cpos) (tBM X.K T r to t):=by
  intro pins s σ H Q I h
  refine wpAny_Call_method_late hbase hfew hline rfl (thn (ho pins s σ H _ I h) fun v s1 ⟨x,H1,I1,r1,ty,q1⟩=>?_)
  obtain⟨h1,h2⟩:=tyV_is I1 r1 ty
  refine⟨T,id,pa,slot,hty,h1,h2,?_⟩
  have hA:=ha cpos pins s1 σ H1 _ I1 q1
  rw[hs] at hA ⊢
  refine Calls.callWith_builtin (by show (false || (backTo cpos (starEach es X.env)).any (·.1))=false;rw[hplain]<;>rfl) (Calls.evalArgs_plain ?_)
  exact thn hA fun us s2 ⟨vs,H2,I2,r2,q2⟩=>hm pins s2 σ H2 x vs v us Q I2 r1 r2 q2
end
end L2
namespace L2
open PySem PySem.Spec PyProof.Rows
def MtM (X:Cx)(id:String)(r:V->List V->Hp->VK->Prop): Prop :=
  ∀(pins:List (Addr×Obj)) (s:Shared) (σ:St) (H:Hp) (x:V) (xs:List V) (v:Value) (us:List Value) (Q:VK),Inv X pins σ H s->RelV x v->Vals xs us->r x xs H Q ->
    wpAny (model X.prog X.w) X.A (call (.builtin id) (v::us)) (EP X pins σ Q) X.xe s
theorem Vals.one:∀{x:V} {us:List Value},Vals [x] us->∃u,us=[u]/\RelV x u
  | _,_,.cons r .nil=>⟨_,rfl,r⟩
section
variable {X:Cx}{pins:List (Addr×Obj)}{σ:St}{H:Hp}{s:Shared}{l b:Addr}{xs ys zs:List V}
theorem Inv.lset {its its':List Value}{n:Nat}{f:Array Value->Array Value}{t':Nat}(I:Inv X pins σ H s)(hH:H l=some (.lst xs))
    (e:s.heap.get? l=some { cls:=.type "list",data:=.seq its.toArray n }) (hf:f its.toArray=its'.toArray) (hv:Vals ys its') (hz:ys.length<=sizeLine) :
    Inv X pins σ (upd H l (.lst ys)) { s with heap:=s.heap.update l (Obj.mapSeq f),toks:=t' }:=by
  have q:=PySem.IsL.update e f
  rw[hf] at q
  refine I.write (x:=l) (e:=l) (by rw[hH];exact trivial) (.inl rfl) (fun b' u hb hu=>(Heap.get?_update_other s.heap (Obj.mapSeq f) (Ne.symm hb)).trans hu) ⟨_,q⟩ ?_
  exact⟨hz,its',_,hv,q⟩
theorem Inv.lnew {its:List Value}{t':Nat}(I:Inv X pins σ H s)(hv:Vals ys its)(hz:ys.length<=sizeLine):
    Inv X pins σ (upd H s.heap.objs.size (.lst ys)) { s with heap:=s.heap.push { cls:=.type "list",data:=.seq its.toArray },toks:=t' } :=
  I.laid (fun _ _ q=>Heap.get?_push_of_some _ q) (Nat.le_refl _) ⟨hz,its,0,hv,Heap.get?_push_size _ rfl⟩
theorem Inv.fresh (I:Inv X pins σ H s): H s.heap.objs.size=none:=I.hok.fresh (Nat.le_refl _)
theorem Inv.lstM (I:Inv X pins σ H s)(hH:H l=some (.lst xs)): xs.length<=sizeLine/\∃(its:List Value) (n:Nat),Vals xs its/\xs.length=its.length/\s.heap.get? l=some { cls:=.type "list",data:=.seq its.toArray n }:=by
  obtain⟨z,its,n,r,e⟩:=I.hok l _ hH
  exact⟨z,its,n,r,r.length,e⟩
end
section
variable {X:Cx}
def rAppend:V->List V->Hp->VK->Prop:=fun x vs H Q=>∃l xs y,x=.ref l/\vs=[y]/\H l=some (.lst xs)/\xs.length < sizeLine/\Q .non (upd H l (.lst (xs++[y])))
theorem mt_append:MtM X "list.append" rAppend:=by
  intro pins s σ H x vs v us Q I rx rv h
  obtain⟨l,xs,y,rfl,rfl,hH,hz,q⟩:=h
  cases rx
  obtain⟨u,rfl,ru⟩:=rv.one
  obtain⟨z,its,n,r,hl,e⟩:=I.lstM hH
  refine call_meets F.slot_list_append ⟨_,e,rfl⟩ F.entry_list_append (F.args_list_append_2 _ _) (PySem.list_append l its.toArray n u (by rw[List.size_toArray];omega)) ⟨e,?_⟩
  refine⟨.non,_,I.lset (its':=its++[u]) hH e (by simp) (r.append (.cons ru .nil)) ?_,rfl,q⟩
  rw[List.length_append,List.length_singleton]
  omega
end
section
variable {prog:Program}{w:World}{A:Around}{E:Value->Shared->Prop}{s:Shared}
end
section
variable {X:Cx}
end
end L2
namespace Att
open PySem PySem.W PySem.Calls PyProof.Rows
theorem ints_of_wellAll {P:Params}{h:Heap}: ∀(ns:List Int) (vs:List Value),WellAll P h vs (ns.map WData.int)->IntsAre vs ns:=by
  intro ns
  induction ns with
  | nil =>
    intro vs w
    rw[List.map_nil] at w
    cases w
    exact .nil
  | cons n ns ih =>
    intro vs w
    rw[List.map_cons] at w
    cases w with
    | cons a b =>
      cases a
      exact .cons _ _ (ih _ b)
theorem script_of {l:OpenLaw}{n:Nat}(hn:l.most=some n){P:Params}{h:Heap}{args:List WData}{vals:List Value}
    (hpre:l.row.toRowW.claim.pre args=true) (hwl:WellAll P h vals args) :
    ∃a vs ns,vals=[Value.ref a]/\args=[WData.list (ns.map WData.int)]/\h.get? a=some { cls:=.type "list",data:=.seq vs.toArray }/\IntsAre vs ns/\ns.length<=n:=by
  have hsh:WShape.hasAll [] args [.list .int]=true:=(pre_splitW hpre).1
  have hc:l.pre.holds [] { args:=args }=true:=(pre_splitW hpre).2
  obtain⟨d,r,rfl,h1,h2⟩:=hasAllW_cons hsh
  obtain rfl:=hasAllW_nil h2
  obtain⟨xs,rfl,h3⟩:=hasW_list h1
  obtain⟨ns,rfl⟩:=items_int h3
  have hlen:ns.length<=n:=by
    unfold OpenLaw.pre at hc
    have h4:(WTm.not (.lt (.lit (.int (n:Int))) (.len (.arg 0)))).holds [] { args:=[.list (ns.map .int)] }=true:=by
      have h4:=(holds_andW hc).1
      rw[hn] at h4
      exact h4
    have h5:=condW_of h4 (w_not (w_lt w_lit (w_len_list (w_arg rfl))))
    rw[List.length_map] at h5
    refine Nat.le_of_not_lt fun q=>?_
    have q':(n:Int) < ((ns.length:Nat):Int):=by omega
    first
      | (rw[decide_eq_true q'] at h5;exact absurd h5 (by decide))
      | (simp at h5;omega)
  cases hwl with
  | cons w1 w2 =>
    cases w2
    cases w1 with
    | list ho hall=>exact⟨_,_,ns,rfl,rfl,ho,ints_of_wellAll ns _ hall,hlen⟩
theorem post_true (l:OpenLaw)(args:List WData): l.row.toRowW.claim.post args (.bool true) args=true :=
  postW_of (r:=l.row.toRowW) (X:=(true==true))
    (show WShape.has [] (.bool true) .bool=true by first | rfl | decide | simp[WShape.has,WShape.arms,WShape.armsAll])
    (show (WTm.eq .res (.lit (.bool true))).value [] { args:=args,res:=some (.bool true),after:=args }=some (.bool (true==true)) from w_eq_bool (w_res rfl) w_lit) rfl
theorem attach_call {l:OpenLaw}{n:Nat}{q:Program}{loose:List Str}{XP:(Str->Option Value)->Heap->Prop}{YP:World->Heap->Prop}{d:DefRec}
    (hn:l.most=some n) (hdf:d.params.defaults=[])
    (call:∀(w:World) (s₀ s₁:Shared) (mg mb:Str->Option Value) (fa:Addr) (o:Obj) (pm cd doc:Value) (a:Addr) (vs:List Value) (ns:List Int),
      Ground q loose [] XP w s₀ mg mb s₁.heap->YP w s₁.heap ->
      s₁.heap.get? fa=some o->o.data=.func (docDef d.name d.params d.body d.scope pm cd doc)->s₁.heap.CodeRec cd d.name->mg d.name=some (.ref fa) ->
      s₁.heap.get? a=some { cls:=.type "list",data:=.seq vs.toArray }->IntsAre vs ns->ns.length<=n->s₁.gens=#[] ->
      codeAny (model l.prog w) callerA (.call (.ref fa) ⟨[.ref a],[]⟩) (fun r s'=>r=.ok (.ret (.bool true))/\OldK s₁.heap s'.heap/\s'.os=s₁.os/\AllBare s'.gens) s₁) :
    WalkO q loose XP YP l.row.toRowW d [] (fun f vs=>PySem.call f vs):=by
  intro w s₀ s₁ mg mb G Y fa o pm cd doc dV kV ho hd hcd hD hmg hg args vals as hpre hlay hrd hwl hlo
  obtain rfl:dV=.none:=Dflts.none hD hdf
  obtain rfl:kV=.none:=Dflts.noKw hD
  obtain⟨a,vs,ns,rfl,rfl,hobj,hints,hlen⟩:=script_of hn hpre hwl
  refine enter_call (codeAny_mono (call w s₀ s₁ mg mb fa o pm cd doc a vs ns G Y ho (fd_plain hd) hcd hmg hobj hints hlen hg) fun r s' hq=>?_)
  obtain⟨rfl,h2,h3,h4⟩:=hq
  exact⟨.inl ⟨.bool true,.bool true,[],rfl,fun _=>rfl,.bool true,post_true l _,fun _=>⟨List.Pairwise.nil,fun _ hm=>(nomatch hm)⟩⟩,h2,h3,h4⟩
section
variable {prog:Program}{w:World}{A:Around}{E:Value->Shared->Prop}{s:Shared}{K:Frag}
end
end Att
namespace L2
open PySem PySem.Spec PyProof.Rows
theorem vals_ints:∀{vs:List Value} {ns:List Int},IntsAre vs ns->Vals (ns.map V.int) vs
  | _,_,.nil=>.nil
  | _,_,.cons n t h=>.cons ⟨t,rfl⟩ (vals_ints h)
def Only (H:Hp): Prop:=∀b,H b=none\/∃o xs,H b=some (.frz o (.lst xs))
theorem law_call {P:Program}{w:World}{K:PySem.W.Frag}{mg mb:Str->Option Value}{CX:CXT}{k:Nat}{fa a:Addr}{fd:FuncData}{x:Str}{sp:Sp}{s₁:Shared}{vs:List Value}{ns:List Int}
    (KX:K.In s₁.heap) (hns:s₁.heap.Ns mainGlobals mg) (hb:s₁.heap.Ns builtinsNs mb) (hbb:∀x:Str,x ≠ "__name__" -> mb x=bootBuiltins x) (hlim:s₁.heap.NoLimit) (hg:s₁.gens=#[])
    (ha:s₁.heap.get? a=some { cls:=.type "list",data:=.seq vs.toArray }) (hi:IntsAre vs ns) (hl:ns.length<=sizeLine) (hr:Room k callerA)
    (F:∀base:Heap,K.In base->base.Ns mainGlobals mg->FnOk P w K mg base CX k fa fd [x] sp) (hbind:∀(s:Shared) (u:Value),BindsTo s fd ⟨[u],[]⟩ [(x,u)])
    (hsp:∀H:Hp,Only H->SqL K H a (ns.map V.int)->sp [.ref a] H (fun v _=>v=.bl true) fun _ _ _=>False)
    (hCX:∀H e s',CX [] H s₁ (fun _ _ _=>False) e s'->False) :
    codeAny (model P w) callerA (.call (.ref fa) ⟨[.ref a],[]⟩) (fun r s'=>r=.ok (.ret (.bool true))/\OldK s₁.heap s'.heap/\s'.os=s₁.os/\AllBare s'.gens) s₁:=by
  have rv:=vals_ints hi
  have lenV:=hi.length
  have core:∀H:Hp,Only H->SqL K H a (ns.map V.int)->HOk P w H s₁.heap->(∀b,H b≠none->b=a)->(H a≠none->K.lookup a=none) ->
      codeAny (model P w) callerA (.call (.ref fa) ⟨[.ref a],[]⟩) (fun r s'=>r=.ok (.ret (.bool true))/\OldK s₁.heap s'.heap/\s'.os=s₁.os/\AllBare s'.gens) s₁:=by
    intro H hO hS hok hA hK
    have base_of:∀{b:Addr} {o:Obj},s₁.heap.get? b=some o->H b=none->(hidT s₁.heap H).get? b=some o:=fun e n=>hidT_get e n
    have noA:∀{b:Addr} {o:Obj} {es:Array DictEntry} {ep:Nat},s₁.heap.get? b=some o->o.data=.dict es ep->H b=none:=fun {b o es ep} e d=>by
      cases q:H b with
      | none=>rfl
      | some u =>
        have e':b=a:=hA b (by rw[q];simp)
        subst e'
        rw[ha] at e;cases e
        have d':Data.seq vs.toArray _=Data.dict es ep:=d
        cases d'
    have nsK:∀{b:Addr} {m:Str->Option Value},s₁.heap.Ns b m->(hidT s₁.heap H).Ns b m:=fun {b m} ⟨o,es,ep,e,d,r⟩=>⟨o,es,ep,base_of e (noA e d),d,r⟩
    have hKb:K.In (hidT s₁.heap H):=fun b o e=>base_of (KX b o e) (by
      cases q:H b with
      | none=>rfl
      | some u =>
        have e':b=a:=hA b (by rw[q];simp)
        subst e'
        rw[hK (by rw[q];simp)] at e;cases e)
    have hM:Mod K mg (hidT s₁.heap H):=⟨hKb,nsK hns,⟨mb,nsK hb,hbb⟩,let ⟨mc,h1,h2⟩:=hlim;⟨mc,nsK h1,h2⟩⟩
    have e0:Env0 P w K mg (hidT s₁.heap H) callerA [] s₁ H:=⟨rfl,hM,fun b o e=>of_hidT e,Nat.le_of_eq (hidT_size _ _),trivial,fun b hb=>absurd (show b∈([]:List Addr) from hb) (by simp),hok,.of_eq hg⟩
    refine codeAny_mono ((F _ hKb (nsK hns)).run callerA [] s₁ H ⟨[.ref a],[]⟩ [.ref a] [.ref a] _ _ hr e0 (hbind s₁ (.ref a)) (.cons rfl .nil) (hsp H hO hS)) fun r s' h=>?_
    cases r with
    | error e=>exact(hCX H e s' h).elim
    | ok fl =>
      cases fl with
      | next=>exact False.elim h
      | brk=>exact False.elim h
      | cont=>exact False.elim h
      | ret u =>
        obtain⟨v,H',os,bare,un,hok',r',q⟩:=h
        have q':v=.bl true:=q
        subst q'
        obtain rfl:u=Value.bool true:=r'
        refine⟨rfl,OldK.of_keep fun b o e=>?_,os,bare⟩
        cases q:H b with
        | none=>exact un.keep b o e q (by intro z;exact absurd (show b∈([]:List Addr) from z) (by simp)) (by simp)
        | some u =>
          rcases hO b with z | ⟨ob,xs,z⟩
          · rw[q] at z;cases z
          · have z2:=un.frzs b ob _ z
            obtain⟨e1,_⟩:=hok b _ z
            obtain⟨e2,_⟩:=hok' b _ z2
            rw[e] at e1;cases e1
            exact e2
  cases hk:K.lookup a with
  | some o =>
    have e:=KX a o hk
    rw[ha] at e
    cases e
    refine core (fun _=>none) (fun _=>.inl rfl) (.inr ⟨_,vs.toArray,_,hk,rfl,rfl,rfl,by rw[List.size_toArray,lenV];exact hl,by simpa using rv⟩) (fun b u z=>by have z':(none:Option HO)=some u:=z;cases z') (fun b z=>absurd rfl z) fun z=>absurd rfl z
  | none =>
    refine core (fun b=>if b=a then some (.frz { cls:=.type "list",data:=.seq vs.toArray } (.lst (ns.map V.int))) else none) (fun b=>?_) (.inl (.inr ⟨{ cls:=.type "list",data:=.seq vs.toArray },if_pos rfl⟩)) (fun b u z=>?_) (fun b z=>?_) fun _=>hk
    · by_cases hb:b=a
      · exact .inr ⟨_,_,if_pos hb⟩
      · exact .inl (if_neg hb)
    · by_cases hb:b=a
      · have z':=(if_pos hb).symm.trans z
        cases z'
        subst hb
        exact⟨ha,by rw[List.length_map];exact hl,vs,_,rv,ha⟩
      · have z':=(if_neg hb).symm.trans z
        cases z'
    · by_cases hb:b=a
      · exact hb
      · exact absurd (if_neg hb) z
end L2
namespace L2
open PySem PySem.Spec PyProof.Rows
theorem walk_of {l:PySem.W.OpenLaw}{n k:Nat}{q:Program}{loose:List Str}{XP:(Str->Option Value)->Heap->Prop}{YP:World->Heap->Prop}{d:DefRec}{K:Params->PySem.W.Frag}{CX:World->CXT}{sp:World->Sp}{x:Str}
    (hn:l.most=some n) (hn2:n<=sizeLine) (hdf:d.params.defaults=[]) (hr:Room k callerA)
    (hY:∀(w:World) (h:Heap),YP w h->(K w.params).In h)
    (F:∀(w:World) (mg:Str->Option Value) (fa:Addr) (h:Heap),(K w.params).In h->h.Ns mainGlobals mg->mg d.name=some (.ref fa) ->
      ∃fd:FuncData,(∀(s:Shared) (u:Value),BindsTo s fd ⟨[u],[]⟩ [(x,u)]) ∧
        ∀base:Heap,(K w.params).In base->base.Ns mainGlobals mg->FnOk l.prog w (K w.params) mg base (CX w) k fa fd [x] (sp w))
    (hsp:∀(w:World) (H:Hp) (a:Addr) (ns:List Int),ns.length<=n->Only H->SqL (K w.params) H a (ns.map V.int)->sp w [.ref a] H (fun v _=>v=.bl true) fun _ _ _=>False)
    (hCX:∀(w:World) (H:Hp) (s:Shared) (e:Value) (s':Shared),CX w [] H s (fun _ _ _=>False) e s'->False) :
    PySem.W.WalkO q loose XP YP l.row.toRowW d [] (fun f vs=>PySem.call f vs):=by
  refine Att.attach_call hn hdf fun w s₀ s₁ mg mb fa o pm cd doc a vs ns G Y ho hd hcd hmg hobj hints hlen hg=>?_
  have KX:=hY w _ Y
  obtain⟨fd,hb,hF⟩:=F w mg fa _ KX G.T.g hmg
  exact law_call KX G.T.g G.T.b G.T.builtins G.T.nolimit hg hobj hints (Nat.le_trans hlen hn2) hr hF hb (fun H hO hS=>hsp w H a ns hlen hO hS) fun H e s'=>hCX w H s₁ e s'
end L2
namespace L2
open PySem PySem.Spec PyProof.Rows
def inClass (s:Stmt)(j:Nat): Stmt:=match s with
  | .ClassDef _ _ _ body _ _ _ _ _ _ _=>body.getD j (.Pass ⟨0,0,0,0⟩)
  | _=>.Pass ⟨0,0,0,0⟩
def defArgs (s:Stmt): Arguments:=match s with
  | .FunctionDef _ a _ _ _ _ _ _ _ _=>a
  | _=>{ posonlyargs:=[],args:=[],vararg:=none,kwonlyargs:=[],kw_defaults:=[],kwarg:=none,defaults:=[] }
def defBody (s:Stmt): List Stmt:=match s with
  | .FunctionDef _ _ b _ _ _ _ _ _ _=>b
  | _=>[]
def defScope (s:Stmt): Scope:=match s with
  | .FunctionDef _ _ _ _ _ _ sc _ _ _=>sc
  | _=>{ kind:=.function,names:=[],isGenerator:=false,isCoroutine:=false }
abbrev E0:XK:=fun _ _ _=>False
section
variable {P:Program}{w:World}{K:PySem.W.Frag}{mg:Str->Option Value}{base:Heap}
end
section
variable {X:Cx}
theorem pv (i:Nat) {x:Str} {pos:Pos} (hN:X.N[i]?=some x:=by rfl) (hv:Vis X.env.scope x:=by first | exact Or.inl rfl | exact Or.inr (Or.inl rfl) | exact Or.inr (Or.inr rfl)) (hd:(x==("__debug__" : Str))=false:=by decide)
    (hcd:(x==("__classdict__" : Str))=false:=by decide):PE X (.Name x pos) (tVar i):=pe_var hN hv hd hcd
end
theorem iteF {A B:Prop}(h:B): if false=true then A else B:=by
  rw[if_neg Bool.false_ne_true]
  exact h
theorem iteT {A B:Prop}(h:A): if true=true then A else B:=by
  rw[if_pos rfl]
  exact h
theorem iteNS {c A B:Prop}[Decidable c](hc:c)(h:B): if (!decide c)=true then A else B:=by
  rw[decide_eq_true hc]
  exact iteF h
def Same (H H':Hp): Prop:=∀b o,H b=some o->H' b=some o
theorem Same.refl (H:Hp): Same H H:=fun _ _ h=>h
theorem Same.trans {H H1 H2:Hp}(a:Same H H1)(b:Same H1 H2): Same H H2:=fun c o h=>b c o (a c o h)
theorem Same.free {H H':Hp}(e:Same H H'){l:Addr}(h:H' l=Option.none): H l=Option.none:=by
  cases q:H l with
  | none=>rfl
  | some o =>
    rw[e l o q] at h
    cases h
theorem Same.seq {K:PySem.W.Frag}{H H':Hp}{a:Addr}{xs:List V}(e:Same H H')(h:SqL K H a xs): SqL K H' a xs:=by
  rcases h with (h | ⟨o,h⟩) | h
  · exact .inl (.inl (e _ _ h))
  · exact .inl (.inr ⟨o,e _ _ h⟩)
  · exact .inr h
end L2

namespace L2
open PySem PySem.Spec PyProof.Rows
section
variable {κ:Type}[DecidableEq κ]
def valV (kvs:List (κ×V))(k:κ): Option V:=(kvs.find? fun kv=>decide (kv.1=k)).map (·.2)
def putK (kvs:List (κ×V))(k:κ)(v:V): List (κ×V) :=
  if (kvs.any fun kv=>decide (kv.1=k))=true then kvs.map (fun kv=>if kv.1=k then (kv.1,v) else kv) else kvs++[(k,v)]
def dropK (kvs:List (κ×V))(k:κ): List (κ×V):=kvs.filter fun kv=>decide (kv.1≠k)
theorem valV_pos {p:κ×V}{r:List (κ×V)}{k:κ}(e:p.1=k): valV (p::r) k=some p.2:=by simp[valV,List.find?_cons,e]
theorem valV_neg {p:κ×V}{r:List (κ×V)}{k:κ}(e:¬p.1=k): valV (p::r) k=valV r k:=by simp[valV,List.find?_cons,e]
theorem valV_any (k:κ): ∀kvs:List (κ×V),(kvs.any fun kv=>decide (kv.1=k))=(valV kvs k).isSome
  | []=>rfl
  | p::r=>by
    rw[List.any_cons]
    by_cases e:p.1=k
    · simp only [valV_pos e,decide_eq_true e,Bool.true_or,Option.isSome_some]
    · rw[valV_neg e,decide_eq_false e,Bool.false_or];exact valV_any k r
theorem valV_map (k j:κ)(y:V): ∀kvs:List (κ×V),valV (kvs.map fun kv=>if kv.1=k then (kv.1,y) else kv) j=(valV kvs j).map fun x=>if j=k then y else x
  | []=>rfl
  | p::r=>by
    have ih:=valV_map k j y r
    rw[List.map_cons]
    by_cases h:p.1=k
    · rw[if_pos h]
      by_cases e:p.1=j
      · rw[valV_pos (p:=(p.1,y)) e,valV_pos e,Option.map_some,if_pos (e.symm.trans h)]
      · rw[valV_neg (p:=(p.1,y)) e,valV_neg e,ih]
    · rw[if_neg h]
      by_cases e:p.1=j
      · rw[valV_pos (p:=p) e,valV_pos e,Option.map_some,if_neg (fun z=>h (e.trans z))]
      · rw[valV_neg (p:=p) e,valV_neg e,ih]
theorem valV_snoc (k j:κ)(y:V): ∀kvs:List (κ×V),valV kvs k=none->valV (kvs++[(k,y)]) j=if j=k then some y else valV kvs j
  | [],_=>by
    by_cases e:k=j
    · rw[if_pos e.symm];exact valV_pos (p:=(k,y)) e
    · rw[if_neg (fun z=>e z.symm)];exact valV_neg (p:=(k,y)) e
  | p::r,hn=>by
    rw[List.cons_append]
    have hk:¬p.1=k:=fun z=>by rw[valV_pos z] at hn;cases hn
    rw[valV_neg hk] at hn
    have ih:=valV_snoc k j y r hn
    by_cases e:p.1=j
    · rw[valV_pos e,valV_pos e,if_neg (fun z=>hk (e.trans z))]
    · rw[valV_neg e,valV_neg e,ih]
theorem valV_put (kvs:List (κ×V))(k j:κ)(y:V): valV (putK kvs k y) j=if j=k then some y else valV kvs j:=by
  unfold putK
  by_cases a:(kvs.any fun kv=>decide (kv.1=k))=true
  · rw[if_pos a,valV_map]
    rw[valV_any] at a
    by_cases e:j=k
    · obtain⟨x,hx⟩:=Option.isSome_iff_exists.mp a
      rw[if_pos e,e,hx,Option.map_some,if_pos rfl]
    · rw[if_neg e]
      cases valV kvs j with
      | none=>rfl
      | some x=>rw[Option.map_some,if_neg e]
  · rw[if_neg a]
    refine valV_snoc k j y kvs ?_
    rw[valV_any] at a
    cases q:valV kvs k with
    | none=>rfl
    | some x=>rw[q] at a;exact(a rfl).elim
theorem length_putK (kvs:List (κ×V))(k:κ)(v:V): (putK kvs k v).length<=kvs.length+1:=by
  unfold putK
  split
  · rw[List.length_map];omega
  · rw[List.length_append,List.length_cons,List.length_nil];omega
theorem putK_new {kvs:List (κ×V)}{k:κ}(v:V)(h:valV kvs k=none): putK kvs k v=kvs++[(k,v)]:=by
  unfold putK
  rw[valV_any,h]
  exact if_neg (by decide)
theorem RelO.isSome_eq {o:Option V}{u:Option Value}(r:RelO o u): o.isSome=u.isSome:=by
  cases o with
  | none=>cases u with
    | none=>rfl
    | some _=>exact(show False from r).elim
  | some _=>cases u with
    | none=>exact(show False from r).elim
    | some _=>rfl
theorem KV.val {kvs:List (κ×V)}{vs:List (κ×Value)}(r:KV kvs vs)(k:κ): RelO (valV kvs k) (valueAt vs k):=by
  unfold KV at r
  induction r with
  | nil=>exact True.intro
  | @cons p q ps qs h t ih =>
    obtain⟨h1,h2⟩:=h
    by_cases e:p.1=k
    · have e':q.1=k:=h1.symm.trans e
      have b:valueAt (q::qs) k=some q.2:=by simp[valueAt,List.find?_cons,e']
      rw[valV_pos e,b];exact h2
    · have e':¬q.1=k:=fun z=>e (h1.trans z)
      have b:valueAt (q::qs) k=valueAt qs k:=by simp[valueAt,List.find?_cons,e']
      rw[valV_neg e,b];exact ih
theorem KV.any {kvs:List (κ×V)}{vs:List (κ×Value)}(r:KV kvs vs)(k:κ): (kvs.any fun kv=>decide (kv.1=k))=vs.any fun kv=>decide (kv.1=k):=by
  unfold KV at r
  induction r with
  | nil=>rfl
  | cons h t ih=>rw[List.any_cons,List.any_cons,ih,h.1]
theorem KV.repl {kvs:List (κ×V)}{vs:List (κ×Value)}(r:KV kvs vs)(k:κ){y:V}{u:Value}(ry:RelV y u):
    KV (kvs.map fun kv=>if kv.1=k then (kv.1,y) else kv) (vs.map fun kv=>if kv.1=k then (kv.1,u) else kv):=by
  unfold KV at r ⊢
  induction r with
  | nil=>exact .nil
  | @cons p q ps qs h t ih =>
    rw[List.map_cons,List.map_cons]
    refine .cons ?_ ih
    obtain⟨h1,h2⟩:=h
    by_cases e:p.1=k
    · rw[if_pos e,if_pos (h1.symm.trans e)];exact⟨h1,ry⟩
    · rw[if_neg e,if_neg (fun z=>e (h1.trans z))];exact⟨h1,h2⟩
theorem KV.put {kvs:List (κ×V)}{vs:List (κ×Value)}(r:KV kvs vs)(k:κ){y:V}{u:Value}(ry:RelV y u): KV (putK kvs k y) (stored vs k u):=by
  unfold putK stored
  rw[r.any k]
  by_cases e:(vs.any fun kv=>decide (kv.1=k))=true
  · rw[if_pos e,if_pos e];exact r.repl k ry
  · rw[if_neg e,if_neg e];exact Paired.snoc r ⟨rfl,ry⟩
theorem KV.drop {kvs:List (κ×V)}{vs:List (κ×Value)}(r:KV kvs vs)(k:κ): KV (dropK kvs k) (without vs k):=by
  unfold KV at r ⊢
  unfold dropK without
  induction r with
  | nil=>exact .nil
  | @cons p q ps qs h t ih =>
    obtain⟨h1,h2⟩:=h
    rw[List.filter_cons,List.filter_cons]
    by_cases e:p.1=k
    · have a:¬decide (p.1≠k)=true:=by simp[e]
      have b:¬decide (q.1≠k)=true:=by simp[h1.symm.trans e]
      rw[if_neg a,if_neg b];exact ih
    · have e':¬q.1=k:=fun z=>e (h1.trans z)
      have a:decide (p.1≠k)=true:=by simp[e]
      have b:decide (q.1≠k)=true:=by simp[e']
      rw[if_pos a,if_pos b];exact .cons ⟨h1,h2⟩ ih
theorem KV.length {kvs:List (κ×V)}{vs:List (κ×Value)}(r:KV kvs vs): kvs.length=vs.length:=Paired.length r
theorem dropK_le (kvs:List (κ×V))(k:κ): (dropK kvs k).length<=kvs.length:=List.length_filter_le _ _
end
theorem kV_is {P:Program}{w:World}{k:Key}{u:Value}(r:RelV (kV k) u): (mixKind P w).is k u=true:=by
  cases k with
  | inl i=>obtain⟨t,e⟩:=(show ∃t,u=Value.int i t from r);subst e;exact mixKind_int P w i t
  | inr x=>obtain⟨t,e⟩:=(show ∃t,u=Value.str x t from r);subst e;exact mixKind_str P w x t
theorem items_are {P:Program}{w:World}: ∀{ks:List Key} {us:List Value},Vals (ks.map kV) us->ItemsAre (mixKind P w) ks us
  | [],_,r=>by rw[List.map_nil] at r;cases r;exact .nil
  | k::ks,_,r=>by
    rw[List.map_cons] at r
    cases r with
    | cons h t=>exact .cons (kV_is h) (items_are t)
abbrev KT (H:Hp): List (List Key×V)->List (List Key×Addr×Value)->Prop:=Paired fun p q=>p.1=q.1/\H q.2.1=some (.tup (p.1.map kV))/\RelV p.2 q.2.2
theorem KT.val {H:Hp}{kvs:List (List Key×V)}{xs:List (List Key×Addr×Value)}(r:KT H kvs xs)(k:List Key): RelO (valV kvs k) ((atKey xs k).map (·.2)):=by
  induction r with
  | nil=>exact True.intro
  | @cons p q ps qs h t ih =>
    obtain⟨h1,_,h2⟩:=h
    by_cases e:p.1=k
    · have e':q.1=k:=h1.symm.trans e
      have b:atKey (q::qs) k=some q.2:=by simp[atKey,List.find?_cons,e']
      rw[valV_pos e,b];exact h2
    · have e':¬q.1=k:=fun z=>e (h1.trans z)
      have b:atKey (q::qs) k=atKey qs k:=by simp[atKey,List.find?_cons,e']
      rw[valV_neg e,b];exact ih
theorem KT.repl {H:Hp}{kvs:List (List Key×V)}{xs:List (List Key×Addr×Value)}(r:KT H kvs xs)(k:List Key){y:V}{u:Value}(ry:RelV y u):
    KT H (kvs.map fun kv=>if kv.1=k then (kv.1,y) else kv) (xs.map (putAt k u)):=by
  induction r with
  | nil=>exact .nil
  | @cons p q ps qs h t ih =>
    rw[List.map_cons,List.map_cons]
    refine .cons ?_ ih
    obtain⟨h1,h2,h3⟩:=h
    unfold putAt
    by_cases e:p.1=k
    · rw[if_pos e,if_pos (h1.symm.trans e)];exact⟨h1,h2,ry⟩
    · rw[if_neg e,if_neg (fun z=>e (h1.trans z))];exact⟨h1,h2,h3⟩
theorem KT.put {H:Hp}{kvs:List (List Key×V)}{xs:List (List Key×Addr×Value)}(r:KT H kvs xs)(k:List Key){b:Addr}{y:V}{u:Value}(hb:H b=some (.tup (k.map kV)))(ry:RelV y u):
    KT H (putK kvs k y) (storedH xs k b u):=by
  have e:(kvs.any fun kv=>decide (kv.1=k))=(atKey xs k).isSome:=by
    rw[valV_any,(r.val k).isSome_eq,Option.isSome_map]
  unfold putK storedH
  rw[e]
  by_cases q:(atKey xs k).isSome=true
  · rw[if_pos q,if_pos q];exact r.repl k ry
  · rw[if_neg q,if_neg q];exact Paired.snoc r ⟨rfl,hb,ry⟩
theorem KT.keeps {H H':Hp}{kvs:List (List Key×V)}{xs:List (List Key×Addr×Value)}(r:KT H kvs xs)(ht:∀b ys,H b=some (.tup ys)->H' b=some (.tup ys)): KT H' kvs xs :=
  Paired.mapP r fun _ _ z=>⟨z.1,ht _ _ z.2.1,z.2.2⟩
section
variable {P:Program}{w:World}{H:Hp}{h:Heap}{a:Addr}
theorem rd_of {u:HO}(ok:HOk P w H h)(e:Rd H a u): ObjOk P w H h a u:=e.ok ok
theorem dk_rd {kvs:List (Key×V)}(ok:HOk P w H h)(e:Rd H a (.dK kvs)): kvs.length<=sizeLine/\(a==sysModules)=false/\∃vs,KV kvs vs/\h.DictOf (mixKind P w) a vs :=
  show ObjOk P w H h a (.dK kvs) from rd_of ok e
theorem dk_of {kvs:List (Key×V)}(ok:HOk P w H h)(e:H a=some (.dK kvs)): kvs.length<=sizeLine/\(a==sysModules)=false/\∃vs,KV kvs vs/\h.DictOf (mixKind P w) a vs:=dk_rd ok (.inl e)
theorem key_of {ks:List Key}(ok:HOk P w H h)(e:H a=some (.tup (ks.map kV))): (tupleKind (mixKind P w)).is h ks a:=by
  obtain⟨_,its,r,o,h1,h2,n,h3⟩:=(show ObjOk P w H h a (.tup (ks.map kV)) from ok a _ e)
  exact⟨o,its.toArray,n,h1,h2,h3,by simpa using items_are r⟩
theorem dt_rd {kvs:List (List Key×V)}(ok:HOk P w H h)(e:Rd H a (.dT kvs)): kvs.length<=sizeLine/\(a==sysModules)=false ∧
    ∃xs,KT H kvs xs/\h.DictOfH (tupleKind (mixKind P w)) a xs:=by
  obtain⟨z,y,xs,r,o,es,ep,h1,h2,h3,h4,h5⟩:=(show ObjOk P w H h a (.dT kvs) from rd_of ok e)
  refine⟨z,y,xs,r,o,es,ep,h1,h2,h3,h4,fun x hx=>?_,h5⟩
  have all:∀{l:List (List Key×V)} {m:List (List Key×Addr×Value)},KT H l m->∀x∈m,(tupleKind (mixKind P w)).is h x.1 x.2.1:=by
    intro l m q
    induction q with
    | nil=>intro x hx;exact nomatch hx
    | @cons p q ps qs hq t ih =>
      intro x hx
      rcases List.mem_cons.mp hx with e | hx
      · subst e
        exact key_of ok (by rw[<-hq.1];exact hq.2.1)
      · exact ih x hx
  exact all r x hx
theorem dt_of {kvs:List (List Key×V)}(ok:HOk P w H h)(e:H a=some (.dT kvs)): kvs.length<=sizeLine/\(a==sysModules)=false ∧
    ∃xs,KT H kvs xs/\h.DictOfH (tupleKind (mixKind P w)) a xs:=dt_rd ok (.inl e)
end
def DGet (H:Hp)(a:Addr)(y:V)(r:Option V): Prop :=
  (∃kvs k,Rd H a (.dK kvs)/\y=kV k/\r=valV kvs k)\/∃kvs k b,Rd H a (.dT kvs)/\y=.ref b/\H b=some (.tup (k.map kV))/\r=valV kvs k
def DPut (H:Hp)(a:Addr)(y v:V)(H':Hp): Prop :=
  (∃kvs k,H a=some (.dK kvs)/\y=kV k/\kvs.length < sizeLine/\H'=upd H a (.dK (putK kvs k v))) ∨
  ∃kvs k b,H a=some (.dT kvs)/\y=.ref b/\H b=some (.tup (k.map kV))/\kvs.length < sizeLine/\H'=upd H a (.dT (putK kvs k v))
theorem DGet.k {H:Hp}{a:Addr}{kvs:List (Key×V)}{k:Key}(e:H a=some (.dK kvs)): DGet H a (kV k) (valV kvs k):=.inl ⟨kvs,k,.inl e,rfl,rfl⟩
theorem DPut.k {H:Hp}{a:Addr}{kvs:List (Key×V)}{k:Key}{v:V}(e:H a=some (.dK kvs))(hl:kvs.length < sizeLine): DPut H a (kV k) v (upd H a (.dK (putK kvs k v))):=.inl ⟨kvs,k,e,rfl,hl,rfl⟩
section
variable {X:Cx}{pins:List (Addr×Obj)}{σ:St}{H:Hp}{s:Shared}{a:Addr}{y v:V}{u r:Value}{o:Option V}{A:Around}{E:Value->Shared->Prop}
theorem Inv.big (I:Inv X pins σ H s): sysModules < s.heap.objs.size:=by
  have h:mainGlobals < s.heap.objs.size:=(I.mod.glob.keeps I.bk).lt
  exact Nat.lt_trans (by decide) h
theorem d_getItem {Q:Value->Shared->Prop}(hu:A.units+1 < cLine)(I:Inv X pins σ H s)(g:DGet H a y (some v))(ry:RelV y u)(h:∀w' s',Inv X pins σ H s'->RelV v w'->Q w' s'):
    wpAny (model X.prog X.w) A (getItem (.ref a) u) Q E s:=by
  rcases g with ⟨kvs,k,e,ey,l⟩ | ⟨kvs,k,b,e,ey,eb,l⟩
  · subst ey
    obtain⟨z,hd,vs,rel,dd⟩:=dk_rd I.hok e
    obtain⟨w',hw,rw'⟩:=RelO.some_of (v:=v) (o:=valueAt vs k) (by rw[l];exact rel.val k)
    exact wpAny_getItem_of (kV_is ry) dd.mapOf hw (h w' _ (I.tok _) rw')
  · subst ey
    cases (show u=Value.ref b from ry)
    obtain⟨z,hd,xs,rel,dd⟩:=dt_rd I.hok e
    obtain⟨w',hw,rw'⟩:=RelO.some_of (v:=v) (o:=(atKey xs k).map (·.2)) (by rw[l];exact rel.val k)
    obtain⟨p,hp,hp2⟩:=Option.map_eq_some_iff.mp hw
    refine wpAny_getItem_heap (tupleKind_room_in1 hu) (key_of I.hok eb) dd hp ?_
    rw[hp2]
    exact h w' _ (I.tok _) rw'
theorem d_notIn {Q:Value->Shared->Prop}(hu:A.units+1 < cLine)(I:Inv X pins σ H s)(g:DGet H a y o)(ry:RelV y u)(h:∀s',Inv X pins σ H s'->Q (.bool (!o.isSome)) s'):
    wpAny (model X.prog X.w) A (compareOp .NotIn u (.ref a)) Q E s:=by
  rcases g with ⟨kvs,k,e,ey,l⟩ | ⟨kvs,k,b,e,ey,eb,l⟩
  · subst ey
    obtain⟨z,hd,vs,rel,dd⟩:=dk_rd I.hok e
    refine wpAny_notIn_of (kV_is ry) hd dd.mapOf ?_
    rw[<-(rel.val k).isSome_eq,<-l]
    exact h _ (I.tok _)
  · subst ey
    cases (show u=Value.ref b from ry)
    obtain⟨z,hd,xs,rel,dd⟩:=dt_rd I.hok e
    refine wpAny_notIn_heap (tupleKind_room_in1 hu) (key_of I.hok eb) hd dd ?_
    have q:=(rel.val k).isSome_eq
    rw[Option.isSome_map] at q
    rw[<-q,<-l]
    exact h _ (I.tok _)
theorem d_write {h':Heap}{t':Nat}{ob:HO}(I:Inv X pins σ H s)(mu:Mut (H a))(hs:Heap.SameBut a s.heap h')(he:∃q,h'.get? a=some q)(new:ObjOk X.prog X.w (upd H a ob) h' a ob):
    Inv X pins σ (upd H a ob) { s with heap:=h',toks:=t' } :=
  I.write (x:=a) (e:=a) mu (.inl rfl) (fun b q hb z=>(hs.2 b hb).trans z) he new
theorem dk_new {P:Program}{w:World}{H':Hp}{h':Heap}{kvs:List (Key×V)}{vs:List (Key×Value)}(z:kvs.length<=sizeLine)(hd:(a==sysModules)=false)(rel:KV kvs vs)(dd:h'.DictOf (mixKind P w) a vs):
    ObjOk P w H' h' a (.dK kvs):=⟨z,hd,vs,rel,dd⟩
theorem d_setItem {H':Hp}{Q:Unit->Shared->Prop}(hu:A.units+1 < cLine)(I:Inv X pins σ H s)(g:DPut H a y v H')(ry:RelV y u)(rv:RelV v r)(h:∀s',Inv X pins σ H' s'->Q () s'):
    wpAny (model X.prog X.w) A (setItem (.ref a) u r) Q E s:=by
  rcases g with ⟨kvs,k,e,ey,l,eH⟩ | ⟨kvs,k,b,e,ey,eb,l,eH⟩
  · subst ey eH
    obtain⟨z,hd,vs,rel,dd⟩:=dk_of I.hok e
    have hz:vs.length<=sizeLine:=by rw[<-rel.length];exact z
    have hl:(putK kvs k v).length<=sizeLine:=by have:=length_putK kvs k v;omega
    refine wpAny_setItem_pairs (hsz:=hz) (kV_is ry) dd fun h' dd' hs=>h _ ?_
    have he:∃q,h'.get? a=some q:=let ⟨q,_,_,hq,_⟩:=dd';⟨q,hq⟩
    exact d_write I (by rw[e];exact True.intro) hs he (dk_new hl hd (rel.put k rv) dd')
  · subst ey eH
    cases (show u=Value.ref b from ry)
    obtain⟨z,hd,xs,rel,dd⟩:=dt_of I.hok e
    have hz:xs.length<=sizeLine:=by rw[<-Paired.length rel];exact z
    have hl:(putK kvs k v).length<=sizeLine:=by have:=length_putK kvs k v;omega
    refine wpAny_setItem_heap (hsz:=hz) (tupleKind_room_in1 hu) (key_of I.hok eb) dd fun h' dd' hs=>h _ ?_
    obtain⟨q,es,ep,hq,h2,h3,h4,_,h5⟩:=dd'
    refine d_write I (by rw[e];exact True.intro) hs ⟨q,hq⟩ ⟨hl,hd,_,(rel.put k eb rv).keeps fun c ys ec=>?_,q,es,ep,hq,h2,h3,h4,h5⟩
    rw[upd_ne (ne_of ec e (fun z=>nomatch z))]
    exact ec
end
section
variable {X:Cx}{pins:List (Addr×Obj)}{σ:St}{H:Hp}{s:Shared}{a:Addr}{kvs:List (Key×V)}{k:Key}{u:Value}{A:Around}{E:Value->Shared->Prop}
theorem d_pop {v:V}{more:List Value}{Q:Value->Shared->Prop}(I:Inv X pins σ H s)(e:H a=some (.dK kvs))(ry:RelV (kV k) u)(l:valV kvs k=some v)(hm:more=[]\/∃x,more=[x])
    (h:∀w' s',Inv X pins σ (upd H a (.dK (dropK kvs k))) s'->RelV v w'->Q w' s'):wpAny (model X.prog X.w) A (call (.builtin "dict.pop") (.ref a::u::more)) Q E s:=by
  obtain⟨z,hd,vs,rel,dd⟩:=dk_of I.hok e
  obtain⟨w',hw,rw'⟩:=RelO.some_of (v:=v) (o:=valueAt vs k) (by rw[<-l];exact rel.val k)
  have hp:(keyPart u).isSome=true:=by
    cases k with
    | inl i=>obtain⟨t,q⟩:=(show ∃t,u=Value.int i t from ry);subst q;rfl
    | inr x=>obtain⟨t,q⟩:=(show ∃t,u=Value.str x t from ry);subst q;rfl
  have ha:argsOk "dict.pop" ⟨.ref a::u::more,[]⟩:=by
    rcases hm with q | ⟨x,q⟩
    · subst q;exact PySem.F.args_dict_pop_2 _ _
    · subst q;exact PySem.F.args_dict_pop_3 _ _ _
  refine call_meetsIn PySem.F.slot_dict_pop dd.typeIs PySem.F.entry_dict_pop ha (meets_dict_pop_there (mixKind X.prog X.w) a (kV_is ry) more hm hp)
    ⟨vs,w',dd,by rw[<-rel.length];exact z,hw,fun h' dd' hs=>h w' _ ?_ rw'⟩
  have he:∃q,h'.get? a=some q:=let ⟨q,_,_,hq,_⟩:=dd';⟨q,hq⟩
  exact d_write I (by rw[e];exact True.intro) hs he (dk_new (Nat.le_trans (dropK_le kvs k) z) hd (rel.drop k) dd')
theorem d_popD {r:Value}{Q:Value->Shared->Prop}(I:Inv X pins σ H s)(e:H a=some (.dK kvs))(ry:RelV (kV k) u)(l:valV kvs k=none)(h:∀s',Inv X pins σ H s'->Q r s'):
    wpAny (model X.prog X.w) A (call (.builtin "dict.pop") [.ref a,u,r]) Q E s:=by
  obtain⟨z,hd,vs,rel,dd⟩:=dk_of I.hok e
  have hn:valueAt vs k=none:=RelO.none_of (by rw[<-l];exact rel.val k)
  have hp:(keyPart u).isSome=true:=by
    cases k with
    | inl i=>obtain⟨t,q⟩:=(show ∃t,u=Value.int i t from ry);subst q;rfl
    | inr x=>obtain⟨t,q⟩:=(show ∃t,u=Value.str x t from ry);subst q;rfl
  exact call_meetsIn PySem.F.slot_dict_pop dd.typeIs PySem.F.entry_dict_pop (PySem.F.args_dict_pop_3 _ _ _) (meets_dict_pop_default (mixKind X.prog X.w) a (kV_is ry) hd hp r) ⟨vs,dd,hn,h _ (I.tok _)⟩
theorem d_len {Q:Value->Shared->Prop}(I:Inv X pins σ H s)(e:Rd H a (.dK kvs))(h:∀t s',Inv X pins σ H s'->Q (.int kvs.length t) s'): wpAny (model X.prog X.w) A (call (.builtin "len") [.ref a]) Q E s:=by
  obtain⟨z,hd,vs,rel,dd⟩:=dk_rd I.hok e
  refine call_len_dict hd dd (by rw[<-rel.length];rw[sizeLine_eq] at z;omega) ?_
  rw[<-rel.length]
  exact h _ _ (I.tok _)
end
def NoSl (i:Expr): Prop:=∀ov iv,subscripted i false ov iv=operate [ov,iv] (getItem ov iv)
theorem subD_of {prog:Program}{w:World}{A:Around}{E:Value->Shared->Prop}{s:Shared}{env:Env}{value slice:Expr}{pos:Pos}{T id:String}{Q:Value->Shared->Prop}
    (hl:typeLookup (.type T) "__getitem__" = pure (some (.builtin id))) (hs:NoSl slice)
    (h:wpAny (model prog w) A (eval value env) (fun o s₁=>wpAny (model prog w) A (eval slice env) (fun i s₂=>s₂.TypeIs o T/\wpAny (model prog w) A (getItem o i) Q E s₂) E s₁) E s) :
    wpAny (model prog w) A (eval (.Subscript value slice pos) env) Q E s:=by
  refine Subscript_ (wpAny_mono h (fun o s₁ h₁=>wpAny_mono h₁ (fun i s₂ h₂=>?_) fun _ _ x=>x) fun _ _ x=>x)
  obtain⟨hT,h₂⟩:=h₂
  unfold subscriptTail
  refine wpAny_bind ?_
  rw[getitemInPython_of_ne hT.not_modules]
  refine wpAny_bind (wpAny_specialOf hT hl ?_)
  have fin:wpAny (model prog w) A (subscripted slice false o i) (fun r s₃=>wpAny (model prog w) A (letTemporaryGo value o r >>= fun _=>pure r) Q E s₃) E s₂:=by
    rw[hs o i]
    exact wpAny_operating (wpAny_mono h₂ (fun r s₃ h₃=>wpAny_bind (wpAny_letTemporaryGo (wpAny_pure h₃))) fun _ _ x=>x)
  first
    | exact wpAny_pure (wpAny_bind fin)
    | exact wpAny_bind (wpAny_pure (wpAny_bind fin))
    | exact wpAny_bind fin
theorem dict_typeIs {X:Cx}{pins:List (Addr×Obj)}{σ:St}{H:Hp}{s:Shared}{a:Addr}{y:V}{o:Option V}(I:Inv X pins σ H s)(g:DGet H a y o): s.TypeIs (.ref a) "dict" := by
  rcases g with ⟨kvs,k,e,_,_⟩ | ⟨kvs,k,b,e,_,_,_⟩
  · obtain⟨_,_,vs,_,dd⟩:=dk_rd I.hok e
    exact dd.typeIs
  · obtain⟨_,_,xs,_,dd⟩:=dt_rd I.hok e
    exact dd.typeIs
def tDGet (td ty:TE): TE:=fun σ H Q=>td σ H fun x H1=>ty σ H1 fun y H2=>∃a v,x=.ref a/\DGet H2 a y (some v)/\Q v H2
def sDPut (td ty tv:TE): TS:=fun D σ H=>tv σ H fun v H1=>td σ H1 fun x H2=>ty σ H2 fun y H3=>∃a H4,x=.ref a/\DPut H3 a y v H4/\D.nx σ H4
section
variable {X:Cx}{o i e value:Expr}{pos pos' tpos:Pos}{td ty tv:TE}
theorem pe_dget (hu:X.A.units+1 < cLine)(ho:PE X o td)(hi:PE X i ty)(hs:NoSl i): PE X (.Subscript o i pos) (tDGet td ty):=by
  intro pins s σ H Q I h
  refine subD_of PySem.F.slot_dict_getitem.lookup hs (thn (ho pins s σ H _ I h) fun u s1 ⟨x,H1,I1,rx,q1⟩=>thn (hi pins s1 σ H1 _ I1 q1) fun iv s2 ⟨y,H2,I2,ry,a,v,ex,g,q2⟩=>?_)
  subst ex
  obtain rfl:u=Value.ref a:=rx
  exact⟨dict_typeIs I2 g,d_getItem hu I2 g ry fun w' s3 I3 rw'=>⟨v,H2,I3,rw',q2⟩⟩
theorem ps_dput (hu:X.A.units+1 < cLine)(ho:PE X o td)(hi:PE X i ty)(hv:PE X value tv)(hs:swapsWith value (some (.Subscript o i pos')) pos.line X.env=pure false):
    PS X (.Assign [.Subscript o i pos'] value pos) (sDPut td ty tv):=by
  intro pins s σ H D I h
  refine wpAny_Assign_Subscript (thn (hv pins s σ H _ I h) fun r s1 ⟨v,H1,I1,rv,q1⟩=>thn (ho pins s1 σ H1 _ I1 q1) fun u s2 ⟨x,H2,I2,rx,q2⟩=>thn (hi pins s2 σ H2 _ I2 q2) fun iv s3 ⟨y,H3,I3,ry,a,H4,ex,g,q3⟩=>?_) hs
  subst ex
  obtain rfl:u=Value.ref a:=rx
  exact d_setItem hu I3 g ry rv fun s4 I4=>⟨σ,H4,I4,q3⟩
end
theorem dk_empty {P:Program}{w:World}{H:Hp}(h:Heap)(hb:sysModules < h.objs.size): ObjOk P w H (h.push { cls:=.type "dict",data:=.dict #[] }) h.objs.size (.dK []) :=
  ⟨Nat.zero_le _,beq_eq_false_iff_ne.mpr (Ne.symm (Nat.ne_of_lt hb)),[],.nil,Heap.DictOf.new h⟩
def tDNewK:TE:=fun _ H Q=>∀p,H p=none->Q (.ref p) (upd H p (.dK []))
section
variable {X:Cx}{pos:Pos}
theorem pe_dnewK:PE X (.Dict [] [] pos) tDNewK:=fun pins s σ H Q I h =>
  wpAny_Dict_empty ⟨.ref s.heap.objs.size,_,I.laid (a:=s.heap.objs.size) (o:=.dK []) (t':=s.toks) (fun _ _ q=>Heap.get?_push_of_some _ q) (Nat.le_refl _) (dk_empty s.heap I.big),rfl,h _ (I.hok.fresh (Nat.le_refl _))⟩
end
structure M1 (X:Cx)(o:Expr)(m:Str)(apos:Pos)(e:Expr)(cpos:Pos): Prop where
  base:attributeBase o m X.env (eval o X.env)=eval o X.env
  few:((backTo cpos (starEach [e] X.env)).all (fun x=>!x.1)&&(backToKw cpos (keywordEach [] X.env)).all (fun x=>x.1.isSome)
    && decide (([e]:List Expr).length+([]:List Keyword).length+(if ([]:List Keyword).isEmpty then 0 else 1) < 30))=true
  line:(apos.endLine==cpos.line)=true
  trees:backTo cpos (starEach [e] X.env)=[(false,eval e X.env)]
structure M2 (X:Cx)(o:Expr)(m:Str)(apos:Pos)(e f:Expr)(cpos:Pos): Prop where
  base:attributeBase o m X.env (eval o X.env)=eval o X.env
  few:((backTo cpos (starEach [e,f] X.env)).all (fun x=>!x.1)&&(backToKw cpos (keywordEach [] X.env)).all (fun x=>x.1.isSome)
    && decide (([e,f]:List Expr).length+([]:List Keyword).length+(if ([]:List Keyword).isEmpty then 0 else 1) < 30))=true
  line:(apos.endLine==cpos.line)=true
  trees:backTo cpos (starEach [e,f] X.env)=[(false,eval e X.env),(false,eval f X.env)]
def IsD (H:Hp)(a:Addr): Prop:=(∃kvs,Rd H a (.dK kvs))\/∃kvs,Rd H a (.dT kvs)
theorem isD_at {X:Cx}{pins:List (Addr×Obj)}{σ:St}{H:Hp}{s:Shared}{a:Addr}(I:Inv X pins σ H s)(d:IsD H a):
    s.TypeIs (.ref a) "dict" ∧ (∀b,Value.ref a=.ref b->∃ob,s.heap.get? b=some ob/\ob.dict=none)/\(a==sysModules)=false:=by
  rcases d with ⟨kvs,e⟩ | ⟨kvs,e⟩
  · obtain⟨_,hd,vs,_,dd⟩:=dk_rd I.hok e
    refine⟨dd.typeIs,fun b q=>?_,hd⟩
    cases q
    obtain⟨ob,_,_,h1,h2,_⟩:=dd
    exact⟨ob,h1,h2.2.1⟩
  · obtain⟨_,hd,xs,_,dd⟩:=dt_rd I.hok e
    refine⟨dd.typeIs,fun b q=>?_,hd⟩
    cases q
    obtain⟨ob,_,_,h1,h2,_⟩:=dd
    exact⟨ob,h1,h2.2.1⟩
section
variable {X:Cx}{pins:List (Addr×Obj)}{σ:St}{H:Hp}{s:Shared}{a:Addr}{y d:V}{u r:Value}{o:Option V}{A:Around}{E:Value->Shared->Prop}
end
def tDPop1 (td ty:TE): TE:=fun σ H Q=>td σ H fun x H1=>∃a,x=.ref a/\IsD H1 a/\ty σ H1 fun y H2=>∃kvs k v,H2 a=some (.dK kvs)/\y=kV k/\valV kvs k=some v/\Q v (upd H2 a (.dK (dropK kvs k)))
def tDPop2 (td ty tx:TE): TE:=fun σ H Q=>td σ H fun x H1=>∃a,x=.ref a/\IsD H1 a/\ty σ H1 fun y H2=>tx σ H2 fun z H3=>∃kvs k,H3 a=some (.dK kvs)/\y=kV k ∧
  (∀v,valV kvs k=some v->Q v (upd H3 a (.dK (dropK kvs k))))/\(valV kvs k=none->Q z H3)
section
variable {X:Cx}{o e f:Expr}{apos cpos:Pos}{td ty tx:TE}
theorem pe_dpop1 (ho:PE X o td) (he:PE X e ty) (m:M1 X o "pop" apos e cpos):PE X (.Call (.Attribute o "pop" apos) [e] [] cpos) (tDPop1 td ty):=by
  intro pins s σ H Q I h
  refine wpAny_Call_method m.base m.few m.line PySem.F.plainAttrs_dict PySem.F.slot_dict_pop PySem.F.type_dict_pop (thn (ho pins s σ H _ I h) fun u s1 ⟨x,H1,I1,rx,a,ex,d,q1⟩=>?_)
  subst ex
  obtain rfl:u=Value.ref a:=rx
  obtain⟨t1,t2,_⟩:=isD_at I1 d
  refine⟨t1,t2,?_⟩
  rw[m.trees]
  refine Calls.callWith_builtin rfl (Calls.evalArgs_plain (Calls.spliced_cons (thn (he pins s1 σ H1 _ I1 q1) fun iv s2 ⟨y,H2,I2,ry,kvs,k,v,ea,ey,l,q2⟩=>Calls.spliced_nil ?_)))
  subst ey
  exact d_pop I2 ea ry l (.inl rfl) fun w' s3 I3 rw'=>⟨v,_,I3,rw',q2⟩
theorem pe_dpop2 (ho:PE X o td) (he:PE X e ty) (hf:PE X f tx) (m:M2 X o "pop" apos e f cpos):PE X (.Call (.Attribute o "pop" apos) [e,f] [] cpos) (tDPop2 td ty tx):=by
  intro pins s σ H Q I h
  refine wpAny_Call_method m.base m.few m.line PySem.F.plainAttrs_dict PySem.F.slot_dict_pop PySem.F.type_dict_pop (thn (ho pins s σ H _ I h) fun u s1 ⟨x,H1,I1,rx,a,ex,d,q1⟩=>?_)
  subst ex
  obtain rfl:u=Value.ref a:=rx
  obtain⟨t1,t2,_⟩:=isD_at I1 d
  refine⟨t1,t2,?_⟩
  rw[m.trees]
  refine Calls.callWith_builtin rfl (Calls.evalArgs_plain (Calls.spliced_cons (thn (he pins s1 σ H1 _ I1 q1) fun iv s2 ⟨y,H2,I2,ry,q2⟩ =>
    Calls.spliced_cons (thn (hf pins s2 σ H2 _ I2 q2) fun fv s3 ⟨z,H3,I3,rz,kvs,k,ea,ey,q3,q4⟩=>Calls.spliced_nil ?_))))
  subst ey
  cases l:valV kvs k with
  | some v=>exact d_pop I3 ea ry l (.inr ⟨fv,rfl⟩) fun w' s4 I4 rw'=>⟨v,_,I4,rw',q3 v l⟩
  | none=>exact d_popD I3 ea ry l fun s4 I4=>⟨z,H3,I4,rz,q4 l⟩
end
section
variable {X:Cx}{pins:List (Addr×Obj)}{σ:St}{H:Hp}{s:Shared}{a:Addr}{kvs:List (Key×V)}{A:Around}{E:Value->Shared->Prop}
end
section
variable {X:Cx}{pins:List (Addr×Obj)}{σ:St}{H:Hp}{s:Shared}{a:Addr}{y:V}{u:Value}{A:Around}{E:Value->Shared->Prop}
end
end L2
namespace L2
open PySem PySem.Spec PyProof.Rows
section
variable {X:Cx}
theorem call_lenD:CallR X (.builtin "len") (fun xs H Q=>∃a kvs,xs=[V.ref a]/\H a=some (.dK kvs)/\Q (.int kvs.length) H):=by
  intro pins s σ H xs us Q I r h
  obtain⟨a,kvs,rfl,ha,q⟩:=h
  obtain⟨u,rfl,ru⟩:=vals1 r
  cases ru
  exact d_len I (.inl ha) fun t s' I'=>⟨.int kvs.length,H,I',⟨t,rfl⟩,q⟩
end
section
variable {κ:Type}[DecidableEq κ]
theorem valV_not {kvs:List (κ×V)}{k:κ}(h:valV kvs k=none): ¬k∈kvs.map (·.1):=by
  intro m
  obtain⟨p,hp,e⟩:=List.mem_map.mp m
  have q:(kvs.any fun kv=>decide (kv.1=k))=true:=List.any_eq_true.mpr ⟨p,hp,decide_eq_true e⟩
  rw[valV_any,h] at q
  exact absurd q (by simp)
theorem nd_snoc:∀{l:List κ} {k:κ},l.Nodup->¬k∈l->(l++[k]).Nodup
  | [],k,_,_=>by simp
  | a::r,k,h,hk=>by
    obtain⟨h1,h2⟩:=List.nodup_cons.mp h
    show (a::(r++[k])).Nodup
    refine List.nodup_cons.mpr ⟨fun m=>?_,nd_snoc h2 fun m=>hk (List.mem_cons.mpr (Or.inr m))⟩
    rcases List.mem_append.mp m with q | q
    · exact h1 q
    · exact hk (List.mem_cons.mpr (Or.inl (List.mem_singleton.mp q).symm))
theorem nd_putK {kvs:List (κ×V)}{k:κ}(v:V)(hn:(kvs.map (·.1)).Nodup)(h:valV kvs k=none): ((putK kvs k v).map (·.1)).Nodup:=by
  rw[putK_new v h,List.map_append]
  exact nd_snoc hn (valV_not h)
theorem dropK_pos {p:κ×V}{r:List (κ×V)}{k:κ}(e:p.1=k): dropK (p::r) k=dropK r k:=by
  unfold dropK
  rw[List.filter_cons,if_neg (by simp[e])]
theorem dropK_neg {p:κ×V}{r:List (κ×V)}{k:κ}(e:¬p.1=k): dropK (p::r) k=p::dropK r k:=by
  unfold dropK
  rw[List.filter_cons,if_pos (by simp[e])]
theorem dropK_mem {kvs:List (κ×V)}{k:κ}{p:κ×V}(h:p∈dropK kvs k): p∈kvs:=(List.mem_filter.mp h).1
theorem nd_dropK:∀{kvs:List (κ×V)} {k:κ},(kvs.map (·.1)).Nodup->((dropK kvs k).map (·.1)).Nodup
  | [],_,_=>List.nodup_nil
  | p::r,k,h=>by
    have h:(p.1::r.map (·.1)).Nodup:=h
    obtain⟨h1,h2⟩:=List.nodup_cons.mp h
    by_cases e:p.1=k
    · rw[dropK_pos e]
      exact nd_dropK h2
    · rw[dropK_neg e]
      show (p.1::(dropK r k).map (·.1)).Nodup
      refine List.nodup_cons.mpr ⟨fun m=>h1 ?_,nd_dropK h2⟩
      obtain⟨q,hq,eq⟩:=List.mem_map.mp m
      exact List.mem_map.mpr ⟨q,dropK_mem hq,eq⟩
end
end L2

set_option maxHeartbeats 4000000
namespace L2
open PySem
def FlyT (h:Heap)(a:Addr)(cls:Value)(dct:Option Addr)(hd:Value): Prop :=
  ∃oe vs,h.get? a=some oe/\oe.cls=cls/\oe.dict=dct/\oe.data=.fields vs/\vs[1]?=some hd ∧
    (hd=.none\/∃T oT ts,hd=.ref T/\T≠a/\h.get? T=some oT/\oT.data=.fields ts/\ts[3]?=some .none)
theorem dict_mapF (o:Obj)(f:Array Value->Array Value): (o.mapFields f).dict=o.dict:=by
  obtain⟨c,d,dt,sl⟩:=o
  cases dt<;>rfl
section
variable {M:Model}{A:Around}{E:Value->Shared->Prop}{s:Shared}
theorem fly_entry {base:Heap}{env:Env}{outer:List Env}{L a:Addr}{oe:Obj}{vs:Array Value}{hd:Value}{b:Bool}{Q:Unit->Shared->Prop}
    (hfr:A.frames=some (env::outer)) (hl:s.heap.FunFrames base (env::outer)) (hf:env.frame=some L) (he:s.heap.get? a=some oe) (hdt:oe.data=.fields vs) (h1:1 < vs.size)
    (h:∀(h':Heap) (T:Addr),s.heap.get? T=none->T≠a->(∀b o,b≠a->b∉(env::outer).filterMap (·.frame)->s.heap.get? b=some o->h'.get? b=some o) ->
      (∀b o,b≠a->s.heap.get? b=some o->∃sl,h'.get? b=some { o with slots:=sl })->FlyT h' a oe.cls oe.dict (.ref T)->Q () { s with heap:=h' }) :
    wpAny M A (do setField (.ref a) 1 (<-EntryCells.newEntry hd (<-frameOf env) .none (rawInt L) .none (<-entryPlaceOf L b))) (fun _ s'=>wpAny M A (setFlight (.ref a) none) Q E s') E s:=by
  have na:a∉(env::outer).filterMap (·.frame):=fun hm=>by
    obtain⟨_,o,ho,hn⟩:=hl.mem hm
    rw[he] at ho;cases ho
    exact hn vs hdt
  refine wpAny_bind (wpAny_frameOf_fun hfr hl hf fun h₁ hs=>?_)
  refine wpAny_bind (wpAny_entryPlaceOf fun pl hpl=>?_)
  unfold EntryCells.newEntry newFields
  refine wpAny_bind (wpAny_newObj_type ?_ (hpl.sizeOk5 _ _ _ _ _))
  generalize hts:([hd,Value.ref L,Value.none,rawInt L,Value.none]++(if pl.isEmpty then List.replicate 6 Value.none else pl)).toArray=ts
  have hsz:3 < ts.size:=by
    rw[<-hts]
    simp only [List.size_toArray,List.length_append,List.length_cons,List.length_nil]
    omega
  have e1:h₁.get? a=some oe:=(hs.2.1 a na).trans he
  have lt1:h₁.objs.size≠a:=Nat.ne_of_gt (Heap.lt_size e1)
  have e2:(h₁.push { cls:=.type "traceback",dict:=none,data:=.fields ts }).get? a=some oe:=Heap.get?_push_of_some _ e1
  refine wpAny_setField e2 hdt h1 ?_
  have d3:=Obj.data_mapFields hdt (·.setIfInBounds 1 (Value.ref h₁.objs.size))
  have e3:=Heap.get?_update_self (Obj.mapFields (·.setIfInBounds 1 (Value.ref h₁.objs.size))) e2 (Obj.isFreed_of_fields d3)
  have t3:((h₁.push { cls:=.type "traceback",dict:=none,data:=.fields ts }).update a (Obj.mapFields (·.setIfInBounds 1 (Value.ref h₁.objs.size)))).get? h₁.objs.size=some { cls:=.type "traceback",dict:=none,data:=.fields ts }:=by
    rw[Heap.get?_update_other _ _ (Ne.symm lt1)]
    exact Heap.get?_push_size h₁ rfl
  unfold setFlight
  refine wpAny_bind (wpAny_field e3 d3 (x:=.ref h₁.objs.size) (by simp[h1]) ?_)
  rw[if_pos (show (Value.ref h₁.objs.size != Value.none)=true by simp)]
  refine wpAny_setField t3 rfl hsz ?_
  have keep:∀b o,b≠a->h₁.get? b=some o->(((h₁.push { cls:=.type "traceback",dict:=none,data:=.fields ts }).update a (Obj.mapFields (·.setIfInBounds 1 (Value.ref h₁.objs.size)))).update h₁.objs.size
      (Obj.mapFields (·.setIfInBounds 3 ((none:Option Addr).elim Value.none fun f=>rawInt f)))).get? b=some o:=fun b o nb e=>by
    rw[Heap.get?_update_other _ _ (Nat.ne_of_gt (Heap.lt_size e)),Heap.get?_update_other _ _ (Ne.symm nb)]
    exact Heap.get?_push_of_some _ e
  refine h _ h₁.objs.size ?_ lt1 (fun b o nb nf e=>keep b o nb ((hs.2.1 b nf).trans e)) (fun b o nb e=>?_) ?_
  · rw[hs.1]
    exact Heap.get?_none_of_le (Nat.le_refl _)
  · obtain⟨sl,q⟩:=hs.2.2 b o e
    exact⟨sl,keep b _ nb q⟩
  · refine⟨_,_,?_,Obj.cls_mapFields oe (·.setIfInBounds 1 (Value.ref h₁.objs.size)),dict_mapF oe (·.setIfInBounds 1 (Value.ref h₁.objs.size)),d3,by simp[h1],.inr ⟨h₁.objs.size,_,_,rfl,lt1,
      Heap.get?_update_self _ t3 (Obj.isFreed_of_fields (Obj.data_mapFields rfl _)),Obj.data_mapFields rfl _,by simp[hsz]⟩⟩
    rw[Heap.get?_update_other _ _ lt1]
    exact e3
theorem fly_note {base:Heap}{env:Env}{outer:List Env}{L a:Addr}{cls hd:Value}{dct:Option Addr}{Q:Unit->Shared->Prop}
    (hfr:A.frames=some (env::outer)) (hl:s.heap.FunFrames base (env::outer)) (hf:env.frame=some L) (hx:FlyT s.heap a cls dct hd)
    (h:∀(h':Heap) (T:Addr),s.heap.get? T=none->T≠a->(∀b o,b≠a->hd≠.ref b->b∉(env::outer).filterMap (·.frame)->s.heap.get? b=some o->h'.get? b=some o) ->
      (∀b o,b∈(env::outer).filterMap (·.frame)->s.heap.get? b=some o->∃sl,h'.get? b=some { o with slots:=sl })->FlyT h' a cls dct (.ref T)->Q () { s with heap:=h' }) :
    wpAny M A (noteFrame (.ref a) env) (fun _ s'=>wpAny M A (setFlight (.ref a) none) Q E s') E s:=by
  obtain⟨oe,vs,he,rfl,rfl,hdt,h1,hc⟩:=hx
  have fr:∀b o,b∈(env::outer).filterMap (·.frame)->s.heap.get? b=some o->∀ws,o.data≠.fields ws:=fun b o hb e=>by
    obtain⟨_,o',ho,hn⟩:=hl.mem hb
    rw[e] at ho;cases ho
    exact hn
  have na:∀b o,b∈(env::outer).filterMap (·.frame)->s.heap.get? b=some o->b≠a:=fun b o hb e z=>by
    subst z
    rw[e] at he;cases he
    exact fr _ _ hb e vs hdt
  have z1:=(Array.getElem?_eq_some_iff.mp h1).1
  unfold noteFrame
  simp only [hf]
  refine wpAny_bind (wpAny_field he hdt h1 ?_)
  rcases hc with rfl | ⟨T,oT,ts,rfl,hTa,hT,hTd,h3⟩
  · rw[if_neg (by decide)]
    refine fly_entry hfr hl hf he hdt z1 fun h' T' n1 n2 k1 k2 fl=>h h' T' n1 n2 (fun b o nb _ nf e=>k1 b o nb nf e) (fun b o hb e=>k2 b o (na b o hb e) e) fl
  · rw[if_pos (show (Value.ref T != Value.none)=true by simp)]
    refine wpAny_bind (wpAny_field hT hTd h3 ?_)
    rw[if_neg (show ¬((Value.none==rawInt L)=true) by simp[rawInt])]
    refine wpAny_bind (wpAny_setField hT hTd (Array.getElem?_eq_some_iff.mp h3).1 ?_)
    have oth:∀b,b≠T->(s.heap.update T (Obj.mapFields (·.setIfInBounds 3 Value.none))).get? b=s.heap.get? b:=fun b nb=>Heap.get?_update_other _ _ (Ne.symm nb)
    have fT:∀b o,s.heap.get? b=some o->(∀ws,o.data≠.fields ws)->b≠T:=fun b o e hn z=>by
      rw[z,hT] at e;cases e
      exact hn ts hTd
    refine fly_entry (s:={ s with heap:=s.heap.update T (Obj.mapFields (·.setIfInBounds 3 Value.none)) }) hfr (hl.of_keeps fun b o e hn=>⟨o,(oth b (fT b o e hn)).trans e,rfl⟩) hf ((oth a (Ne.symm hTa)).trans he) hdt z1
      fun h' T' n1 n2 k1 k2 fl=>h h' T' ?_ n2 (fun b o nb nT nf e=>k1 b o nb nf ((oth b (fun z=>nT (by rw[z]))).trans e)) (fun b o hb e=>k2 b o (na b o hb e) ((oth b (fT b o e (fr b o hb e))).trans e)) fl
    cases q:s.heap.get? T' with
    | none=>rfl
    | some o =>
      by_cases z:T'=T
      · subst z
        have:=Heap.get?_update_self (Obj.mapFields (·.setIfInBounds 3 Value.none)) hT (Obj.isFreed_of_fields (Obj.data_mapFields hTd _))
        rw[this] at n1;cases n1
      · have n1':(s.heap.update T (Obj.mapFields (·.setIfInBounds 3 Value.none))).get? T'=none:=n1
        rw[oth T' z,q] at n1';cases n1'
theorem fly_leave {base:Heap}{env:Env}{outer:List Env}{L a:Addr}{cls hd:Value}{dct:Option Addr}{Q:Unit->Shared->Prop}
    (hfr:A.frames=some (env::outer)) (hl:s.heap.FunFrames base (env::outer)) (hf:env.frame=some L) (hx:FlyT s.heap a cls dct hd)
    (h:∀(h':Heap) (T:Addr),s.heap.get? T=none->T≠a->(∀b o,b≠a->hd≠.ref b->b∉(env::outer).filterMap (·.frame)->s.heap.get? b=some o->h'.get? b=some o) ->
      (∀b o,b∈(env::outer).filterMap (·.frame)->s.heap.get? b=some o->∃sl,h'.get? b=some { o with slots:=sl })->FlyT h' a cls dct (.ref T)->Q () { s with heap:=h' }) :
    wpAny M A (leaving env (.ref a)) Q E s:=by
  unfold leaving
  exact wpAny_bind (fly_note hfr hl hf hx h)
theorem fly_rest {a T:Addr}{cls:Value}{dct:Option Addr}{Q:Unit->Shared->Prop}(hx:FlyT s.heap a cls dct (.ref T))
    (h:∀h',(∀b o,b≠T->s.heap.get? b=some o->h'.get? b=some o)->FlyT h' a cls dct (.ref T)->Q () { s with heap:=h' }):wpAny M A (setFlight (.ref a) none) Q E s:=by
  obtain⟨oe,vs,he,rfl,rfl,hdt,h1,hc⟩:=hx
  rcases hc with z | ⟨T',oT,ts,z,hTa,hT,hTd,h3⟩
  · cases z
  · cases z
    unfold setFlight
    refine wpAny_bind (wpAny_field he hdt h1 ?_)
    rw[if_pos (show (Value.ref T != Value.none)=true by simp)]
    have z3:=(Array.getElem?_eq_some_iff.mp h3).1
    have oth:∀b,b≠T->(s.heap.update T (Obj.mapFields (·.setIfInBounds 3 ((none:Option Addr).elim Value.none fun f=>rawInt f)))).get? b=s.heap.get? b:=fun b nb=>Heap.get?_update_other _ _ (Ne.symm nb)
    refine wpAny_setField hT hTd z3 (h _ (fun b o nb e=>(oth b nb).trans e) ⟨oe,vs,(oth a (Ne.symm hTa)).trans he,rfl,rfl,hdt,h1,.inr ⟨T,_,_,rfl,hTa,Heap.get?_update_self _ hT (Obj.isFreed_of_fields (Obj.data_mapFields hTd _)),Obj.data_mapFields hTd _,?_⟩⟩)
    simp[z3]
end
end L2

set_option maxHeartbeats 4000000
namespace L2
open PySem PySem.Spec PyProof.Rows
def Flies (h0 h:Heap)(H:Hp)(a:Addr)(cls:Value)(dct:Option Addr): Prop :=
  ∃hd,FlyT h a cls dct hd/\H a=none/\h0.get? a=none/\∀T,hd=.ref T->H T=none/\h0.get? T=none
def CXE (P:Program)(w:World): CXT:=fun outer H s E e s'=>∃a cls dct H',e=.ref a/\s'.os=s.os/\AllBare s'.gens/\Un (frs outer) [] H H' s.heap s'.heap/\HOk P w H' s'.heap/\Flies s.heap s'.heap H' a cls dct/\E cls dct H'
theorem ObjOk.there {P:Program}{w:World}{H:Hp}{h:Heap}{a:Addr}{o:HO}(x:ObjOk P w H h a o): ∃ob,h.get? a=some ob:=by
  cases o with
  | lst xs=>obtain⟨_,_,_,_,e⟩:=x;exact⟨_,e⟩
  | tup xs=>obtain⟨_,_,_,ob,e,_⟩:=x;exact⟨_,e⟩
  | dK kvs=>obtain⟨_,_,_,_,o,_,_,e,_⟩:=x;exact⟨_,e⟩
  | dT kvs=>obtain⟨_,_,_,_,o,_,_,e,_⟩:=x;exact⟨_,e⟩
  | set S n=>obtain⟨o,_,_,_,e,_⟩:=x;exact⟨_,e⟩
  | ins C dx fs=>obtain⟨_,_,_,e,_⟩:=x;exact⟨_,e⟩
  | own y=>exact x
  | xd fs=>obtain⟨_,⟨_,_,_,e,_⟩,_⟩:=x;exact⟨_,e⟩
  | rng lo hi=>obtain⟨_,_,_,e⟩:=x;exact⟨_,e⟩
  | frz ob u=>obtain⟨e,_⟩:=x;exact⟨_,e⟩
  | tbl ps=>exact⟨_,(show h.get? a=some _ from x)⟩
  | met f y=>exact⟨_,(show h.get? a=some _ from x)⟩
  | ext φ=>obtain⟨_,e,_⟩:=x;exact e
theorem frs_sub {env:Env}{l:List Env}{b:Addr}(hb:b∈frs l): b∈frs (env::l):=by
  unfold frs at *
  rw[List.filterMap_cons]
  cases env.frame with
  | none=>exact hb
  | some L=>exact List.mem_cons_of_mem _ hb
section
variable {X:Cx}{pins:List (Addr×Obj)}{σ:St}{H H':Hp}{s:Shared}{h':Heap}{a T:Addr}{cls hd:Value}{dct:Option Addr}
theorem s0_none (I:Inv X pins σ H s)(hex:X.ex=[])(n:s.heap.get? a=none): X.s₀.heap.get? a=none:=by
  cases e:X.s₀.heap.get? a with
  | none=>rfl
  | some o =>
    obtain⟨o1,e1⟩:=I.base.there a o e (by rw[hex];simp)
    rw[n] at e1;cases e1
theorem hok_fly (I:Inv X pins σ H s)(keep:∀b o,b≠a->hd≠.ref b->b∉frs X.stack->s.heap.get? b=some o->h'.get? b=some o)(ha:H a=none)(hT:∀T,hd=.ref T->H T=none): HOk X.prog X.w H h':=fun b u e=>by
  have tr:∀c v,H c=some v->c≠a/\hd≠.ref c/\c∉frs X.stack:=fun c v q=>⟨ne_of_none q ha,fun z=>(by rw[hT c z] at q;cases q),fun z=>(by rw[I.stkFree c z] at q;cases q)⟩
  refine(I.hok b u e).stay (fun c v hc q=>?_) (fun _ q=>q) fun _ _ q=>q
  obtain⟨z,hz⟩:∃v,H c=some v:=by
    rcases hc with rfl | hc
    · exact⟨_,e⟩
    · exact⟨_,hc⟩
  exact keep c v (tr c z hz).1 (tr c z hz).2.1 (tr c z hz).2.2 q
theorem h_none (I:Inv X pins σ H s)(n:s.heap.get? T=none): H T=none:=by
  cases q:H T with
  | none=>rfl
  | some u =>
    obtain⟨ob,e⟩:=(I.hok T u q).there
    rw[n] at e;cases e
theorem left_ok (I:Inv X pins σ H s)(hex:X.ex=[])(hst:X.stack=X.env::X.outer)(ha:H a=none)(na:X.s₀.heap.get? a=none)(hT:∀T,hd=.ref T->H T=none/\X.s₀.heap.get? T=none)
    (nT:s.heap.get? T=none) (keep:∀b o,b≠a->hd≠.ref b->b∉frs X.stack->s.heap.get? b=some o->h'.get? b=some o)
    (slot:∀b o,b∈frs X.stack->s.heap.get? b=some o->∃sl,h'.get? b=some { o with slots:=sl }) (fl:FlyT h' a cls dct (.ref T)) :
    Un (frs X.outer) [] X.H₀ H X.s₀.heap h'/\HOk X.prog X.w H h'/\Flies X.s₀.heap h' H a cls dct:=by
  have s0a:∀b o,X.s₀.heap.get? b=some o->b≠a/\hd≠.ref b:=fun b o e=>⟨fun z=>(by rw[z,na] at e;cases e),fun z=>(by rw[(hT b z).2] at e;cases e)⟩
  have s0L:∀b o,X.s₀.heap.get? b=some o->b∈frs X.stack->b∈frs X.outer:=fun b o e hb=>by
    rcases List.mem_cons.mp (I.stkSub b hb) with z | z
    · rw[z] at e
      exact absurd (Nat.lt_of_lt_of_le (Heap.lt_size e) I.ok.above) (Nat.lt_irrefl _)
    · exact z
  have noex:∀b:Addr,b∉X.ex:=fun b=>by rw[hex];simp
  refine⟨⟨fun b o e n hb _=>?_,fun b o e n hb _=>?_,fun b o e n _=>I.base.free b o e n (noex b),fun b o e _=>?_,I.base.tups,I.base.frzs,I.base.tbls⟩,hok_fly I keep ha fun T z=>(hT T z).1,?_⟩
  · exact keep b o (s0a b o e).1 (s0a b o e).2 (fun z=>hb (s0L b o e z)) (I.base.keep b o e n hb (noex b))
  · obtain⟨sl,e1⟩:=I.base.slot b o e n hb (noex b)
    obtain⟨sl',e2⟩:=slot b _ (by rw[hst];exact frs_sub hb) e1
    exact⟨sl',e2⟩
  · obtain⟨o1,e1⟩:=I.base.there b o e (noex b)
    by_cases hb:b∈frs X.stack
    · obtain⟨sl,e2⟩:=slot b o1 hb e1
      exact⟨_,e2⟩
    · exact⟨_,keep b o1 (s0a b o e).1 (s0a b o e).2 hb e1⟩
  · exact⟨.ref T,fl,ha,na,fun T' z=>by cases z;exact⟨h_none I nT,s0_none I hex nT⟩⟩
def PassesX (CX:CXT)(X:Cx)(E:St->XK): Prop:=∀(pins:List (Addr×Obj)) (σ:St) (H:Hp) (s:Shared) (e:Value) (s':Shared),Inv X pins σ H s->CX X.stack H s (E σ) e s'->X.xe e s'
end
section
variable {P:Program}{w:World}{K:PySem.W.Frag}{mg:Str->Option Value}{base:Heap}{N:List Str}{qual:Str}{scope:Scope}{f:Addr}{cd:Value}{A:Around}{outer:List Env}{s:Shared}{H:Hp}{E:XK}
theorem pass_def:PassesX (CXE P w) (cxOf (CXE P w) P w K mg base N qual scope f cd A outer s H E) (fun _=>E):=by
  intro pins σ H1 s1 e s2 I hx
  obtain⟨a,cls,dct,H2,he,hos,hg,un,hok,⟨hd,fl,ha,na,hT⟩,q⟩:=hx
  subst he
  have I2:Inv (cxOf (CXE P w) P w K mg base N qual scope f cd A outer s H E) pins σ H2 s2:=I.call' hos un hok hg (fun b z=>absurd z (by simp))
  show wpAny _ _ (leaving _ (.ref a)) _ _ s2
  refine fly_leave (env:=envOfC qual scope s.heap.objs.size f cd) (outer:=outer) I.ok.frames I2.stack rfl fl fun h' T n1 n2 k1 k2 fl'=>?_
  obtain⟨y1,y2,y3⟩:=left_ok I2 rfl rfl ha (s0_none I rfl na) (fun T z=>⟨(hT T z).1,s0_none I rfl (hT T z).2⟩) n1 k1 k2 fl'
  exact⟨a,cls,dct,H2,rfl,I2.os,I2.bare,y1,y2,y3,q⟩
theorem own_def:PassesOwn (model P w) (A.deeper (envOfC qual scope s.heap.objs.size f cd)) (envOfC qual scope s.heap.objs.size f cd) (cxOf (CXE P w) P w K mg base N qual scope f cd A outer s H E).xe:=PassesOwn.leaving
end
section
variable {P:Program}{w:World}{K:PySem.W.Frag}{mg:Str->Option Value}{base:Heap}
end
def tCallX (sp:Sp)(dvs:List V)(E:St->XK)(t:TA): TE:=fun σ H Q=>t σ H fun vs H1=>sp (vs++dvs) H1 Q (E σ)
def tMethX (C:Addr)(m:Str)(sp:Sp)(dvs:List V)(E:St->XK)(ta:TE)(t:TA): TE:=fun σ H Q=>ta σ H fun x H1=>∃a dx fs,x=.ref a/\H1 a=some (.ins C dx fs)/\fs.lookup m=none ∧
  t σ H1 fun vs H2=>sp (x::(vs++dvs)) H2 Q (E σ)
def tMakeX (C:Addr)(sp:Sp)(dvs:List V)(E:St->XK)(t:TA): TE:=fun σ H Q=>t σ H fun vs H1=>∀x dx,H1 x=none->H1 dx=none->dx≠x ->
  sp (.ref x::(vs++dvs)) (upd (upd H1 dx (.own x)) x (.ins C dx [])) (fun v H2=>v=.non/\Q (.ref x) H2) (E σ)
section
variable {X:Cx}{CX:CXT}{k:Nat}{f C:Addr}{fd:FuncData}{ps:List Str}{sp:Sp}{dvs:List V}{ds:List Value}{E:St->XK}{x m:Str}{p pos apos:Pos}{e o:Expr}{es:List Expr}{ta:TE}{t:TA}
theorem run_fnX {pins:List (Addr×Obj)}{σ:St}{H:Hp}{s:Shared}{Q:VK}{us:List Value}{vs:List V}(F:FnOk X.prog X.w X.K X.mg X.base CX k f fd ps sp)(hr:Room k X.A)(hb:Binds X.K fd ps ds)(hd:Vals dvs ds)(hx:PassesX CX X E)
    (I:Inv X pins σ H s) (r:Vals vs us) (h:sp (vs++dvs) H Q (E σ)):wpAny (model X.prog X.w) X.A (call (.ref f) us) (EP X pins σ Q) X.xe s:=by
  have r2:Vals (vs++dvs) (us++ds):=r.append hd
  have hl:(us++ds).length=ps.length:=by rw[<-r2.length];exact F.len _ _ _ _ h
  refine wpAny_call (codeAny_mono (F.run X.A X.stack s H ⟨us,[]⟩ (us++ds) (vs++dvs) Q (E σ) hr I.env0 (hb s us I.kIn hl) r2 h) fun r s' hq=>?_)
  cases r with
  | error e=>exact hx pins σ H s e s' I hq
  | ok fl =>
    cases fl with
    | ret u=>exact I.after hq
    | next=>exact False.elim hq
    | brk=>exact False.elim hq
    | cont=>exact False.elim hq
theorem pe_callX (F:FnOk X.prog X.w X.K X.mg X.base CX k f fd ps sp)(hr:Room k X.A)(hg:Gl X x)(hm:X.mg x=some (.ref f))(hk:PySem.W.keepIn X.K (.ref f)=true)(hb:Binds X.K fd ps ds)(hd:Vals dvs ds)(hx:PassesX CX X E)
    (ha:PA X (e::es) t) (hdb:(x==("__debug__" : Str))=false:=by decide) (he:starEach (e::es) X.env=(false,eval e X.env)::starEach es X.env:=by rfl) (hpl:(backTo pos (starEach es X.env)).any (·.1)=false:=by rfl) :
    PE X (.Call (.Name x p) (e::es) [] pos) (tCallX sp dvs E t):=by
  intro pins s σ H Q I h
  refine wpAny_Call_Name_kw (ld_glob I hg hm ?_ hdb)
  refine PySem.W.callWith_K (h₀:=X.base) I.ok.mod.kin hk (thn (ha pos pins s σ H _ I h) fun us s1 ⟨vs,H1,I1,r,q⟩=>⟨I1.kIn,?_⟩) he hpl
  exact run_fnX F hr hb hd hx I1 r q
theorem pe_methX {pl:Sem Bool}(he:PE X o ta)(c:Cls X.K C)(hm:Meth X.K C m f)(F:FnOk X.prog X.w X.K X.mg X.base CX k f fd ps sp)(hr:Room k X.A)(hb:Binds X.K fd ps ds)(hd:Vals dvs ds)(hx:PassesX CX X E)(ha:PA X (e::es) t)
    (hst:starEach (e::es) X.env=(false,eval e X.env)::starEach es X.env:=by rfl) (hpl:(backTo pos (starEach es X.env)).any (·.1)=false:=by rfl)
    (ht:eval (.Call (.Attribute o m apos) (e::es) [] pos) X.env=(do
      let ov <-eval o X.env
      standAt apos.atName
      let (f,first) <-holding [ov] (getMethod ov m pl)
      callWith pos f first (backTo pos (starEach (e::es) X.env)) (backToKw pos (keywordEach [] X.env))):=by rfl) :
    PE X (.Call (.Attribute o m apos) (e::es) [] pos) (tMethX C m sp dvs E ta t):=by
  intro pins s σ H Q I h
  refine PySem.W.methodCall_KW (pl:=pl) (thn (he pins s σ H _ I h) fun u s1 ⟨x,H1,I1,rx,a,dx,fs,ex,ea,l,q⟩=>?_) ht
  subst ex
  obtain rfl:u=Value.ref a:=rx
  refine getmeth_ok I1 ea c hm l ?_
  refine PySem.W.callWith_K (first:=[.ref a]) (h₀:=X.base) I.ok.mod.kin hm.kp (thn (ha pos pins s1 σ H1 _ I1 q) fun us s2 ⟨vs,H2,I2,r,q2⟩=>⟨I2.kIn,?_⟩) hst hpl
  exact run_fnX (us:=.ref a::us) (vs:=.ref a::vs) F hr hb hd hx I2 (.cons rfl r) q2
theorem pe_methX0 {pl:Sem Bool}(he:PE X o ta)(c:Cls X.K C)(hm:Meth X.K C m f)(F:FnOk X.prog X.w X.K X.mg X.base CX k f fd ps sp)(hr:Room k X.A)(hb:Binds X.K fd ps ds)(hd:Vals dvs ds)(hx:PassesX CX X E)
    (ht:eval (.Call (.Attribute o m apos) [] [] pos) X.env=(do
      let ov <-eval o X.env
      standAt apos.atName
      let (f,first) <-holding [ov] (getMethod ov m pl)
      callWith pos f first (backTo pos (starEach [] X.env)) (backToKw pos (keywordEach [] X.env))):=by rfl) :
    PE X (.Call (.Attribute o m apos) [] [] pos) (tMethX C m sp dvs E ta tNil):=by
  intro pins s σ H Q I h
  refine PySem.W.methodCall_KW (pl:=pl) (thn (he pins s σ H _ I h) fun u s1 ⟨x,H1,I1,rx,a,dx,fs,ex,ea,l,q⟩=>?_) ht
  subst ex
  obtain rfl:u=Value.ref a:=rx
  refine getmeth_ok I1 ea c hm l ?_
  exact PySem.W.callWith_K0 (first:=[.ref a]) I1.kIn hm.kp (run_fnX (us:=[.ref a]) (vs:=[.ref a]) F hr hb hd hx I1 (.cons rfl .nil) q)
theorem run_makeX {pins:List (Addr×Obj)}{σ:St}{H:Hp}{s:Shared}{Q:VK}{us:List Value}{vs:List V}(M:Mk X.K C f)(F:FnOk X.prog X.w X.K X.mg X.base CX k f fd ps sp)(hr:Room (k+1) X.A)(hb:Binds X.K fd ps ds)(hd:Vals dvs ds)
    (hx:∀(H2:Hp) (s2:Shared) (e:Value) (s':Shared),Inv X pins σ H2 s2->CX X.stack H2 s2 (E σ) e s'->X.xe e s') (I:Inv X pins σ H s) (r:Vals vs us)
    (h:∀x dx,H x=none->H dx=none->dx≠x->sp (.ref x::(vs++dvs)) (upd (upd H dx (.own x)) x (.ins C dx [])) (fun v H2=>v=.non/\Q (.ref x) H2) (E σ)) :
    wpAny (model X.prog X.w) X.A (call (.ref C) us) (EP X pins σ Q) X.xe s:=by
  have hq:=h (s.heap.objs.size+1) s.heap.objs.size (I.hok.fresh (Nat.le_succ _)) (I.hok.fresh (Nat.le_refl _)) (Nat.ne_of_lt (Nat.lt_succ_self _))
  have I2:=Inv.made (C:=C) I
  have r2:Vals (V.ref (s.heap.objs.size+1)::(vs++dvs)) (Value.ref (s.heap.objs.size+1)::(us++ds)):=.cons rfl (r.append hd)
  have hl:(Value.ref (s.heap.objs.size+1)::us++ds).length=ps.length:=by
    have e:=r2.length
    rw[F.len _ _ _ _ hq] at e
    exact e.symm
  refine wpAny_call (make_map (f:=f) I.kIn M.makes M.init (beq_iff_eq.mp M.fn) (codeAny_mono (F.run _ X.stack _ _ ⟨Value.ref (s.heap.objs.size+1)::us,[]⟩ (Value.ref (s.heap.objs.size+1)::(us++ds)) _ _ (E σ) (hr.make C us [])
    (I2.env0.make C us []) (hb _ (Value.ref (s.heap.objs.size+1)::us) I2.kIn hl) r2 hq) fun r s' hq'=>?_))
  cases r with
  | error e=>exact hx _ _ e s' I2 hq'
  | ok fl =>
    cases fl with
    | ret u =>
      obtain⟨v,H',I3,rv,ev,q3⟩:=I2.after hq'
      subst ev
      exact⟨rv,⟨V.ref (s.heap.objs.size+1),H',I3,rfl,q3⟩⟩
    | next=>exact False.elim hq'
    | brk=>exact False.elim hq'
    | cont=>exact False.elim hq'
theorem pe_makeX (M:Mk X.K C f)(F:FnOk X.prog X.w X.K X.mg X.base CX k f fd ps sp)(hr:Room (k+1) X.A)(hg:Gl X x)(hm:X.mg x=some (.ref C))(hb:Binds X.K fd ps ds)(hd:Vals dvs ds)(hx:PassesX CX X E)
    (ha:PA X (e::es) t) (hdb:(x==("__debug__" : Str))=false:=by decide) (he:starEach (e::es) X.env=(false,eval e X.env)::starEach es X.env:=by rfl) (hpl:(backTo pos (starEach es X.env)).any (·.1)=false:=by rfl) :
    PE X (.Call (.Name x p) (e::es) [] pos) (tMakeX C sp dvs E t):=by
  intro pins s σ H Q I h
  refine wpAny_Call_Name_kw (ld_glob I hg hm ?_ hdb)
  refine PySem.W.callWith_K (h₀:=X.base) I.ok.mod.kin M.kp (thn (ha pos pins s σ H _ I h) fun us s1 ⟨vs,H1,I1,r,q⟩=>⟨I1.kIn,?_⟩) he hpl
  exact run_makeX M F hr hb hd (fun H2 s2 e s' J z=>hx pins σ H2 s2 e s' J z) I1 r q
end
end L2

set_option maxHeartbeats 4000000
namespace L2
open PySem PySem.Spec PyProof.Rows
def bmV:List Value:=[.type "ValueError",.type "Exception",.type "BaseException",.type "object"]
def XCls (K:PySem.W.Frag)(C:Addr): Prop:=PySem.W.excIn K C bmV "ValueError.__new__" = true
theorem XCls.obj {K:PySem.W.Frag}{C:Addr}(q:XCls K C): ∃bm N nm qn bs hdct sn sub ab col dd k0 k1 k2 k3 k5,PySem.W.nsOkIn K N=true/\PySem.W.nsIn K N "__init__" = some none/\PySem.W.tailIn K bmV bm=true ∧
    K.lookup C=some (excClassObj nm qn C N bs bm hdct sn sub ab col dd k0 k1 k2 k3 k5 "ValueError.__new__"):=by
  unfold XCls PySem.W.excIn at q
  split at q
  · next dd cd sl lk =>
    split at q
    · next C' bm k0 k1 k2 k3 nid k5 em es =>
      simp only [Bool.and_eq_true,beq_iff_eq,Bool.not_eq_true'] at q
      obtain⟨⟨⟨⟨⟨e1,e2⟩,e3⟩,e4⟩,e5⟩,e6⟩:=q
      subst e1
      subst e2
      obtain⟨nm,bs,mro,ns,qn,hdct,sn,sub,ab,col,del⟩:=cd
      dsimp only at em e3 e5 e6
      subst em
      subst e3
      obtain⟨sll⟩:=sl
      dsimp only at es
      subst es
      exact⟨bm,ns,nm,qn,bs,hdct,sn,sub,ab,col,dd,k0,k1,k2,k3,k5,e5,e6,e4,lk⟩
    · cases q
  · cases q
theorem ns_two {K:PySem.W.Frag}{N:Addr}{h h2:Heap}{m:Str->Option Value}(ok:PySem.W.nsOkIn K N=true)(X:K.In h)(X2:K.In h2)(n:h.Ns N m): h2.Ns N m:=by
  obtain⟨o,es,ep,ho,r⟩:=n
  unfold PySem.W.nsOkIn at ok
  split at ok
  · next lk =>
    have e:=X _ _ lk
    rw[ho] at e
    cases e
    exact⟨_,es,ep,X2 _ _ lk,r⟩
  · cases ok
section
variable {X:Cx}{E:St->XK}{x:Str}{C:Addr}{e₀:Expr}{es:List Expr}{t:TA}{np cpos pos:Pos}
def tRaise (C:Addr)(E:St->XK)(t:TA): TS:=fun _ σ H=>t σ H fun vs H1=>vs.length<=sizeLine/\E σ (.ref C) none H1
theorem ps_raise (hC:XCls X.K C) (hc:X.calm=true) (hg:Gl X x) (hm:X.mg x=some (.ref C)) (hx:PassesX (CXE X.prog X.w) X E) (ha:PA X (e₀::es) t) (hdb:(x==("__debug__" : Str))=false:=by decide)
    (he:starEach (e₀::es) X.env=(false,eval e₀ X.env)::starEach es X.env:=by rfl) (hpl:(backTo cpos (starEach es X.env)).any (·.1)=false:=by rfl) :
    PS X (.Raise (some (.Call (.Name x np) (e₀::es) [] cpos)) none pos) (tRaise C E t):=by
  intro pins s σ H D I h
  obtain⟨bm,N,nm,qn,bs,hdct,sn,sub,ab,col,dd,k0,k1,k2,k3,k5,f1,f2,f3,f4⟩:=hC.obj
  have hN:=PySem.Heap.Ns.of_isNs (PySem.W.isNs_of_in I.kIn f1)
  refine wpAny_Raise_call_subT (C:=C) (nm:=nm) (q:=qn) (N:=N) (bs:=bs) (bm:=bm) (hdct:=hdct) (sn:=sn) (sub:=sub) (ab:=ab) (col:=col) (dd:=dd) (k0:=k0) (k1:=k1) (k2:=k2) (k3:=k3) (k5:=k5)
    PySem.F.excBase_ValueError (mN:=s.heap.nsMap N) ((PySem.W.tail_of_in I.kIn f3).hasType PySem.F.excBase_ValueError.hasBase) (I.ok.hd hc) ?_ (PySem.W.nsMap_none_of_in I.kIn f1 f2) (ld_glob I hg hm ⟨rfl,?_⟩ hdb)
  · rw[he]
    show (false || (backTo cpos (starEach es X.env)).any (·.1))=false
    rw[hpl]
    rfl
  · have ha':=ha cpos pins s σ H _ I h
    rw[he] at ha' ⊢
    refine Calls.evalArgs_plain (thn ha' fun us s2 q=>?_)
    obtain⟨vs,H1,I1,r,z,q⟩:=q
    refine⟨rfl,by rw[<-r.length];exact z,I1.kIn _ _ f4,ns_two f1 I.kIn I1.kIn hN,PySem.W.tail_of_in I1.kIn f3,fun h' e hmade=>?_⟩
    obtain⟨tp,q1,_,_⟩:=hmade.there
    exact hx pins σ H1 s2 (.ref e) _ I1 ⟨e,.ref C,none,H1,rfl,rfl,I1.bare,Un.kept hmade.keeps,I1.hok.kept hmade.keeps,⟨.none,⟨_,_,q1,rfl,rfl,rfl,rfl,.inl rfl⟩,h_none I1 hmade.new,hmade.new,fun T z=>nomatch z⟩,q⟩
end
section
variable {X:Cx}{pins pins':List (Addr×Obj)}{σ:St}{H H':Hp}{s:Shared}{h':Heap}{a T:Addr}{cls hd:Value}{dct:Option Addr}
theorem Inv.recx {pn':List (Addr×Obj)}{A':Around}{calm':Bool}{xe':Value->Shared->Prop}(I:Inv X pins σ H s)(hA:A'.frames=X.A.frames)(hcalm:calm'=true->A'.handled=none)(hp:∀p∈pn'++pins',p∈X.pn++pins):
    Inv { X with pn:=pn',A:=A',calm:=calm',xe:=xe' } pins' σ H s :=
  ⟨⟨I.ok.mod,I.ok.kind,I.ok.glob,I.ok.blt,I.ok.above,I.ok.inj,I.ok.has,I.ok.cab,hcalm,hA.trans I.ok.frames,I.ok.stk,I.ok.exf,I.ok.bs,I.ok.bsz,I.ok.noex,I.ok.exfs,I.ok.funs,I.ok.frf⟩,
    I.os,I.bare,I.base,I.loc,I.cell,I.free,I.freeC,fun p q=>I.pin p (hp p q),I.hok,I.len⟩
theorem Inv.recb {pn':List (Addr×Obj)}{A':Around}{calm':Bool}{xe':Value->Shared->Prop}(I:Inv { X with pn:=pn',A:=A',calm:=calm',xe:=xe' } pins' σ H s)(hA:A'.frames=X.A.frames)(hcalm:X.calm=true->X.A.handled=none)(hp:∀p∈X.pn++pins,p∈pn'++pins'):
    Inv X pins σ H s :=
  ⟨⟨I.ok.mod,I.ok.kind,I.ok.glob,I.ok.blt,I.ok.above,I.ok.inj,I.ok.has,I.ok.cab,hcalm,hA.symm.trans I.ok.frames,I.ok.stk,I.ok.exf,I.ok.bs,I.ok.bsz,I.ok.noex,I.ok.exfs,I.ok.funs,I.ok.frf⟩,
    I.os,I.bare,I.base,I.loc,I.cell,I.free,I.freeC,fun p q=>I.pin p (hp p q),I.hok,I.len⟩
theorem Inv.flew (I:Inv X pins σ H s)(ha:H a=none)(na:X.s₀.heap.get? a=none)(hT:∀T,hd=.ref T->H T=none/\X.s₀.heap.get? T=none)(fl:FlyT s.heap a cls dct hd)(hp:∀p∈X.pn++pins,p.1≠a/\hd≠.ref p.1)
    (keep:∀b o,b≠a->hd≠.ref b->b∉frs X.stack->s.heap.get? b=some o->h'.get? b=some o)
    (slot:∀b o,b∈frs X.stack->s.heap.get? b=some o->∃sl,h'.get? b=some { o with slots:=sl }) {t':Nat}:Inv X pins σ H { s with heap:=h',toks:=t' }:=by
  obtain⟨oe,vs,he,_,_,hdt,_,hc⟩:=fl
  have fT:∀T,hd=.ref T->∃o ts,s.heap.get? T=some o/\o.data=.fields ts:=fun T z=>by
    rcases hc with q | ⟨T',oT,ts,q,_,q2,q3,_⟩
    · rw[z] at q;cases q
    · rw[z] at q;cases q;exact⟨_,_,q2,q3⟩
  have off:∀b o,s.heap.get? b=some o->(∀ws,o.data≠.fields ws)->b≠a/\hd≠.ref b:=fun b o e hn=>⟨fun z=>(by rw[z,he] at e;cases e;exact hn vs hdt),fun z=>by
    obtain⟨o',ts,q1,q2⟩:=fT b z
    rw[q1] at e;cases e;exact hn ts q2⟩
  have s0:∀b o,X.s₀.heap.get? b=some o->b≠a/\hd≠.ref b:=fun b o e=>⟨fun z=>(by rw[z,na] at e;cases e),fun z=>(by rw[(hT b z).2] at e;cases e)⟩
  have s0L:∀b o,X.s₀.heap.get? b=some o->b∈frs X.stack->b∈X.fs:=fun b o e hb=>by
    rcases List.mem_cons.mp (I.stkSub b hb) with z | z
    · rw[z] at e
      exact absurd (Nat.lt_of_lt_of_le (Heap.lt_size e) I.ok.above) (Nat.lt_irrefl _)
    · exact z
  have any:∀b o,s.heap.get? b=some o->b≠a->hd≠.ref b->∃sl,h'.get? b=some { o with slots:=sl }:=fun b o e n1 n2=>by
    by_cases hb:b∈frs X.stack
    · exact slot b o hb e
    · exact⟨o.slots,keep b o n1 n2 hb e⟩
  have inStack:∀b,b∈X.fs->b∈frs X.stack:=fun b hb=>by
    rcases I.ok.stk with z | ⟨z,_⟩
    · rw[z];exact hb
    · rw[z];exact frs_sub hb
  refine⟨I.ok,I.os,I.bare,⟨fun b o e n hb hx=>?_,fun b o e n hb hx=>?_,fun b o e n hx=>I.base.free b o e n hx,fun b o e hx=>?_,I.base.tups,I.base.frzs,I.base.tbls⟩,?_,fun y c e=>?_,I.free,I.freeC,fun p q=>?_,hok_fly I keep ha fun T z=>(hT T z).1,I.len⟩
  · exact keep b o (s0 b o e).1 (s0 b o e).2 (fun z=>hb (s0L b o e z)) (I.base.keep b o e n hb hx)
  · obtain⟨sl,e1⟩:=I.base.slot b o e n hb hx
    obtain⟨sl',e2⟩:=slot b _ (inStack b hb) e1
    exact⟨sl',e2⟩
  · obtain⟨o1,e1⟩:=I.base.there b o e hx
    obtain⟨sl,e2⟩:=any b o1 e1 (s0 b o e).1 (s0 b o e).2
    exact⟨_,e2⟩
  · obtain⟨m,⟨o,es,ep,ho,hd',r⟩,hl⟩:=I.loc
    have nf:=off _ o ho fun ws z=>by rw[hd'] at z;cases z
    obtain⟨sl,e2⟩:=any _ o ho nf.1 nf.2
    refine⟨m,⟨_,es,ep,e2,hd',r⟩,fun i x v q1 q2 q3=>?_⟩
    obtain⟨u,r1,l⟩:=hl i x v q1 q2 q3
    refine⟨u,r1,?_⟩
    rcases l with l | ⟨k,c,e,oc,hoc,hcd⟩
    · exact .inl l
    · have nf:=off c oc hoc fun ws z=>by rw[hcd] at z;cases z
      obtain⟨sl,e3⟩:=any c oc hoc nf.1 nf.2
      exact .inr ⟨k,c,e,_,e3,hcd⟩
  · obtain⟨v,oc,hoc,hcd⟩:=I.cell y c e
    have nf:=off c oc hoc fun ws z=>by rw[hcd] at z;cases z
    obtain⟨sl,e3⟩:=any c oc hoc nf.1 nf.2
    exact⟨v,_,e3,hcd⟩
  · obtain⟨e,n,ne,nf,d⟩:=I.pin p q
    refine⟨keep p.1 p.2 (hp p q).1 (hp p q).2 (fun z=>?_) e,n,ne,nf,d⟩
    rcases List.mem_cons.mp (I.stkSub p.1 z) with z | z
    · exact ne z
    · exact nf z
def exO (a:Addr)(cls:Value)(dct:Option Addr): HO:=.ext fun h=>∃oe vs,h.get? a=some oe/\oe.cls=cls/\oe.dict=dct/\oe.data=.fields vs
theorem Inv.track (I:Inv X pins σ H s)(ha:H a=none)(na:X.s₀.heap.get? a=none)(hp:∀p∈X.pn++pins,p.1≠a)(fl:FlyT s.heap a cls dct hd): Inv X pins σ (upd H a (exO a cls dct)) s:=by
  obtain⟨oe,vs,he,f1,f2,hdt,_,_⟩:=fl
  have off:∀b o,s.heap.get? b=some o->(∀ws,o.data≠.fields ws)->b≠a:=fun b o e hn z=>by rw[z,he] at e;cases e;exact hn vs hdt
  have tr:∀b u,H b=some u->upd H a (exO a cls dct) b=some u:=fun b u q=>by rw[upd_ne (ne_of_none q ha)];exact q
  refine⟨I.ok,I.os,I.bare,⟨I.base.keep,I.base.slot,fun b o e n hx=>?_,I.base.there,fun b xs e=>tr b _ (I.base.tups b xs e),fun b o u e=>tr b _ (I.base.frzs b o u e),fun b ps e=>?_⟩,I.loc,I.cell,?_,fun y c e=>?_,fun p q=>?_,fun b u e=>?_,I.len⟩
  · rw[upd_ne (fun z=>(by rw[z,na] at e;cases e))]
    exact I.base.free b o e n hx
  · obtain⟨more,q⟩:=I.base.tbls b ps e
    exact⟨more,tr b _ q⟩
  · obtain⟨m,⟨o,es,ep,ho,hd',r⟩,_⟩:=I.loc
    rw[upd_ne (off _ o ho fun ws z=>(by rw[hd'] at z;cases z))]
    exact I.free
  · obtain⟨v,oc,hoc,hcd⟩:=I.cell y c e
    rw[upd_ne (off c oc hoc fun ws z=>(by rw[hcd] at z;cases z))]
    exact I.freeC y c e
  · obtain⟨e,n,r⟩:=I.pin p q
    exact⟨e,by rw[upd_ne (hp p q)];exact n,r⟩
  · by_cases hb:b=a
    · subst hb
      rw[upd_same] at e
      cases e
      exact⟨⟨oe,vs,he,f1,f2,hdt⟩,⟨_,he⟩,fun h1 h2 ⟨o',ws,q1,q2⟩ k=>⟨o',ws,k _ q1,q2⟩⟩
    · rw[upd_ne hb] at e
      exact(I.hok b u e).stay (fun _ _ _ q=>q) (fun c q=>tr c _ q) fun c xs q=>tr c _ q
end
theorem matches_own {M:Model}{A:Around}{E:Value->Shared->Prop}{s:Shared}{K:PySem.W.Frag}{e D:Addr}{oe:Obj}{C:Addr}{b:Bool}{Q:Bool->Shared->Prop}(X:K.In s.heap)(he:s.heap.get? e=some oe)(hc:oe.cls=.ref C)
    (hD:XCls K D) (hsub:PySem.W.mroIn K C (.ref D)=some b) (h:Q b s):wpAny M A (excMatches (.ref e) (.ref D)) Q E s:=by
  obtain⟨bm,N,nm,qn,bs,hdct,sn,sub,ab,col,dd,k0,k1,k2,k3,k5,f1,f2,f3,f4⟩:=hD.obj
  have hD0:=X _ _ f4
  have L:=PySem.W.looks_mroIn (M:=M) X hsub
  obtain⟨hp,g,d,tk,os⟩:=s
  have hcB:(Value.ref D::bm).contains (.type "BaseException")=true:=by rw[List.contains_cons,(PySem.W.tail_of_in X f3).hasType (show bmV.contains (.type "BaseException")=true by decide +kernel),Bool.or_true]
  have ft:=tc_notTuple
  unfold excMatches
  repeat (first | (with_reducible refine wpAny_loadPart_at he ?_;rw[hc]) | with_reducible refine wpAny_loadPart_at hD0 ?_ | (with_reducible refine wpAny_isSubtype_exc hD0 ?_;rw[hcB]) | (with_reducible refine L.at ?_) | wp_step)
  cases b<;>(try wp_walk)<;>exact h
def asEnds (i:Nat)(D:Ends): Ends:={ nx:=fun σ H=>D.nx (σ.set i none) H,rt:=D.rt,bk:=fun σ H=>D.bk (σ.set i none) H,ct:=fun σ H=>D.ct (σ.set i none) H }
def tTryAs (K:PySem.W.Frag)(D:Addr)(i:Nat)(tb:(St->XK)->TS)(ts:TS): TS:=fun Dn σ H =>
  tb (fun σ' cls dct H'=>∃C,cls=.ref C/\PySem.W.mroIn K C (.ref D)=some true/\∀a,H' a=none->ts (asEnds i Dn) (σ'.set i (some (.ref a))) (upd H' a (exO a (.ref C) dct))) Dn σ H
theorem ps_try_as {X:Cx}{body suite:List Stmt}{b₀:Stmt}{x n:Str}{np hpos pos:Pos}{D:Addr}{i:Nat}{tb:(St->XK)->TS}{ts:TS}
    (hc:X.calm=true) (hex:X.ex=[]) (hst:X.stack=X.env::X.outer) (hfr:X.env.frame=some X.env.locals) (hD:XCls X.K D) (hg:Gl X x) (hm:X.mg x=some (.ref D))
    (hN:X.N.Nodup) (hi:X.N[i]?=some n) (hl:X.env.scope.names.lookup n=some .local)
    (hb:∀(pn:List (Addr×Obj)) (xe:Value->Shared->Prop) (EX:St->XK),PassesX (CXE X.prog X.w) { X with pn:=pn,xe:=xe } EX->PSs { X with pn:=pn,xe:=xe } body (tb EX))
    (hs:∀(pn:List (Addr×Obj)) (A':Around) (xe:Value->Shared->Prop),PSs { X with pn:=pn,A:=A',calm:=false,xe:=xe } (b₀::suite) ts) (hdb:(x==("__debug__" : Str))=false:=by decide) :
    PS X (.Try body [.ExceptHandler (some (.Name x np)) (some n) (b₀::suite) hpos] [] [] pos) (tTryAs X.K D i tb ts):=by
  intro pins s σ H Dn I h
  have hh:=I.ok.hd hc
  refine wpAny_Try_except ?_
  have back:∀{xe:Value->Shared->Prop} {σ':St} {H':Hp} {s':Shared},Inv { X with pn:=X.pn++pins,xe:=xe } [] σ' H' s'->Inv X pins σ' H' s':=fun {xe σ' H' s'} J =>
    Inv.recb (A':=X.A) (calm':=X.calm) J rfl (fun _=>hh) fun p q=>by simpa using q
  refine wpAny_mono (hb (X.pn++pins) (fun e s₁=>wpAny (model X.prog X.w) X.A (noteFrame e X.env) (fun _ s₂=>wpAny (model X.prog X.w) X.A (setFlight e none) (fun _ s₃ =>
      wpAny (model X.prog X.w) X.A (handleBy e X.env [.ExceptHandler (some (.Name x np)) (some n) (b₀::suite) hpos]) (SP X pins Dn) X.xe s₃) X.xe s₂) X.xe s₁) _ ?_ [] s σ H Dn
      (Inv.recx (A':=X.A) (calm':=X.calm) I rfl (fun _=>hh) fun p q=>by simpa using q) h) (fun f s1 q=>?_) fun _ _ z=>z
  · intro pins2 σ2 H2 s2 e s3 I2 hx
    obtain⟨a,cls,dct,H3,he,hos,hgn,un,hok,⟨hd,fl,ha,na,hT⟩,C,hcls,hsub,q⟩:=hx
    subst he
    subst hcls
    have I3:=I2.call' hos un hok hgn (fun b z=>absurd z (by simp))
    have na0:=s0_none I2 hex na
    have hT0:∀T,hd=.ref T->H3 T=none/\X.s₀.heap.get? T=none:=fun T z=>⟨(hT T z).1,by have q:=s0_none I2 hex (hT T z).2;exact q⟩
    have hp3:∀p∈(X.pn++pins)++pins2,p.1≠a/\hd≠.ref p.1:=fun p z=>by
      have e:=(I2.pin p z).1
      exact⟨fun w=>(by rw[w,na] at e;cases e),fun w=>(by rw[(hT _ w).2] at e;cases e)⟩
    refine fly_note (env:=X.env) (outer:=X.outer) (by have:=I.ok.frames;rw[hst] at this;exact this) (by have:=I3.stack;rw[show Cx.stack _=X.env::X.outer from hst] at this;exact this) hfr fl fun h4 T n1 n2 k1 k2 fl4=>?_
    have I4:Inv _ pins2 σ2 H3 { s3 with heap:=h4,toks:=s3.toks }:=I3.flew ha na0 hT0 fl hp3 (fun b o m1 m2 m3 e=>k1 b o m1 m2 (by rw[<-hst];exact m3) e) (fun b o m1 e=>k2 b o (by rw[<-hst];exact m1) e)
    have nT4:H3 T=none:=h_none I3 n1
    have nT0:=s0_none I3 hex n1
    have hp4:∀p∈(X.pn++pins)++pins2,p.1≠a/\(Value.ref T:Value)≠.ref p.1:=fun p z=>⟨(hp3 p z).1,fun w=>by
      have e:=(I3.pin p z).1
      cases w
      rw[n1] at e;cases e⟩
    obtain⟨oe,vs,g1,g2,_⟩:=id fl4
    have J40:=Inv.recx (A':=X.A.mark (some (.ref a))) (calm':=false) (pn':=X.pn++pins) (pins':=pins2) (xe':=fun _ _=>True) I4 rfl (fun z=>nomatch z) (fun p q=>q)
    have J4:Inv { X with pn:=X.pn++pins,A:=X.A.mark (some (.ref a)),calm:=false,xe:=fun _ _=>True } pins2 σ2 H3 { s3 with heap:=h4 }:=J40
    refine wpAny_handleBy_cons (codeAny_handlers_test ?_) (by intro z;cases z)
    refine ld_glob (X:={ X with pn:=X.pn++pins,A:=X.A.mark (some (.ref a)),calm:=false,xe:=fun _ _=>True }) J4 hg hm ?_ hdb
    refine matches_own J4.kIn g1 g2 hD hsub ?_
    refine codeAny_handlers_suite_as (fly_rest fl4 fun h5 k5 fl5=>?_)
    have J5:=J4.flew (h':=h5) (t':=s3.toks) ha na0 (fun T' z=>by cases z;exact⟨nT4,nT0⟩) fl4 hp4 (fun b o _ m2 _ e=>k5 b o (fun z=>m2 (by rw[z])) e) (fun b o m1 e=>by
      refine⟨o.slots,k5 b o (fun z=>?_) e⟩
      obtain⟨_,o',ho',hn⟩:=J4.stack.mem m1
      obtain⟨oe',vs',_,_,_,_,_,hcc⟩:=id fl4
      rcases hcc with w | ⟨T',oT,ts',w,_,w2,w3,_⟩
      · cases w
      · cases w
        rw[z,w2] at ho'
        cases ho'
        exact hn _ w3)
    have J6:=J5.track ha na0 (fun p z=>(hp4 p z).1) fl5
    refine store_ok (X:={ X with pn:=X.pn++pins,A:=X.A.mark (some (.ref a)),calm:=false,xe:=fun _ _=>True }) (v:=.ref a) J6 hN hi (.inl hl) rfl (fun s7 J7=>?_) (.inr hl)
    refine wpAny_mono ((hs (X.pn++pins) (X.A.mark (some (.ref a))) _) pins2 s7 _ _ (asEnds i Dn) (Inv.recx (X:={ X with pn:=X.pn++pins,A:=X.A.mark (some (.ref a)),calm:=false,xe:=fun _ _=>True }) (A':=X.A.mark (some (.ref a))) (calm':=false) (pn':=X.pn++pins) J7 rfl (fun z=>nomatch z) fun p q=>q) (q a ha)) (fun f s8 w=>?_) fun _ _ z=>z
    have fin:∀{xe:Value->Shared->Prop} {σ':St} {H':Hp} {Q':Unit->Shared->Prop},Inv { X with pn:=X.pn++pins,A:=X.A.mark (some (.ref a)),calm:=false,xe:=xe } pins2 σ' H' s8->(∀s9,Inv X pins (σ'.set i none) H' s9->Q' () s9) ->
        wpAny (model X.prog X.w) X.A (do bindName X.env n .none;unbindBehindTheSuite X.env n hpos) Q' X.xe s8:=fun {xe σ' H' Q'} J k=>by
      have J':Inv X pins σ' H' s8:=Inv.recb (A':=X.A.mark (some (.ref a))) (calm':=false) J rfl (fun _=>hh) fun p q=>by simp;rcases List.mem_append.mp q with z | z<;>simp[z]
      obtain⟨m,hn,hlo⟩:=J'.loc
      refine wpAny_nameGoes_keeps hl hn (by rw[J'.ok.kind];rfl) fun h9 v hn9 sb=>k _ ?_
      have J8:Inv X pins σ' H' { s8 with toks:=s8.toks+1 }:=J'.tok _
      obtain⟨oL,_,_,hoL,_⟩:=id hn
      have cne:=J'.cne
      have oth:∀b o,b≠X.env.locals->s8.heap.get? b=some o->h9.get? b=some o:=fun b o nb e=>(sb.2 b nb).trans e
      refine⟨J'.ok,J'.os,J'.bare,⟨fun b o e n hb hx=>?_,fun b o e n hb hx=>?_,J'.base.free,fun b o e hx=>?_,J'.base.tups,J'.base.frzs,J'.base.tbls⟩,⟨_,hn9,fun j y v' e1 e2 e3=>?_⟩,fun y c e=>?_,J'.free,J'.freeC,fun p hp=>?_,fun b ob e=>?_,by simpa using J'.len⟩
      · exact oth b o (Nat.ne_of_lt (Nat.lt_of_lt_of_le (Heap.lt_size e) J'.ok.above)) (J'.base.keep b o e n hb hx)
      · obtain⟨sl,e1⟩:=J'.base.slot b o e n hb hx
        exact⟨sl,oth b _ (Nat.ne_of_lt (Nat.lt_of_lt_of_le (Heap.lt_size e) J'.ok.above)) e1⟩
      · obtain⟨o',e1⟩:=J'.base.there b o e hx
        exact⟨o',oth b _ (Nat.ne_of_lt (Nat.lt_of_lt_of_le (Heap.lt_size e) J'.ok.above)) e1⟩
      · by_cases hj:j=i
        · subst hj
          rw[List.getElem?_set_self (by rw[J'.len];exact(List.getElem?_eq_some_iff.mp hi).1)] at e2
          cases e2
        · rw[List.getElem?_set_ne (Ne.symm hj)] at e2
          obtain⟨u',r',w'⟩:=hlo j y v' e1 e2 e3
          refine⟨u',r',?_⟩
          rcases w' with ⟨k',e⟩ | ⟨k',c,e,z⟩
          · refine .inl ⟨k',?_⟩
            have:y≠n:=fun e=>hj (nodup_ix hN e1 (e ▸ hi))
            simp[this,e]
          · exact .inr ⟨k',c,e,z.sameBut sb (cne y c e)⟩
      · obtain⟨w',z⟩:=J'.cell y c e
        exact⟨w',z.sameBut sb (cne y c e)⟩
      · obtain⟨e,n,ne,nf,d⟩:=J'.pin p hp
        exact⟨oth p.1 _ ne e,n,ne,nf,d⟩
      · refine(J'.hok b ob e).stay (fun c w' hc q=>oth c w' ?_ q) (fun _ q=>q) fun _ _ q=>q
        rintro rfl
        rcases hc with rfl | hc
        · rw[J'.free] at e;cases e
        · rw[J'.free] at hc;cases hc
    cases f with
    | next=>obtain⟨σ',H',J,d⟩:=w;exact fin J fun s9 J9=>⟨_,H',J9,d⟩
    | brk=>obtain⟨σ',H',J,d⟩:=w;exact fin J fun s9 J9=>⟨_,H',J9,d⟩
    | cont=>obtain⟨σ',H',J,d⟩:=w;exact fin J fun s9 J9=>⟨_,H',J9,d⟩
    | ret u=>obtain⟨v,σ',H',J,r,d⟩:=w;exact fin J fun s9 J9=>⟨v,_,H',J9,r,d⟩
  · cases f with
    | next=>obtain⟨σ',H',J,d⟩:=q;exact wpAny_execs_nil ⟨σ',H',back J,d⟩
    | brk=>obtain⟨σ',H',J,d⟩:=q;exact⟨σ',H',back J,d⟩
    | cont=>obtain⟨σ',H',J,d⟩:=q;exact⟨σ',H',back J,d⟩
    | ret u=>obtain⟨v,σ',H',J,r,d⟩:=q;exact⟨v,σ',H',back J,r,d⟩
end L2

set_option maxHeartbeats 4000000
namespace L2
open PySem PySem.Spec PyProof.Rows PyProof.V PySem.SeqAt
mutual
inductive DatV (K:PySem.W.Frag)(H:Hp): V->PyData->Prop
  | non:DatV K H .non .none
  | bl (b:Bool):DatV K H (.bl b) (.bool b)
  | int (i:Int):DatV K H (.int i) (.int i)
  | str (x:Str):DatV K H (.str x) (.str x)
  | lst {a:Addr} {xs:List V} {ds:List PyData}:SqL K H a xs->DatAll K H xs ds->DatV K H (.ref a) (.list ds)
  | tup {a:Addr} {xs:List V} {ds:List PyData}:SqT K H a xs->DatAll K H xs ds->DatV K H (.ref a) (.tuple ds)
inductive DatAll (K:PySem.W.Frag)(H:Hp): List V->List PyData->Prop
  | nil:DatAll K H [] []
  | cons {x:V} {xs:List V} {d:PyData} {ds:List PyData}:DatV K H x d->DatAll K H xs ds->DatAll K H (x::xs) (d::ds)
end
theorem datAll_ints (K:PySem.W.Frag)(H:Hp): ∀ns:List Int,DatAll K H (ns.map V.int) (ns.map PyData.int)
  | []=>.nil
  | n::r=>.cons (.int n) (datAll_ints K H r)
section
variable {X:Cx}{pins:List (Addr×Obj)}{σ:St}{H:Hp}{s:Shared}
mutual
theorem DatV.reads (I:Inv X pins σ H s){v:V}{d:PyData}(h:DatV X.K H v d){u:Value}(r:RelV v u): ∃as,Reads s.heap u d as:=by
  cases h with
  | non=>cases r;exact⟨_,.none⟩
  | bl b=>cases r;exact⟨_,.bool b⟩
  | int i=>obtain⟨t,rfl⟩:=r;exact⟨_,.int i t⟩
  | str x=>obtain⟨t,rfl⟩:=r;exact⟨_,.str x t⟩
  | lst hq ha =>
    cases r
    obtain⟨its,rv,⟨o,n,e,c,_,dd⟩,_⟩:=I.list hq
    obtain⟨as,q⟩:=DatAll.reads I ha rv
    exact⟨_,.list e c dd (by simpa using q)⟩
  | tup hq ha =>
    cases r
    obtain⟨its,rv,⟨o,e,c,n,dd⟩,_⟩:=I.tuple hq
    obtain⟨as,q⟩:=DatAll.reads I ha rv
    exact⟨_,.tuple e c dd (by simpa using q)⟩
theorem DatAll.reads (I:Inv X pins σ H s){vs:List V}{ds:List PyData}(h:DatAll X.K H vs ds){us:List Value}(r:Vals vs us): ∃as,ReadsAll s.heap us ds as:=by
  cases h with
  | nil=>cases r;exact⟨_,.nil⟩
  | cons h1 h2 =>
    cases r with
    | cons r1 r2 =>
      obtain⟨a1,q1⟩:=DatV.reads I h1 r1
      obtain⟨a2,q2⟩:=DatAll.reads I h2 r2
      exact⟨_,.cons q1 q2⟩
end
def rEqD (K:PySem.W.Frag): R2:=fun x y H Q=>∃d d',DatV K H x d/\DatV K H y d'/\shaped d=true/\shaped d'=true/\noMix d d'=true/\Q (.bl (same d d')) H
theorem op_eqD (hu:X.A.units+64 < cLine): OpR X (compareOp .Eq) (rEqD X.K):=by
  intro pins s σ H x y v u Q I rx ry h
  obtain⟨d,d',h1,h2,s1,s2,nm,q⟩:=h
  obtain⟨_,r1⟩:=h1.reads I rx
  obtain⟨_,r2⟩:=h2.reads I ry
  exact eq_dataH_same r1 r2 s1 s2 hu nm ⟨.bl _,H,I,rfl,q⟩
theorem rEqD_ints {K:PySem.W.Frag}{a b:Addr}{ns ms:List Int}{Q:VK}(h1:SqL K H a (ns.map V.int))(h2:SqL K H b (ms.map V.int))(q:Q (.bl (decide (ns=ms))) H): rEqD K (.ref a) (.ref b) H Q :=
  ⟨_,_,.lst h1 (datAll_ints K H ns),.lst h2 (datAll_ints K H ms),PySem.W.shaped_ints ns,PySem.W.shaped_ints ms,by simp only [noMix];exact PySem.W.noMix_ints ns ms,by simp only [PySem.Spec.same];rw[PySem.W.same_ints];exact q⟩
theorem ints_of_vals:∀{ns:List Int} {us:List Value},Vals (ns.map V.int) us->IntsAre us ns
  | [],_,r=>by cases r;exact .nil
  | n::ns,_,r=>by
    rw[List.map_cons] at r
    cases r with
    | cons r1 r2 =>
      obtain⟨t,rfl⟩:=r1
      exact .cons n t (ints_of_vals r2)
theorem Inv.listI (I:Inv X pins σ H s){a:Addr}{ns:List Int}(h:SqL X.K H a (ns.map V.int)): ∃vs:List Value,s.heap.IsList a vs.toArray/\IntsAre vs ns/\ns.length<=sizeLine:=by
  obtain⟨its,rv,p,hz⟩:=I.list h
  exact⟨its,p.isList,ints_of_vals rv,by simpa using hz⟩
theorem call_sumL (hc:X.calm=true): CallR X (.builtin "sum") (fun xs H Q=>∃(p:Addr) (ns:List Int),xs=[.ref p]/\SqL X.K H p (ns.map V.int)/\Q (.int ns.sum) H):=by
  intro pins s σ H xs us Q I r h
  obtain⟨p,ns,rfl,hq,q⟩:=h
  obtain⟨u,rfl,ru⟩:=vals1 r
  cases ru
  obtain⟨vs,hl,hi,_⟩:=I.listI hq
  obtain⟨ys,hx⟩:=hi.allInts.items
  have hl':s.heap.IsList p (intItems ys):=hx ▸ hl
  refine sum_intListG (I.ok.hd hc) hl' fun h' tk t' hk=>⟨.int ns.sum,H,I.kept hk,⟨t',?_⟩,q⟩
  have e1:ns=ys.toList.map (·.1):=by
    rw[<-nums_intItems,<-hx]
    exact(show numsOf vs.toArray.toList=ns from hi.numsOf).symm
  rw[preSum_eq,List.take_of_length_le (by simp),e1]
end
theorem eq_pure {M:Model}{A:Around}{m:Sem Unit}{Q:Unit->Shared->Prop}{E:Value->Shared->Prop}{s:Shared}(h:m=pure ())(q:Q () s): wpAny M A m Q E s:=by rw[h];exact wpAny_pure q
theorem exc_class {prog:Program}{w:World}{A:Around}{E:Value->Shared->Prop}{s:Shared}{K:PySem.W.Frag}{x D:Addr}{oe:Obj}{od:Option Obj}{Q:Option Value->Shared->Prop}(X:K.In s.heap)(I:PySem.W.InstAt s.heap x oe D od)
    (hga:PySem.W.findIn K (.ref D) "__getattribute__" = some (some (.builtin "BaseException.__getattribute__"))) (hno:PySem.W.findIn K (.ref D) "__getattr__" = some none) (hb:PySem.W.mroIn K D (.type "BaseException")=some true)
    (hm:PySem.W.mroIn K D (.type "object")=some true) (hf:PySem.W.findObj K D od "__class__" = some (.bind (.builtin "getset_descriptor.__get__") (.builtin "object.__class__"))) (h:Q (some (.ref D)) { s with toks:=s.toks+1 }) :
    wpAny (model prog w) A (getAttr? (.ref x) "__class__") Q E s:=by
  obtain⟨hh,g,d,t,os⟩:=s
  have L0:=I.type (M:=model prog w)
  have L1:=PySem.W.looks_findIn (M:=model prog w) X hga
  have L2:=PySem.W.looks_findIn (M:=model prog w) X hno
  have L3:=PySem.W.looks_mroIn (M:=model prog w) X hb
  have L4:=PySem.W.looks_find (M:=model prog w) X I hf
  unfold getAttr? getAttrBy? getAttrBy
  refine wpAny_bind (wpAny_mkText (wpAny_bind (wpAny_attempt (wpAny_holding (wpAny_bind (L0.at (wpAny_bind (L1.at ?_))))))))
  show wpAny _ _ (getAttrByItsOwn _ _ _ _ _ _) _ _ _
  unfold getAttrByItsOwn
  refine wpAny_bind (show wpAny _ _ (typeLookup (.ref D) "__getattr__") _ _ _ from L2.at ?_)
  refine wpAny_bind (wpAny_attempt (wpAny_holding ?_))
  show wpAny _ _ (boundAndCalled _ _ _) _ _ _
  unfold boundAndCalled
  rw[PySem.F.excAttr_ValueError.ga.bind]
  refine wpAny_bind (wpAny_pure ?_)
  show wpAny _ _ (call (.builtin "BaseException.__getattribute__") [.ref x,.str "__class__" _]) _ _ _
  have hk:builtinKind "BaseException.__getattribute__" = some .slot:=by decide +kernel
  have hsplit:splitId "BaseException.__getattribute__" = some ("BaseException", "__getattribute__"):=by decide +kernel
  refine wpAny_call (codeAny_call_builtin PySem.F.excAttr_ValueError.ga.plain PySem.F.entry_bexc_ga ?_)
  have ha:=PySem.F.args_bexc_ga (.ref x) (.str "__class__" t)
  simp only [checkBuiltinCall,hk,hsplit]
  refine wpAny_bind ?_
  unfold isInstance
  refine wpAny_bind (L0.at (L3.at ?_))
  rw[if_neg (by decide)]
  refine eq_pure ha ?_
  unfold Builtin.«object.__getattribute__»
  refine wpAny_bind ?_
  refine wpAny_pure ?_
  dsimp only
  refine wpAny_bind (wpAny_pure (wpAny_bind (L0.at (wpAny_bind (L4.at ?_)))))
  dsimp only
  show wpAny _ _ (holding [.builtin "object.__class__"] (call (.builtin "getset_descriptor.__get__") [.builtin "object.__class__",.ref x,.ref D]) >>= ret) _ _ _
  refine wpAny_bind (wpAny_holding (wpAny_call (PySem.W.class_get (s:=⟨hh,g,d,t+1,os⟩) (ox:=oe) (od:=od) X I hm ?_)))
  refine wpAny_pure ?_
  exact PySem.W.handed_on rfl (wpAny_pure h)
structure XIs (K:PySem.W.Frag)(C:Addr): Prop where
  hga:PySem.W.findIn K (.ref C) "__getattribute__" = some (some (.builtin "BaseException.__getattribute__"))
  hno:PySem.W.findIn K (.ref C) "__getattr__" = some none
  hb:PySem.W.mroIn K C (.type "BaseException")=some true
  hd:PySem.W.hasDictIn K C=true
  ha:PySem.W.findIn K (.ref C) "__class__" = some (some (.builtin "object.__class__"))
  hm:PySem.W.mroIn K C (.type "object")=some true
structure IsK (K:PySem.W.Frag): Prop where
  hn:PySem.W.specialIn K (.builtin "object.__class__") "__get__" = some (some (.builtin "getset_descriptor.__get__"))
  htk:PySem.W.takesIn K (.builtin "object.__class__")=some true
inductive TyE (K:PySem.W.Frag)(H:Hp): V->Value->Prop where
  | of {x:V} {t:Value} (h:TyOf K H x t):TyE K H x t
  | exc {a C:Addr} (e:H a=some (exO a (.ref C) none)) (x:XIs K C) (k:IsK K):TyE K H (.ref a) (.ref C)
  | excd {a C d:Addr} {φ:Heap->Prop} (e:H a=some (exO a (.ref C) (some d))) (e2:H d=some (.ext φ)) (x:XIs K C) (k:IsK K):TyE K H (.ref a) (.ref C)
def clsV:V->Value
  | .ref a=>.ref a
  | .ty n=>.type n
  | _=>.none
def isClsV:V->Bool
  | .ref _=>true
  | .ty _=>true
  | _=>false
theorem clsV_of {c:V}{u:Value}(h:isClsV c=true)(r:RelV c u): u=clsV c:=by
  cases c<;>first | exact r | exact absurd (show false=true from h) Bool.false_ne_true
theorem kitx_exc {K:PySem.W.Frag}{x D:Addr}(q:XIs K D)(k:IsK K): PySem.W.KitX K (.ref x) (.ref D) (fun h=>∃oe vs,h.get? x=some oe/\oe.cls=.ref D/\oe.dict=none/\oe.data=.fields vs) where
  ty:=fun M h _ p=>by
    obtain⟨oe,vs,h1,h2,_⟩:=p
    exact h2 ▸ (PySem.W.Looks.ld h1).andThen .now
  it:=fun _ _ X _=>by
    obtain⟨cdD,hcD,_⟩:=PySem.W.any_some q.hd
    unfold PySem.W.clsIn at hcD
    split at hcD
    · next ho =>
      intro A' Q' E' s' k q
      unfold isType loadHead
      exact wpAny_bind (wpAny_loadPart (k _ _ (X _ _ ho)) (wpAny_pure q))
    · cases hcD
  ne:=fun h tp dd its n sl X htp=>by
    obtain⟨cdD,hcD,_⟩:=PySem.W.any_some q.hd
    refine Bool.eq_false_iff.mpr fun z=>?_
    have e:D=tp:=Value.ref.inj (beq_iff_eq.mp z)
    subst e
    unfold PySem.W.clsIn at hcD
    split at hcD
    · next ho =>
      have z:=(X _ _ ho).symm.trans htp
      cases z
    · cases hcD
  ca:=fun {prog w A E Q s} X p hq=>by
    obtain⟨oe,vs,h1,h2,h3,h4⟩:=p
    have I:PySem.W.InstAt s.heap x oe D none:=⟨h1,h2,by unfold PySem.W.notCls;rw[h4],by rw[h3];trivial⟩
    have hf:PySem.W.findObj K D none "__class__" = some (.bind (.builtin "getset_descriptor.__get__") (.builtin "object.__class__")):=by
      obtain⟨cd,hc,_⟩:=PySem.W.any_some q.hd
      unfold PySem.W.findObj
      rw[hc,Option.bind_some,q.ha,Option.bind_some]
      simp[k.hn,k.htk]
    exact exc_class X I q.hga q.hno q.hb q.hm hf hq
theorem kitx_excd {K:PySem.W.Frag}{x D dx:Addr}(q:XIs K D)(k:IsK K): PySem.W.KitX K (.ref x) (.ref D) (fun h=>(∃oe vs,h.get? x=some oe/\oe.cls=.ref D/\oe.dict=some dx/\oe.data=.fields vs)/\∃od,h.get? dx=some od) where
  ty:=fun M h _ p=>by
    obtain⟨⟨oe,vs,h1,h2,_⟩,_⟩:=p
    exact h2 ▸ (PySem.W.Looks.ld h1).andThen .now
  it:=fun _ _ X _=>by
    obtain⟨cdD,hcD,_⟩:=PySem.W.any_some q.hd
    unfold PySem.W.clsIn at hcD
    split at hcD
    · next ho =>
      intro A' Q' E' s' k q
      unfold isType loadHead
      exact wpAny_bind (wpAny_loadPart (k _ _ (X _ _ ho)) (wpAny_pure q))
    · cases hcD
  ne:=fun h tp dd its n sl X htp=>by
    obtain⟨cdD,hcD,_⟩:=PySem.W.any_some q.hd
    refine Bool.eq_false_iff.mpr fun z=>?_
    have e:D=tp:=Value.ref.inj (beq_iff_eq.mp z)
    subst e
    unfold PySem.W.clsIn at hcD
    split at hcD
    · next ho =>
      have z:=(X _ _ ho).symm.trans htp
      cases z
    · cases hcD
  ca:=fun {prog w A E Q s} X p hq=>by
    obtain⟨⟨oe,vs,h1,h2,h3,h4⟩,od,h5⟩:=p
    have I:PySem.W.InstAt s.heap x oe D (some od):=⟨h1,h2,by unfold PySem.W.notCls;rw[h4],by rw[h3];exact h5⟩
    have hf:PySem.W.findObj K D (some od) "__class__" = some (.bind (.builtin "getset_descriptor.__get__") (.builtin "object.__class__")):=by
      obtain⟨cd,hc,_⟩:=PySem.W.any_some q.hd
      unfold PySem.W.findObj
      rw[hc,Option.bind_some,q.ha,Option.bind_some]
      simp[k.hn,k.htk]
    exact exc_class X I q.hga q.hno q.hb q.hm hf hq
section
variable {X:Cx}
theorem tyE_kit {pins:List (Addr×Obj)}{σ:St}{H:Hp}{s:Shared}{x:V}{u t:Value}(I:Inv X pins σ H s)(rx:RelV x u)(ty:TyE X.K H x t): ∃P:Heap->Prop,PySem.W.KitX X.K u t P/\P s.heap/\u≠.builtin "__main__.__loader__#opaque" := by
  cases ty with
  | exc e q k =>
    cases rx
    exact⟨_,kitx_exc q k,(I.hok _ _ e).1,fun z=>nomatch z⟩
  | excd e e2 q k =>
    cases rx
    exact⟨_,kitx_excd q k,⟨(I.hok _ _ e).1,(I.hok _ _ e2).2.1⟩,fun z=>nomatch z⟩
  | of h =>
    cases h with
    | non=>cases (show u=Value.none from rx);exact⟨_,PySem.W.kitx_none,trivial,fun z=>nomatch z⟩
    | bl y=>cases (show u=Value.bool y from rx);exact⟨_,PySem.W.kitx_bool,trivial,fun z=>nomatch z⟩
    | int i=>obtain⟨t,q⟩:=(show ∃t,u=Value.int i t from rx);cases q;exact⟨_,PySem.W.kitx_int,trivial,fun z=>nomatch z⟩
    | str y=>obtain⟨t,q⟩:=(show ∃t,u=Value.str y t from rx);cases q;exact⟨_,PySem.W.kitx_str,trivial,fun z=>nomatch z⟩
    | flt y=>obtain⟨t,q⟩:=(show ∃t,u=Value.float y t from rx);cases q;exact⟨_,PySem.W.kitx_float,trivial,fun z=>nomatch z⟩
    | @lst a xs ea =>
      cases (show u=Value.ref a from rx)
      obtain⟨_,_,n,_,h1⟩:=(show ObjOk X.prog X.w H s.heap a (.lst xs) from I.hok a _ ea)
      exact⟨_,PySem.W.kitx_list,⟨_,h1,rfl⟩,fun z=>nomatch z⟩
    | @frz a ob xs ea =>
      cases (show u=Value.ref a from rx)
      obtain⟨_,_,_,n,_,h1⟩:=(show ObjOk X.prog X.w H s.heap a (.frz ob (.lst xs)) from I.hok a _ ea)
      exact⟨_,PySem.W.kitx_list,⟨_,h1,rfl⟩,fun z=>nomatch z⟩
    | @tup a xs ea =>
      cases (show u=Value.ref a from rx)
      obtain⟨_,_,_,p⟩:=(show ObjOk X.prog X.w H s.heap a (.tup xs) from I.hok a _ ea)
      obtain⟨o,h1,h2,_⟩:=p
      exact⟨_,PySem.W.kitx_tuple,⟨o,h1,h2⟩,fun z=>nomatch z⟩
    | @dK a kvs ea =>
      cases (show u=Value.ref a from rx)
      obtain⟨_,_,vs,_,p⟩:=(show ObjOk X.prog X.w H s.heap a (.dK kvs) from I.hok a _ ea)
      obtain⟨o,es,ep,h1,h2,_⟩:=p
      exact⟨_,PySem.W.kitx_dict,⟨o,h1,h2.1⟩,fun z=>nomatch z⟩
    | @dT a kvs ea =>
      cases (show u=Value.ref a from rx)
      obtain⟨_,_,xs,_,o,es,ep,h1,h2,_⟩:=(show ObjOk X.prog X.w H s.heap a (.dT kvs) from I.hok a _ ea)
      exact⟨_,PySem.W.kitx_dict,⟨o,h1,h2.1⟩,fun z=>nomatch z⟩
    | @ins a C dx fs ea cl ha hn htk hm =>
      cases (show u=Value.ref a from rx)
      obtain⟨mA,O,_⟩:=ins_get I.hok ea
      obtain⟨od,J,_⟩:=O.look
      exact⟨_,PySem.W.kitx_own (cl.get _) cl.hd ha hn htk hm,J,fun z=>nomatch z⟩
theorem call_isinst:CallR X (.builtin "isinstance") (fun xs H Q=>∃x c t b,xs=[x,c]/\isClsV c=true/\TyE X.K H x t/\PySem.W.kitOne X.K t (clsV c)=some b/\Q (.bl b) H):=by
  intro pins s σ H xs us Q I r h
  obtain⟨x,c,t,b,rfl,hc,ty,e,q⟩:=h
  obtain⟨u,v,rfl,ru,rv⟩:=vals2 r
  have:=clsV_of hc rv
  subst this
  obtain⟨P,kx,p,ne⟩:=tyE_kit I ru ty
  exact PySem.W.kia_one kx I.kIn p e ne fun tk=>⟨.bl b,H,I.tok tk,rfl,q⟩
theorem vals_cls:∀{cs:List V} {us:List Value},Vals cs us->cs.all isClsV=true->us=cs.map clsV
  | _,_,.nil,_=>rfl
  | _,_,.cons r1 r2,h=>by
    rw[List.all_cons,Bool.and_eq_true] at h
    rw[List.map_cons,clsV_of h.1 r1,vals_cls r2 h.2]
theorem call_isinstT:CallR X (.builtin "isinstance") (fun xs H Q=>∃x p cs t b,xs=[x,.ref p]/\H p=some (.tup cs)/\cs.all isClsV=true/\TyE X.K H x t/\PySem.W.kitAny X.K t (cs.map clsV)=some b/\Q (.bl b) H):=by
  intro pins s σ H xs us Q I r h
  obtain⟨x,p,cs,t,b,rfl,hp,hc,ty,e,q⟩:=h
  obtain⟨u,v,rfl,ru,rv⟩:=vals2 r
  cases rv
  obtain⟨_,its,rvs,⟨⟨ocls,od,odt,osl⟩,h1,h2,n,h3⟩⟩:=(show ObjOk X.prog X.w H s.heap p (.tup cs) from I.hok p _ hp)
  dsimp only at h2 h3
  subst h2
  subst h3
  have:=vals_cls rvs hc
  subst this
  obtain⟨P,kx,pp,ne⟩:=tyE_kit I ru ty
  exact PySem.W.kia_tup kx I.kIn pp h1 e ne fun tk=>⟨.bl b,H,I.tok tk,rfl,q⟩
end
end L2

set_option maxHeartbeats 4000000
namespace L2
open PySem
def closL (cells:List (Str×Addr)): List (Str×NameKind)->List (Str×Addr)->List (Str×Addr)
  | [],acc=>acc
  | (n,k)::r,acc=>closL cells r (if k==.free then (n,(cells.lookup n).getD 0)::acc else acc)
def closF (env:Env)(x:Str×NameKind)(cs:List (Str×Addr)): Sem (ForInStep (List (Str×Addr))):=match x with
  | (name,kind)=>if (kind==.free)=true then do let a <-cellOf env name;pure (ForInStep.yield ((name,a)::cs)) else pure (ForInStep.yield cs)
theorem closF_eq {env:Env}{n:Str}{k:NameKind}{cs:List (Str×Addr)}(h:k=.free->∃c,env.cells.lookup n=some c):
    closF env (n,k) cs=pure (ForInStep.yield (if k==.free then (n,(env.cells.lookup n).getD 0)::cs else cs)):=by
  unfold closF
  by_cases hk:(k==NameKind.free)=true
  · obtain⟨c,hc⟩:=h (by simpa using hk)
    simp only [hk,if_true,cellOf,hc,pure_bind,Option.getD_some]
  · simp only [hk,if_false,Bool.false_eq_true]
theorem clos_eq {scope:Scope}{env:Env}(h:∀y∈scope.names,y.2=.free->∃c,env.cells.lookup y.1=some c): closureFor scope env=pure (closL env.cells scope.names []):=by
  have key:∀(l:List (Str×NameKind)) (acc:List (Str×Addr)),(∀y∈l,y.2=.free->∃c,env.cells.lookup y.1=some c) ->
      forIn l acc (closF env)=(pure (closL env.cells l acc):Sem (List (Str×Addr))):=by
    intro l
    induction l with
    | nil=>intro acc _;rfl
    | cons p r ih =>
      obtain⟨n,k⟩:=p
      intro acc hl
      rw[List.forIn_cons,closF_eq (fun z=>hl (n,k) List.mem_cons_self z),pure_bind]
      exact ih _ fun y hy=>hl y (List.mem_cons_of_mem _ hy)
  show (forIn scope.names [] (closF env) >>= fun cs=>pure cs)=_
  rw[key scope.names [] h,pure_bind]
theorem closL_in {cells:List (Str×Addr)}{y:Str}{c:Addr}: ∀{l:List (Str×NameKind)} {acc:List (Str×Addr)},(∀p∈l,p.2=.free->∃c,cells.lookup p.1=some c)->(acc.lookup y=some c->cells.lookup y=some c) ->
    (closL cells l acc).lookup y=some c->cells.lookup y=some c
  | [],acc,_,ha,h=>ha h
  | (n,k)::r,acc,hl,ha,h=>by
    refine closL_in (l:=r) (fun p hp=>hl p (List.mem_cons_of_mem _ hp)) ?_ h
    by_cases hk:(k==NameKind.free)=true
    · rw[if_pos hk,List.lookup_cons]
      obtain⟨d,hd⟩:=hl (n,k) List.mem_cons_self (by simpa using hk)
      have hd':cells.lookup n=some d:=hd
      cases e:y==n with
      | true =>
        have:y=n:=beq_iff_eq.mp e
        subst this
        intro q
        rw[hd'] at q ⊢
        exact q
      | false=>exact ha
    · rw[if_neg hk];exact ha
theorem closL_acc {cells:List (Str×Addr)}{y:Str}: ∀{l:List (Str×NameKind)} {acc:List (Str×Addr)},(∃c,acc.lookup y=some c)->∃c,(closL cells l acc).lookup y=some c
  | [],_,h=>h
  | (n,k)::r,acc,h=>by
    refine closL_acc (l:=r) ?_
    by_cases hk:(k==NameKind.free)=true
    · rw[if_pos hk,List.lookup_cons]
      cases e:y==n with
      | true=>exact⟨_,rfl⟩
      | false=>exact h
    · rw[if_neg hk];exact h
theorem closL_has {cells:List (Str×Addr)}{y:Str}: ∀{l:List (Str×NameKind)} {acc:List (Str×Addr)},(y,NameKind.free)∈l->∃c,(closL cells l acc).lookup y=some c
  | [],_,h=>nomatch h
  | (n,k)::r,acc,h=>by
    rcases List.mem_cons.mp h with q | q
    · cases q
      refine closL_acc (l:=r) ?_
      rw[if_pos (by rfl),List.lookup_cons]
      simp
    · exact closL_has (l:=r) q
section
variable {prog:Program}{w:World}{A:Around}{R:Result->Shared->Prop}{s:Shared}
theorem comp_loop {elt target iter:Expr}{ifs:List Expr}{scope:Scope}{pos:Pos}{it acc:Value}{env:Env}(I:Nat->Shared->Prop)
    (turn:∀n s,I n s->wpAny (model prog w) A (pyNext it) (fun r s₁=>match r with
      | none=>R (.ok .next) s₁
      | some v=>wpAny (model prog w) A (letOwnedTupleGo target it v) (fun _ s₂=>wpAny (model prog w) A (assign target env v) (fun _ s₃ =>
          wpAny (model prog w) A (forIn ifs true fun c r=>if r=true then do let ok <-isTrue c env (eval c env);pure (ForInStep.yield ok) else pure (ForInStep.yield r)) (fun ok s₄ =>
            if ok=true then wpAny (model prog w) A (eval elt env) (fun x s₅=>wpAny (model prog w) A (call (.builtin "list.append") [acc,x]) (fun _ s₆=>∃m,m < n/\I m s₆) (fun _ _=>False) s₅) (fun _ _=>False) s₄
            else ∃m,m < n/\I m s₄) (fun _ _=>False) s₃) (fun _ _=>False) s₂) (fun _ _=>False) s₁) (fun _ _=>False) s)
    (n:Nat) (h:I n s):codeAny (model prog w) A (.compLoop (.ListComp elt [⟨target,iter,ifs,0⟩] scope pos) 0 it acc env) R s:=by
  refine codeAny_loop rfl I (fun n s hI=>?_) n h
  show wpAny _ A ((compTurn (.ListComp elt [⟨target,iter,ifs,0⟩] scope pos) 0 it acc env).onRaise (fun x=>do noteFrame x env;theTreesLotGoes x)) _ _ s
  refine wpAny_noted ?_
  rw[compTurn_list]
  have no:∀{α:Type} {t:Sem α} {Q:α->Shared->Prop} {E:Value->Shared->Prop} {s:Shared},wpAny (model prog w) A t Q (fun _ _=>False) s->wpAny (model prog w) A t Q E s:=fun {α t Q E s} z=>wpAny_mono z (fun _ _ q=>q) fun _ _ q=>q.elim
  refine wpAny_bind (wpAny_standAt (wpAny_bind (no (wpAny_mono (turn n s hI) (fun r s₁ h₁=>?_) fun _ _ z=>z))))
  cases r with
  | none=>exact wpAny_pure h₁
  | some v =>
    refine wpAny_bind (no (wpAny_mono h₁ (fun _ s₂ h₂=>?_) fun _ _ z=>z))
    refine wpAny_bind (no (wpAny_mono h₂ (fun _ s₃ h₃=>?_) fun _ _ z=>z))
    refine wpAny_bind (no (wpAny_mono h₃ (fun ok s₄ h₄=>?_) fun _ _ z=>z))
    cases ok with
    | false=>exact wpAny_pure ⟨rfl,h₄⟩
    | true=>exact wpAny_bind (wpAny_bind (no (wpAny_mono h₄ (fun x s₅ h₅=>wpAny_bind (no (wpAny_mono h₅ (fun _ s₆ h₆=>wpAny_pure (wpAny_pure ⟨rfl,h₆⟩)) fun _ _ z=>z))) fun _ _ z=>z)))
end
end L2

set_option maxHeartbeats 4000000
namespace L2
open PySem PySem.Spec PyProof.Rows
theorem relabel_look {scope:Scope}{env:Env}{y:Str}: (relabel scope env).names.lookup y=(scope.names.lookup y).map fun k=>if (k==.free&&env.scope.kind==.function&&env.kindOf y==some .cell) then NameKind.cell else k:=by
  unfold relabel
  show (scope.names.map _).lookup y=_
  generalize scope.names=l
  induction l with
  | nil=>rfl
  | cons p r ih =>
    obtain⟨n,k⟩:=p
    rw[List.map_cons]
    cases e:y==n with
    | true =>
      have:y=n:=beq_iff_eq.mp e
      subst this
      by_cases h:(k==NameKind.free&&env.scope.kind==.function&&env.kindOf y==some .cell)=true
      · simp only [h,if_true,List.lookup_cons,beq_self_eq_true,Option.map_some]
      · simp only [h,if_false,List.lookup_cons,beq_self_eq_true,Option.map_some,Bool.false_eq_true]
    | false =>
      by_cases h:(k==NameKind.free&&env.scope.kind==.function&&env.kindOf n==some .cell)=true
      · simp only [h,if_true,List.lookup_cons,e];exact ih
      · simp only [h,if_false,List.lookup_cons,e,Bool.false_eq_true];exact ih
theorem mem_of_look {l:List (Str×NameKind)}{y:Str}{k:NameKind}(h:l.lookup y=some k): (y,k)∈l:=PySem.mem_of_lookup h
structure CompOk (scope fsc:Scope)(xs N' N:List Str): Prop where
  kind:scope.kind=.function
  own:∀y∈scope.names,y.2=.local->scope.names.lookup y.1=some .local
  nocell:(scope.names.all fun y=>y.2 != .cell)=true
  frees:(scope.names.all fun y=>y.2 != .free || fsc.names.lookup y.1==some .cell || fsc.names.lookup y.1==some .free)=true
  mask:(N'.all fun y=>scope.names.lookup y != some .local)=true
  same:((N'.zip N).all fun p=>p.1==p.2 || scope.names.lookup p.1==none)=true
  len:N'.length=N.length
def cxComp (X:Cx)(scope:Scope)(NN:List Str)(C:Addr)(s:Shared)(H:Hp)(pins:List (Addr×Obj))(fp:List Addr): Cx :=
  { X with N:=NN,s₀:=s,H₀:=H,env:=compEnvC scope (closL X.env.cells scope.names []) C X.env,outer:=X.stack,stack:=X.stack,ex:=fp,fn:=fun _=>false,pn:=X.pn++pins,xe:=fun _ _=>False }
section
variable {X:Cx}{pins:List (Addr×Obj)}{σ:St}{H:Hp}{s:Shared}{scope:Scope}{xs N':List Str}{fp:List Addr}
theorem CompOk.free {fsc:Scope}{N:List Str}{y:Str}(c:CompOk scope fsc xs N' N)(h:scope.names.lookup y=some .free): fsc.names.lookup y=some .cell\/fsc.names.lookup y=some .free:=by
  have:=List.all_eq_true.mp c.frees _ (mem_of_look h)
  simp at this
  exact this
theorem CompOk.vis {fsc:Scope}{N:List Str}{y:Str}{env:Env}(c:CompOk scope fsc xs N' N)(h:(relabel scope env).names.lookup y=some .cell\/(relabel scope env).names.lookup y=some .free): scope.names.lookup y=some .free:=by
  rw[relabel_look] at h
  cases e:scope.names.lookup y with
  | none=>rw[e] at h;simp at h
  | some k =>
    have nc:=List.all_eq_true.mp c.nocell _ (mem_of_look e)
    rw[e] at h
    cases k<;>simp at nc h ⊢
theorem relabel_loc {env:Env}{y:Str}(h:(relabel scope env).names.lookup y=some .local): scope.names.lookup y=some .local:=by
  rw[relabel_look] at h
  cases e:scope.names.lookup y with
  | none=>rw[e] at h;simp at h
  | some k =>
    rw[e] at h
    simp only [Option.map_some,Option.some.injEq] at h
    split at h
    · cases h
    · rw[h]
theorem comp_start (I:Inv X pins σ H s)(cok:CompOk scope X.env.scope xs N' X.N)(hfp:∀b∈fp,FpOk X pins H b)(hfo:∀b∈fp,∃o,s.heap.get? b=some o){h1:Heap}{tk:Nat}(hn:h1.Ns s.heap.objs.size fun _=>none)
    (keep:∀b o,s.heap.get? b=some o->h1.get? b=some o):Inv (cxComp X scope (xs++N') s.heap.objs.size s H pins fp) [] (List.replicate xs.length none++σ) H { s with heap:=h1,toks:=tk }:=by
  have has:∀y,scope.names.lookup y=some .free->∃c,X.env.cells.lookup y=some c:=fun y h=>I.ok.has y (cok.free h)
  have cells:∀y c,(closL X.env.cells scope.names []).lookup y=some c->X.env.cells.lookup y=some c:=fun y c h=>by
    refine closL_in (l:=scope.names) (acc:=[]) (fun p hp hk=>?_) (fun z=>nomatch z) h
    have:X.env.scope.names.lookup p.1=some .cell\/X.env.scope.names.lookup p.1=some .free:=by
      have:=List.all_eq_true.mp cok.frees p hp
      simp[hk] at this
      exact this
    exact I.ok.has p.1 this
  have clt:∀y c,X.env.cells.lookup y=some c->c < s.heap.objs.size:=fun y c h=>by
    obtain⟨v,q⟩:=I.cell y c h
    exact q.lt
  have sLs:∀b∈fp,b∉frs X.stack:=fun b hb z=>by
    rcases List.mem_cons.mp (I.stkSub b z) with q | q
    · exact(hfp b hb).2.1 q
    · exact(hfp b hb).2.2.1 q
  have cellK:∀c v,s.heap.IsCell c v->h1.IsCell c v:=fun c v ⟨o,ho,hd⟩=>⟨o,keep c o ho,hd⟩
  refine⟨⟨I.ok.mod,?_,I.ok.glob,I.ok.blt,Nat.le_refl _,fun y z c h1 h2=>I.ok.inj y z c (cells y c h1) (cells z c h2),fun y h=>?_,fun _ _ z=>(nomatch z),I.ok.hd,I.ok.frames,.inl rfl,fun b hb=>⟨?_,fun y c h=>?_⟩,I.bs,Nat.le_trans I.ok.bsz I.sz,fun b o e hb=>?_,sLs,I.stack,I.stkFree⟩,
    rfl,I.bare,Un.kept keep,⟨_,hn,fun i y v e1 e2 e3=>?_⟩,fun y c h=>?_,I.hok.fresh (Nat.le_refl _),fun y c h=>I.freeC y c (cells y c h),fun p hp=>?_,I.hok.kept keep,?_⟩
  · show scope.kind=_;exact cok.kind
  · exact closL_has (mem_of_look (cok.vis h))
  · obtain⟨o,e⟩:=hfo b hb
    exact Nat.ne_of_lt (Heap.lt_size e)
  · exact(hfp b hb).2.2.2.2.1 y c (cells y c h)
  · rcases (hfp b hb).2.2.2.1 with z | z
    · exact I.ok.noex b o e z
    · exact absurd (Nat.lt_of_lt_of_le (Heap.lt_size (I.ok.bs b o e).1) z) (Nat.lt_irrefl _)
  · have hi:xs.length<=i:=by
      refine Nat.le_of_not_lt fun z=>?_
      rw[List.getElem?_append_left (by rw[List.length_replicate];exact z),List.getElem?_replicate] at e2
      split at e2<;>simp at e2
    have e1':N'[i-xs.length]?=some y:=by
      have e1:(xs++N')[i]?=some y:=e1
      rwa [List.getElem?_append_right hi] at e1
    have e2':σ[i-xs.length]?=some (some v):=by
      rw[List.getElem?_append_right (by rw[List.length_replicate];exact hi),List.length_replicate] at e2
      exact e2
    have mem:=List.mem_of_getElem? e1'
    have hk:(relabel scope X.env).names.lookup y=some .cell\/(relabel scope X.env).names.lookup y=some .free:=by
      rcases e3 with z | z
      · have:=List.all_eq_true.mp cok.mask y mem
        rw[relabel_loc z] at this
        simp at this
      · exact z
    have hf:=cok.vis hk
    have hx:X.N[i-xs.length]?=some y:=by
      have hl:i-xs.length < X.N.length:=by rw[<-cok.len];exact(List.getElem?_eq_some_iff.mp e1').1
      have hz:(N'.zip X.N)[i-xs.length]?=some (y,X.N[i-xs.length]):=by
        rw[List.getElem?_zip_eq_some]
        exact⟨e1',List.getElem?_eq_getElem hl⟩
      have:=List.all_eq_true.mp cok.same _ (List.mem_of_getElem? hz)
      simp[hf] at this
      rw[List.getElem?_eq_getElem hl,<-this]
    obtain⟨m,hm,hl⟩:=I.loc
    have hv:Vis X.env.scope y:=.inr (cok.free hf)
    obtain⟨u,r,l⟩:=hl _ y v hx e2' hv
    refine⟨u,r,.inr ⟨hk,?_⟩⟩
    rcases l with ⟨k,_⟩ | ⟨_,c,hc,hcell⟩
    · rcases cok.free hf with z | z
      · rw[show X.env.scope.names.lookup y=some .local from k] at z;cases z
      · rw[show X.env.scope.names.lookup y=some .local from k] at z;cases z
    · obtain⟨c',hc'⟩:=closL_has (cells:=X.env.cells) (acc:=[]) (mem_of_look hf)
      have:c=c':=by
        have:=cells y c' hc'
        rw[hc] at this
        exact Option.some.inj this
      subst this
      exact⟨c,hc',cellK c _ hcell⟩
  · obtain⟨v,q⟩:=I.cell y c (cells y c h)
    exact⟨v,cellK c v q⟩
  · have hp':p∈X.pn++pins:=by simpa [cxComp] using hp
    obtain⟨e,n,ne,nf,d⟩:=I.pin p hp'
    refine⟨keep p.1 p.2 e,n,Nat.ne_of_lt (Heap.lt_size e),fun z=>?_,d⟩
    rcases List.mem_cons.mp (I.stkSub p.1 z) with q | q
    · exact ne q
    · exact nf q
  · show (List.replicate xs.length none++σ).length=(xs++N').length
    rw[List.length_append,List.length_append,List.length_replicate,I.len,cok.len]
def tTrue:TT:=fun _ H Q=>Q true H
def PTs (X:Cx)(ifs:List Expr)(t:TT): Prop :=
  ∀(pins:List (Addr×Obj)) (s:Shared) (σ:St) (H:Hp) (Q:Bool->Hp->Prop),Inv X pins σ H s->t σ H Q ->
    wpAny (model X.prog X.w) X.A (forIn ifs true fun c r=>if r=true then do let ok <-isTrue c X.env (eval c X.env);pure (ForInStep.yield ok) else pure (ForInStep.yield r)) (TP X pins σ Q) X.xe s
theorem pts_nil:PTs X [] tTrue:=fun _ _ _ H _ I h=>wpAny_tests_nil ⟨H,I,h⟩
def tComp (k:Nat)(wi:TI)(g:TG)(tc:TT)(te:TE): TE:=fun σ H Q=>wi σ H fun J H1=>∀acc,H1 acc=none->∃(W:Nat->List V->Hp->Prop) (n:Nat),W 0 [] (upd H1 acc (.lst [])) ∧
  ∀i ys H2,W i ys H2->H2 acc=some (.lst ys)/\ys.length < sizeLine/\((i=n/\J.stop i H2/\Q (.ref acc) H2)\/(i < n/\J.go i H2/\∀x H3,J.yld i H2 x H3->∀τ:St,τ.length=k->g x (τ++σ) H3 fun τ2 H4 =>
    (∃τ':St,τ'.length=k/\τ2=τ'++σ)/\tc τ2 H4 fun b H5=>if b=true then te τ2 H5 fun v H6=>H6 acc=some (.lst ys)/\W (i+1) (ys++[v]) (upd H6 acc (.lst (ys++[v]))) else W (i+1) ys H5))
theorem comp_back (I:Inv X pins σ H s)(hfp:∀b∈fp,FpOk X pins H b){NN:List Str}{pins':List (Addr×Obj)}{τ:St}{H':Hp}{s':Shared}(J:Inv (cxComp X scope NN s.heap.objs.size s H pins fp) pins' τ H' s'): Inv X pins σ H' s' :=
  I.call' (ch:=fp) (J.os.trans rfl) J.base J.hok J.bare fun b hb=>⟨(hfp b hb).2.2.2.1,(hfp b hb).2.1,(hfp b hb).2.2.2.2.1,(hfp b hb).2.2.2.2.2⟩
end
end L2

set_option maxHeartbeats 4000000
namespace L2
open PySem PySem.Spec PyProof.Rows
section
variable {X:Cx}{scope:Scope}{xs N':List Str}{target iter elt:Expr}{ifs:List Expr}{pos:Pos}{wi:TI}{g:TG}{tc:TT}{te:TE}
theorem comp_block (hc:X.calm=true)(cok:CompOk scope X.env.scope xs N' X.N)(hi:PI X target iter wi)
    (hg:∀C s H pins fp,PG (cxComp X scope (xs++N') C s H pins fp) target g) (ht:∀C s H pins fp,PTs (cxComp X scope (xs++N') C s H pins fp) ifs tc) (he:∀C s H pins fp,PE (cxComp X scope (xs++N') C s H pins fp) elt te)
    {pins:List (Addr×Obj)} {s:Shared} {σ:St} {H:Hp} {Q:VK} {RR:Value->Addr->Result->Shared->Prop} (I:Inv X pins σ H s) (h:tComp xs.length wi g tc te σ H Q)
    (hRR:∀a C m H' s',Inv X pins σ H' s'->FpOk X pins H' C->s'.heap.Ns C m->Q (.ref a) H'->RR (.ref a) C (.ok .next) s') :
    wpAny (model X.prog X.w) X.A (eval iter X.env) (fun x s₁=>wpAny (model X.prog X.w) X.A (pyIter x) (fun it s₂=>wpAny (model X.prog X.w) X.A (newList []) (fun acc s₃ =>
      wpAny (model X.prog X.w) X.A (newFunctionEnv scope X.env.globals (closL X.env.cells scope.names []) [] X.env.qual none .none (some X.env)) (fun cenv s₄ =>
        codeAny (model X.prog X.w) X.A (.compStart (.ListComp elt [⟨target,iter,ifs,0⟩] scope pos) 0 it acc { cenv with scope:=relabel scope X.env }) (RR acc cenv.locals) s₄) X.xe s₃) X.xe s₂) X.xe s₁) X.xe s:=by
  refine thn (hi pins s σ H _ I h) fun v s1 h1=>thn h1 fun itv s2 h2=>?_
  obtain⟨it,fp,tn,J,H2,e,I2,T,st2,f2,h3⟩:=h2
  subst e
  have ob2:∀b∈fp,∃o,s2.heap.get? b=some o:=fun b hb=>let ⟨o,q,_⟩:=T.obj _ _ st2 b hb;⟨o,q⟩
  have fresh2:H2 s2.heap.objs.size=none:=I2.fresh
  have I3:=I2.lnew (its:=[]) (ys:=[]) (t':=s2.toks) .nil (Nat.zero_le _)
  refine wpAny_newObj_type (T := "list") ?_
  obtain⟨W,n,w0,turn⟩:=h3 s2.heap.objs.size fresh2
  generalize hs3:({ s2 with heap:=s2.heap.push { cls:=.type "list",data:=.seq ([]:List Value).toArray },toks:=s2.toks }:Shared)=s3 at I3
  have sub3:∀b o,s2.heap.get? b=some o->s3.heap.get? b=some o:=fun b o q=>by rw[<-hs3];exact Heap.get?_push_of_some _ q
  have f3:∀b∈fp,FpOk X pins (upd H2 s2.heap.objs.size (.lst [])) b:=fun b hb=>by
    obtain⟨o,q⟩:=ob2 b hb
    obtain⟨q0,q1⟩:=f2 b hb
    exact⟨by rw[upd_ne (Nat.ne_of_lt (Heap.lt_size q))];exact q0,q1⟩
  have ob3:∀b∈fp,∃o,s3.heap.get? b=some o:=fun b hb=>let ⟨o,q⟩:=ob2 b hb;⟨o,sub3 b o q⟩
  have st3:tn 0 s3.heap:=T.keep _ _ _ st2 fun b _ o q=>sub3 b o q
  refine wpAny_newFunctionEnv (fun y hy z=>?_) (fun y hy=>nomatch hy) (fun h4 hns hsb=>?_) cok.kind
  · have:=List.all_eq_true.mp cok.nocell y hy
    rw[z] at this
    simp at this
  have keep4:∀b o,s3.heap.get? b=some o->h4.get? b=some o:=fun b o q=>(hsb.2 b (Nat.ne_of_lt (Heap.lt_size q))).trans (Heap.get?_push_of_some _ q)
  have J4:=comp_start (tk:=s3.toks+([]:List (Str×Value)).length) I3 cok f3 ob3 hns keep4
  have st4:tn 0 h4:=T.keep _ _ _ st3 fun b _ o q=>keep4 b o q
  generalize hY:cxComp X scope (xs++N') s3.heap.objs.size s3 (upd H2 s2.heap.objs.size (.lst [])) pins fp=Y at J4
  have hP:Y.prog=X.prog:=by rw[<-hY];rfl
  have hw:Y.w=X.w:=by rw[<-hY];rfl
  have hK:Y.K=X.K:=by rw[<-hY];rfl
  have hcY:Y.calm=true:=by rw[<-hY];exact hc
  have stat:∀{H':Hp},(∀b∈fp,H' b=none)->∀b∈fp,FpOk Y [] H' b:=fun {H'} hn b hb=>by
    obtain⟨o,q⟩:=ob3 b hb
    rw[<-hY]
    refine⟨hn b hb,Nat.ne_of_lt (Heap.lt_size q),fun z=>?_,.inl hb,fun y c hy=>?_,fun p hp=>?_⟩
    · rcases List.mem_cons.mp (I3.stkSub b z) with w | w
      · exact(f3 b hb).2.1 w
      · exact(f3 b hb).2.2.1 w
    · have hx:=J4.ok.exf b (by rw[<-hY];exact hb)
      rw[<-hY] at hx
      exact hx.2 y c hy
    · have hp':p∈X.pn++pins:=by simpa [cxComp] using hp
      exact(f3 b hb).2.2.2.2.2 p hp'
  have loop:∀s5:Shared,Inv Y [] (List.replicate xs.length none++σ) (upd H2 s2.heap.objs.size (.lst [])) s5->tn 0 s5.heap ->
      codeAny (model X.prog X.w) X.A (.compLoop (.ListComp elt [⟨target,iter,ifs,0⟩] scope pos) 0 (.ref it) (.ref s2.heap.objs.size) Y.env) (RR (.ref s2.heap.objs.size) s3.heap.objs.size) s5:=by
    intro s5 J5 st5
    refine comp_loop (fun k s'=>∃(i:Nat) (ys:List V) (H':Hp) (τ:St),k+i=n/\τ.length=xs.length/\Inv Y [] (τ++σ) H' s'/\tn i s'.heap/\(∀b∈fp,H' b=none)/\W i ys H') ?_ n
      ⟨0,[],_,List.replicate xs.length none,rfl,List.length_replicate ..,J5,st5,fun b hb=>(f3 b hb).1,w0⟩
    rintro k s6 ⟨i,ys,H6,τ,hk,hτ,J6,st6,fr6,w6⟩
    obtain⟨hacc,hlen,hcase⟩:=turn i ys H6 w6
    rcases hcase with ⟨hin,stop,hq⟩ | ⟨hin,go,step⟩
    · refine thn (A:=X.A) (by have:=T.done Y hP hw hK hcY i [] s6 (τ++σ) H6 (fun _ _=>False) J6 (stat fr6) st6 stop;rw[<-hY] at this;exact this) fun r s7 q7=>?_
      obtain⟨hr,J7⟩:=q7
      subst hr
      rw[hY] at J7
      obtain⟨m7,hn7,_⟩:=J7.loc
      have e1:Y.env.locals=s3.heap.objs.size:=by rw[<-hY];rfl
      rw[e1] at hn7
      have J7':Inv X pins σ H6 s7:=comp_back I3 f3 (by rw[hY];exact J7)
      refine hRR _ _ m7 H6 s7 J7' ?_ hn7 hq
      have e2:=J7.free
      rw[e1] at e2
      exact I3.fpOk (Nat.le_refl _) e2
    · refine thn (A:=X.A) (by have:=T.item Y hP hw hK hcY i [] s6 (τ++σ) H6 (fun _ _=>False) J6 (stat fr6) st6 go;rw[<-hY] at this;exact this) fun r s7 q7=>?_
      obtain⟨u,hr,q7⟩:=q7
      subst hr
      have hA:Y.A=X.A:=by rw[<-hY];rfl
      rw[hY] at q7
      rw[hA] at q7
      refine thn q7 fun _ s8 q8=>?_
      obtain⟨x8,H8,J8,r8,y8,st8,fr8⟩:=q8
      have J8':=J8.pinned (stat fr8) (T.obj _ _ st8)
      have g8:=hg s3.heap.objs.size s3 (upd H2 s2.heap.objs.size (.lst [])) pins fp
      have t8:=ht s3.heap.objs.size s3 (upd H2 s2.heap.objs.size (.lst [])) pins fp
      have e8:=he s3.heap.objs.size s3 (upd H2 s2.heap.objs.size (.lst [])) pins fp
      have a8:∀{Z:Cx},Z=Y->MtM Z "list.append" rAppend:=fun {Z} _=>mt_append
      have hxe:Y.xe=fun _ _=>False:=by rw[<-hY];rfl
      rw[hY] at g8 t8 e8
      have back:∀{τ2:St} {H9:Hp} {s9:Shared},Inv Y ([]++pinsAt fp s8.heap) τ2 H9 s9->Inv Y [] τ2 H9 s9/\tn (i+1) s9.heap/\∀b∈fp,H9 b=none:=fun {τ2 H9 s9} J9=>by
        refine⟨J9.unpinned,T.keep _ _ _ st8 fun b hb o q=>(J9.pin (b,o) (List.mem_append_right _ (List.mem_append_right _ (mem_pinsAt hb q)))).1,fun b hb=>?_⟩
        obtain⟨o,q,d⟩:=T.obj _ _ st8 b hb
        exact(J9.pin (b,o) (List.mem_append_right _ (List.mem_append_right _ (mem_pinsAt hb q)))).2.1
      have z1:=g8 _ s8 (τ++σ) H8 x8 u _ J8' r8 (step x8 H8 y8 τ hτ)
      rw[hP,hw,hA,hxe] at z1
      refine thn z1 fun _ s9 q9=>?_
      obtain⟨τ9,H9,J9,⟨τ',hτ',e9⟩,q9⟩:=q9
      subst e9
      have z2:=t8 _ s9 (τ'++σ) H9 _ J9 q9
      rw[hP,hw,hA,hxe] at z2
      refine thn z2 fun b s10 q10=>?_
      obtain⟨H10,J10,q10⟩:=q10
      cases b with
      | false =>
        rw[if_neg Bool.false_ne_true] at q10 ⊢
        obtain⟨b1,b2,b3⟩:=back J10
        exact⟨k-1,by omega,i+1,ys,H10,τ',by omega,hτ',b1,b2,b3,q10⟩
      | true =>
        rw[if_pos rfl] at q10 ⊢
        have z3:=e8 _ s10 (τ'++σ) H10 _ J10 q10
        rw[hP,hw,hA,hxe] at z3
        refine thn z3 fun y s11 q11=>?_
        obtain⟨v11,H11,J11,r11,hacc11,w11⟩:=q11
        have z4:=a8 rfl _ s11 (τ'++σ) H11 (.ref s2.heap.objs.size) [v11] (.ref s2.heap.objs.size) [y] (fun _ H'=>W (i+1) (ys++[v11]) H') J11 rfl (.cons r11 .nil) ⟨_,ys,v11,rfl,rfl,hacc11,hlen,w11⟩
        rw[hP,hw,hA,hxe] at z4
        refine thn z4 fun _ s12 q12=>?_
        obtain⟨_,H12,J12,_,w12⟩:=q12
        obtain⟨b1,b2,b3⟩:=back J12
        exact⟨k-1,by omega,i+1,ys++[v11],H12,τ',by omega,hτ',b1,b2,b3,w12⟩
  have env4:({ newEnv scope s3.heap.objs.size X.env.globals (closL X.env.cells scope.names []) X.env.qual none .none (some X.env) X.env.builtins with scope:=relabel scope X.env }:Env)=Y.env:=by rw[<-hY];rfl
  have l4:=loop _ J4 st4
  rw[<-env4] at l4
  exact codeAny_compStart_list l4 (T.self _ 0 _ _ _ st4 l4)
theorem clos_of {pins:List (Addr×Obj)}{s:Shared}{σ:St}{H:Hp}(I:Inv X pins σ H s)(cok:CompOk scope X.env.scope xs N' X.N): closureFor scope X.env=pure (closL X.env.cells scope.names []):=by
  refine clos_eq fun p hp hk=>?_
  have:X.env.scope.names.lookup p.1=some .cell\/X.env.scope.names.lookup p.1=some .free:=by
    have:=List.all_eq_true.mp cok.frees p hp
    simp[hk] at this
    exact this
  exact I.ok.has p.1 this
theorem pe_comp (hc:X.calm=true)(cok:CompOk scope X.env.scope xs N' X.N)(hi:PI X target iter wi)
    (hg:∀C s H pins fp,PG (cxComp X scope (xs++N') C s H pins fp) target g) (ht:∀C s H pins fp,PTs (cxComp X scope (xs++N') C s H pins fp) ifs tc) (he:∀C s H pins fp,PE (cxComp X scope (xs++N') C s H pins fp) elt te)
    (hs:∀x,foldedSetIterable iter X.env x=pure x:=by intro _;rfl):PE X (.ListComp elt [⟨target,iter,ifs,0⟩] scope pos) (tComp xs.length wi g tc te):=by
  intro pins s σ H Q I h
  rw[eval_ListComp]
  refine wpAny_comprehension_free (use:=none) rfl hs (clos_of I cok) cok.kind cok.own (comp_block hc cok hi hg ht he I h fun a C m H' s' J fC hn q=>⟨m,hn,fun h' hs'=>?_⟩)
  obtain⟨f0,f1,f2,f3,f4,f5⟩:=fC
  exact⟨.ref a,H',J.turned (t':=s'.toks) (fun b o hb e=>(hs'.2 b hb).trans e) f0 f1 f3 f4 f5,rfl,q⟩
end
end L2

set_option maxHeartbeats 4000000
namespace L2
open PySem PySem.Spec PyProof.Rows
def RawF (K:PySem.W.Frag)(mg:Str->Option Value)(x:Str)(st:Stmt)(ps:List Str)(dvs:List V): Prop :=
  ∃(f:Addr) (oc:Value) (od:Option Addr) (dV kV doc pm:Value) (an:Option Addr) (cdv ct:Value) (osl:Array (Option Value)) (ds:List Value),
    K.lookup f=some ⟨oc,od,.func (PySem.W.fnOf x x (defArgs st) (defBody st) (defScope st) dV kV doc pm an cdv ct),osl⟩/\PySem.W.codeIn K cdv x=true/\PySem.W.keepIn K (.ref f)=true ∧
    mg x=some (.ref f)/\Binds K (PySem.W.fnOf x x (defArgs st) (defBody st) (defScope st) dV kV doc pm an cdv ct) ps ds/\Vals dvs ds
def RawM (K:PySem.W.Frag)(C:Addr)(m qual:Str)(st:Stmt)(ps:List Str)(dvs:List V): Prop :=
  ∃(f:Addr) (oc:Value) (od:Option Addr) (dV kV doc pm:Value) (an:Option Addr) (cdv ct:Value) (osl:Array (Option Value)) (ds:List Value),
    K.lookup f=some ⟨oc,od,.func (PySem.W.fnOf m qual (defArgs st) (defBody st) (defScope st) dV kV doc pm an cdv ct),osl⟩/\PySem.W.codeIn K cdv qual=true/\Meth K C m f ∧
    Binds K (PySem.W.fnOf m qual (defArgs st) (defBody st) (defScope st) dV kV doc pm an cdv ct) ps ds/\Vals dvs ds
def RawI (K:PySem.W.Frag)(C:Addr)(qual:Str)(st:Stmt)(ps:List Str)(dvs:List V): Prop :=
  ∃(f:Addr) (oc:Value) (od:Option Addr) (dV kV doc pm:Value) (an:Option Addr) (cdv ct:Value) (osl:Array (Option Value)) (ds:List Value),
    K.lookup f=some ⟨oc,od,.func (PySem.W.fnOf "__init__" qual (defArgs st) (defBody st) (defScope st) dV kV doc pm an cdv ct),osl⟩/\PySem.W.codeIn K cdv qual=true/\Mk K C f ∧
    Binds K (PySem.W.fnOf "__init__" qual (defArgs st) (defBody st) (defScope st) dV kV doc pm an cdv ct) ps ds/\Vals dvs ds
def HasFn (P:Program)(w:World)(K:PySem.W.Frag)(mg:Str->Option Value)(base:Heap)(k:Nat)(x:Str)(ps:List Str)(sp:Sp)(dvs:List V): Prop :=
  ∃f fd ds,FnOk P w K mg base (CXE P w) k f fd ps sp/\mg x=some (.ref f)/\PySem.W.keepIn K (.ref f)=true/\Binds K fd ps ds/\Vals dvs ds
def HasMe (P:Program)(w:World)(K:PySem.W.Frag)(mg:Str->Option Value)(base:Heap)(C:Addr)(k:Nat)(m:Str)(ps:List Str)(sp:Sp)(dvs:List V): Prop :=
  ∃f fd ds,FnOk P w K mg base (CXE P w) k f fd ps sp/\Meth K C m f/\Binds K fd ps ds/\Vals dvs ds
def HasMk (P:Program)(w:World)(K:PySem.W.Frag)(mg:Str->Option Value)(base:Heap)(C:Addr)(k:Nat)(ps:List Str)(sp:Sp)(dvs:List V): Prop :=
  ∃f fd ds,FnOk P w K mg base (CXE P w) k f fd ps sp/\Mk K C f/\Binds K fd ps ds/\Vals dvs ds
section
variable {P:Program}{w:World}{K:PySem.W.Frag}{mg:Str->Option Value}{base:Heap}{C:Addr}{x m qual:Str}{st:Stmt}{N ps:List Str}{dvs:List V}{k:Nat}{sp:Sp}
theorem RawF.ok (R:RawF K mg x st ps dvs)(S:FnScope N ps (defScope st))(len:∀vs H Q E,sp vs H Q E->vs.length=ps.length)
    (hbody:∀(f:Addr) (cdv:Value) (A:Around) (outer:List Env) (s:Shared) (H:Hp) (vs:List V) (Q:VK) (E:XK),Room k (A.deeper (envOfC x (defScope st) s.heap.objs.size f cdv))->sp vs H Q E ->
      ∃t,PSs (cxOf (CXE P w) P w K mg base N x (defScope st) f cdv A outer s H E) (defBody st) t/\t { nx:=fun _ H'=>Q .non H',rt:=Q } (start N vs) H):HasFn P w K mg base (k+1) x ps sp dvs:=by
  obtain⟨f,oc,od,dV,kV,doc,pm,an,cdv,ct,osl,ds,lk,hcd,kp,hm,hb,hd⟩:=R
  exact⟨f,_,ds,fn_of lk hcd S len fun A outer s H vs Q E hr hsp=>hbody f cdv A outer s H vs Q E hr hsp,hm,kp,hb,hd⟩
theorem RawM.ok (R:RawM K C m qual st ps dvs)(S:FnScope N ps (defScope st))(len:∀vs H Q E,sp vs H Q E->vs.length=ps.length)
    (hbody:∀(f:Addr) (cdv:Value) (A:Around) (outer:List Env) (s:Shared) (H:Hp) (vs:List V) (Q:VK) (E:XK),Room k (A.deeper (envOfC qual (defScope st) s.heap.objs.size f cdv))->sp vs H Q E ->
      ∃t,PSs (cxOf (CXE P w) P w K mg base N qual (defScope st) f cdv A outer s H E) (defBody st) t/\t { nx:=fun _ H'=>Q .non H',rt:=Q } (start N vs) H):HasMe P w K mg base C (k+1) m ps sp dvs:=by
  obtain⟨f,oc,od,dV,kV,doc,pm,an,cdv,ct,osl,ds,lk,hcd,hm,hb,hd⟩:=R
  exact⟨f,_,ds,fn_of lk hcd S len fun A outer s H vs Q E hr hsp=>hbody f cdv A outer s H vs Q E hr hsp,hm,hb,hd⟩
theorem RawI.ok (R:RawI K C qual st ps dvs)(S:FnScope N ps (defScope st))(len:∀vs H Q E,sp vs H Q E->vs.length=ps.length)
    (hbody:∀(f:Addr) (cdv:Value) (A:Around) (outer:List Env) (s:Shared) (H:Hp) (vs:List V) (Q:VK) (E:XK),Room k (A.deeper (envOfC qual (defScope st) s.heap.objs.size f cdv))->sp vs H Q E ->
      ∃t,PSs (cxOf (CXE P w) P w K mg base N qual (defScope st) f cdv A outer s H E) (defBody st) t/\t { nx:=fun _ H'=>Q .non H',rt:=Q } (start N vs) H):HasMk P w K mg base C (k+1) ps sp dvs:=by
  obtain⟨f,oc,od,dV,kV,doc,pm,an,cdv,ct,osl,ds,lk,hcd,hm,hb,hd⟩:=R
  exact⟨f,_,ds,fn_of lk hcd S len fun A outer s H vs Q E hr hsp=>hbody f cdv A outer s H vs Q E hr hsp,hm,hb,hd⟩
end
section
variable {X:Cx}{C:Addr}{k:Nat}{ps:List Str}{sp:Sp}{dvs:List V}{E:St->XK}{x m:Str}{p pos apos:Pos}{e o:Expr}{es:List Expr}{ta:TE}{t:TA}
theorem pe_fn (h:HasFn X.prog X.w X.K X.mg X.base k x ps sp dvs)(hr:Room k X.A)(hg:Gl X x)(hx:PassesX (CXE X.prog X.w) X E)
    (ha:PA X (e::es) t) (hdb:(x==("__debug__" : Str))=false:=by decide) (he:starEach (e::es) X.env=(false,eval e X.env)::starEach es X.env:=by rfl) (hpl:(backTo pos (starEach es X.env)).any (·.1)=false:=by rfl) :
    PE X (.Call (.Name x p) (e::es) [] pos) (tCallX sp dvs E t):=by
  obtain⟨f,fd,ds,F,hm,hk,hb,hd⟩:=h
  exact pe_callX F hr hg hm hk hb hd hx ha hdb he hpl
theorem pe_me {pl:Sem Bool}(he:PE X o ta)(c:Cls X.K C)(h:HasMe X.prog X.w X.K X.mg X.base C k m ps sp dvs)(hr:Room k X.A)(hx:PassesX (CXE X.prog X.w) X E)(ha:PA X (e::es) t)
    (hst:starEach (e::es) X.env=(false,eval e X.env)::starEach es X.env:=by rfl) (hpl:(backTo pos (starEach es X.env)).any (·.1)=false:=by rfl)
    (ht:eval (.Call (.Attribute o m apos) (e::es) [] pos) X.env=(do
      let ov <-eval o X.env
      standAt apos.atName
      let (f,first) <-holding [ov] (getMethod ov m pl)
      callWith pos f first (backTo pos (starEach (e::es) X.env)) (backToKw pos (keywordEach [] X.env))):=by rfl) :
    PE X (.Call (.Attribute o m apos) (e::es) [] pos) (tMethX C m sp dvs E ta t):=by
  obtain⟨f,fd,ds,F,hm,hb,hd⟩:=h
  exact pe_methX he c hm F hr hb hd hx ha hst hpl ht
theorem pe_me0 {pl:Sem Bool}(he:PE X o ta)(c:Cls X.K C)(h:HasMe X.prog X.w X.K X.mg X.base C k m ps sp dvs)(hr:Room k X.A)(hx:PassesX (CXE X.prog X.w) X E)
    (ht:eval (.Call (.Attribute o m apos) [] [] pos) X.env=(do
      let ov <-eval o X.env
      standAt apos.atName
      let (f,first) <-holding [ov] (getMethod ov m pl)
      callWith pos f first (backTo pos (starEach [] X.env)) (backToKw pos (keywordEach [] X.env))):=by rfl) :
    PE X (.Call (.Attribute o m apos) [] [] pos) (tMethX C m sp dvs E ta tNil):=by
  obtain⟨f,fd,ds,F,hm,hb,hd⟩:=h
  exact pe_methX0 he c hm F hr hb hd hx ht
theorem pe_mk (h:HasMk X.prog X.w X.K X.mg X.base C k ps sp dvs)(hr:Room (k+1) X.A)(hg:Gl X x)(hm:X.mg x=some (.ref C))(hx:PassesX (CXE X.prog X.w) X E)
    (ha:PA X (e::es) t) (hdb:(x==("__debug__" : Str))=false:=by decide) (he:starEach (e::es) X.env=(false,eval e X.env)::starEach es X.env:=by rfl) (hpl:(backTo pos (starEach es X.env)).any (·.1)=false:=by rfl) :
    PE X (.Call (.Name x p) (e::es) [] pos) (tMakeX C sp dvs E t):=by
  obtain⟨f,fd,ds,F,M,hb,hd⟩:=h
  exact pe_makeX M F hr hg hm hb hd hx ha hdb he hpl
theorem pass_none {P:Program}{w:World}: PassesX (CXE P w) X (fun _=>E0):=fun _ _ _ _ _ _ _ hx=>by
  obtain⟨_,_,_,_,_,_,_,_,_,_,q⟩:=hx
  exact q.elim
theorem pe_globI {n:Int} (hg:Gl X x) (hm:∃t,X.mg x=some (.int n t)) (hd:(x==("__debug__" : Str))=false:=by decide):PE X (.Name x pos) (tC (.int n)):=by
  obtain⟨t,hm⟩:=hm
  exact pe_glob hg hm ⟨t,rfl⟩ hd
end
section
variable {X:Cx}{K:PySem.W.Frag}
theorem ix_listK (h:X.K=K): IxR X (rIxL K):=by subst h;exact ix_list
theorem op_eqDK (h:X.K=K)(hu:X.A.units+64 < cLine): OpR X (compareOp .Eq) (rEqD K):=by subst h;exact op_eqD hu
theorem pe_fldK {e:Expr}{ta:TE}{f:Str}{pos:Pos}(h:X.K=K)(he:PE X e ta)(hb:attributeBase e f X.env (eval e X.env)=eval e X.env): PE X (.Attribute e f pos) (tFld K ta f):=by subst h;exact pe_fld he hb
end
theorem iteN {c A B:Prop}[Decidable c](h1:¬c->A)(h2:c->B): if (!decide c)=true then A else B:=by
  by_cases h:c
  · rw[decide_eq_true h];exact iteF (h2 h)
  · rw[decide_eq_false h];exact iteT (h1 h)
theorem iteD {c A B:Prop}[Decidable c](h1:c->A)(h2:¬c->B): if decide c=true then A else B:=by
  by_cases h:c
  · rw[decide_eq_true h];exact iteT (h1 h)
  · rw[decide_eq_false h];exact iteF (h2 h)
theorem iteI {i j:Int}{A B:Prop}(h1:i=j->A)(h2:¬i=j->B): if decide (V.int i=V.int j)=true then A else B :=
  iteD (fun z=>h1 (by injection z)) fun z=>h2 fun q=>z (by rw[q])
theorem one_line:1<=sizeLine:=by rw[sizeLine_eq];decide
theorem small_line {n:Nat}(h:n<=1000): n<=sizeLine:=by rw[sizeLine_eq];omega
theorem same_upd {H:Hp}{q:Addr}{u:HO}(h:H q=none): Same H (upd H q u):=fun b o z=>by rw[upd_ne (ne_of_none z h)];exact z
theorem kit_self (K:PySem.W.Frag)(v:Value): PySem.W.kitOne K v v=some true:=by
  unfold PySem.W.kitOne
  rw[if_pos (by simp)]
theorem kit_ib (K:PySem.W.Frag): PySem.W.kitOne K (.type "int") (.type "bool")=some false:=by
  unfold PySem.W.kitOne PySem.W.kitCls
  rw[if_neg (by decide)]
  have h1:PySem.W.kitMeta "bool" = true:=by decide +kernel
  simp only [h1,if_true]
  show Option.map (fun x=>x.contains (Value.type "bool")) (fastBuiltinMro "int")=some false
  decide +kernel
theorem filter_tt {α:Type}(l:List α): l.filter (fun _=>true)=l:=List.filter_eq_self.mpr fun _ _=>rfl
theorem atI_getD {ns:List Int}{n:Int}(h0:0<=n)(h1:n < ns.length): atI (ns.map V.int) n=some (.int (ns.getD n.toNat 0)):=by
  have e:n=((n.toNat:Nat):Int):=by omega
  have hl:n.toNat < ns.length:=by omega
  rw[e]
  refine atI_nat ?_
  rw[List.getElem?_map,List.getElem?_eq_getElem hl,Int.toNat_natCast,List.getD_eq_getElem?_getD,List.getElem?_eq_getElem hl]
  rfl
theorem getD_out {ns:List Int}{k:Nat}(h:ns.length<=k): ns.getD k 0=0:=by
  rw[List.getD_eq_getElem?_getD,List.getElem?_eq_none h]
  rfl
theorem inV_ints (k:Int): ∀ns:List Int,inV (.int k) (ns.map V.int)=decide (k∈ns)
  | []=>rfl
  | n::r=>by
    have ih:=inV_ints k r
    unfold inV at *
    rw[List.map_cons,List.any_cons,ih]
    show ((n==k) || decide (k∈r))=_
    rw[Bool.eq_iff_iff]
    simp only [Bool.or_eq_true,beq_iff_eq,decide_eq_true_eq,List.mem_cons]
    constructor
    · rintro(h | h)
      · exact .inl h.symm
      · exact .inr h
    · rintro(h | h)
      · exact .inl h.symm
      · exact .inr h
theorem mem_ints {ms:List Int}{i:Nat}{y:V}(h:(ms.map V.int)[i]?=some y): ∃c:Int,y=.int c/\ms[i]?=some c:=by
  rw[List.getElem?_map] at h
  cases e:ms[i]? with
  | none=>rw[e] at h;cases h
  | some c=>rw[e] at h;exact⟨c,(Option.some.inj h).symm,rfl⟩
end L2

set_option maxHeartbeats 4000000
namespace L2
open PySem PySem.Spec PyProof.Rows
section
variable {tc:TT}{te:TE}{σ:St}{H1:Hp}{acc:Addr}{QH:Hp->Prop}
theorem comp_list {K:PySem.W.Frag}{l:Addr}{xs:List V}{k:Nat}(hacc:H1 acc=none)(f:V->V)(p:V->Bool)(hl:SqL K H1 l xs)(hn:xs.length < sizeLine)
    (hc:∀(i:Nat) (x:V) (ys:List V),xs[i]?=some x->∀R:Bool->Hp->Prop,R (p x) (upd H1 acc (.lst ys))->tc (some x::σ) (upd H1 acc (.lst ys)) R)
    (he:∀(i:Nat) (x:V) (ys:List V),xs[i]?=some x->p x=true->∀R:VK,R (f x) (upd H1 acc (.lst ys))->te (some x::σ) (upd H1 acc (.lst ys)) R)
    (q:QH (upd H1 acc (.lst ((xs.filter p).map f)))) (hk:k=1:=by rfl):∃(W:Nat->List V->Hp->Prop) (n':Nat),W 0 [] (upd H1 acc (.lst [])) ∧
  ∀i ys H2,W i ys H2->H2 acc=some (.lst ys)/\ys.length < sizeLine/\((i=n'/\(Itl K l).stop i H2/\QH H2)\/(i < n'/\(Itl K l).go i H2/\∀x H3,(Itl K l).yld i H2 x H3->∀τ:St,τ.length=k->(gName 0) x (τ++σ) H3 fun τ2 H4 =>
    (∃τ':St,τ'.length=k/\τ2=τ'++σ)/\tc τ2 H4 fun b H5=>if b=true then te τ2 H5 fun v H6=>H6 acc=some (.lst ys)/\W (i+1) (ys++[v]) (upd H6 acc (.lst (ys++[v]))) else W (i+1) ys H5)):=by
  subst hk
  refine⟨fun i ys H2=>i<=xs.length/\ys=((xs.take i).filter p).map f/\H2=upd H1 acc (.lst ys),xs.length,⟨Nat.zero_le _,rfl,rfl⟩,?_⟩
  rintro i ys H2 ⟨hi,hys,rfl⟩
  have hl2:ys.length < sizeLine:=by
    rw[hys,List.length_map]
    have:=List.length_filter_le p (xs.take i)
    rw[List.length_take] at this
    omega
  have sq:SqL K (upd H1 acc (.lst ys)) l xs:=(same_upd hacc).seq hl
  refine⟨upd_same,hl2,?_⟩
  by_cases hlt:i < xs.length
  · refine .inr ⟨hlt,⟨xs,xs[i],sq,by simp[hlt]⟩,?_⟩
    rintro x H3 ⟨rfl,hx⟩ τ hτ
    have hx:=hx xs sq
    obtain⟨t,rfl⟩:∃t,τ=[t]:=by
      match τ,hτ with
      | [t],_=>exact⟨t,rfl⟩
    refine⟨⟨[some x],rfl,rfl⟩,?_⟩
    show tc (some x::σ) _ _
    refine hc i x ys hx _ ?_
    have rs:xs.take (i+1)=xs.take i++[x]:=by
      rw[List.take_add_one,hx]
      rfl
    cases hp:p x with
    | true =>
      refine iteT (he i x ys hx hp _ ⟨upd_same,hlt,?_,upd_upd⟩)
      rw[rs,List.filter_append,List.map_append,hys]
      simp[List.filter,hp]
    | false =>
      refine iteF ⟨hlt,?_,rfl⟩
      rw[rs,List.filter_append,List.map_append,hys]
      simp[List.filter,hp]
  · have e:i=xs.length:=by omega
    subst e
    refine .inl ⟨rfl,⟨xs,sq,Nat.le_refl _⟩,?_⟩
    have:=q
    rw[List.take_length] at hys
    rw[<-hys] at this
    exact this
end
section
variable {X:Cx}{pins:List (Addr×Obj)}{σ:St}{H:Hp}{s:Shared}
theorem bools_of_vals:∀{bs:List Bool} {us:List Value},Vals (bs.map V.bl) us->LSm.BoolsAre us bs
  | [],_,r=>by cases r;exact .nil
  | b::bs,_,r=>by
    rw[List.map_cons] at r
    cases r with
    | cons r1 r2 =>
      cases r1
      exact .cons b (bools_of_vals r2)
theorem call_allL (hc:X.calm=true): CallR X (.builtin "all") (fun xs H Q=>∃(p:Addr) (bs:List Bool),xs=[.ref p]/\SqL X.K H p (bs.map V.bl)/\Q (.bl (bs.all id)) H):=by
  intro pins s σ H xs us Q I r h
  obtain⟨p,bs,rfl,hq,q⟩:=h
  obtain⟨u,rfl,ru⟩:=vals1 r
  cases ru
  obtain⟨its,rv,pp,hz⟩:=I.list hq
  have hl:=pp.isList
  have hb:=bools_of_vals rv
  have hlt:p < s.heap.objs.size:=by obtain⟨_,e,_⟩:=hl;exact Heap.lt_size e
  refine call_all_walk (wpAny_pyIter_list hl ?_)
  refine⟨s.heap.objs.size,[s.heap.objs.size,p],[s.heap.objs.size],its.toArray.size,_,_,fun i=>(bs[i]?).getD true,rfl,Walks.list (A:=X.A.in1) (I.ok.hd hc) _ p (Nat.ne_of_lt hlt) its.toArray,
    ⟨⟨_,Heap.get?_push_size _ rfl,rfl,rfl⟩,hl.push _⟩,fun i v s' Q' E' hP hQ=>?_,fun h' tk hk=>?_⟩
  · obtain⟨b,e,rfl⟩:=hb.get i v (by simpa using hP)
    simp only [e,Option.getD_some] at hQ
    exact wpAny_truthy_bool hQ
  · have e:((List.range its.toArray.size).all fun i=>(bs[i]?).getD true)=bs.all id:=by
      rw[List.size_toArray,hb.length];exact LSm.range_all bs
    rw[e]
    exact⟨.bl _,H,I.kept (LSm.kept_iter hk),rfl,q⟩
end
end L2

set_option maxHeartbeats 4000000
namespace L2
open PySem PySem.Spec PyProof.Rows PyProof.V PySem.SeqAt
mutual
theorem noMix_self:∀d:PyData,d.canLay0=true->noMix d d=true
  | .none,_=>by simp[noMix]
  | .bool _,_=>by simp[noMix]
  | .int _,_=>by simp[noMix]
  | .str _,_=>by simp[noMix]
  | .list xs,h=>by
    rw[noMix]
    exact noMixAll_self xs (by simpa [PyData.canLay0] using h)
  | .tuple xs,h=>by
    rw[noMix]
    exact noMixAll_self xs (by simpa [PyData.canLay0] using h)
  | .dict _,h=>by simp[PyData.canLay0] at h
theorem noMixAll_self:∀ds:List PyData,PyData.canLayAll0 ds=true->noMixAll ds ds=true
  | [],_=>by simp[noMixAll]
  | d::ds,h=>by
    simp only [PyData.canLayAll0,Bool.and_eq_true] at h
    rw[noMixAll,noMix_self d h.1,noMixAll_self ds h.2]
    rfl
end
def Tid (n:Nat)(d:PyData): Prop:=d.canLay0=true/\d.depth<=n
theorem Tid.shaped {n:Nat}{d:PyData}(h:Tid n d)(hn:n<=64): shaped d=true:=by
  show (d.canLay0&&decide (d.depth<=64))=true
  rw[h.1,decide_eq_true (Nat.le_trans h.2 hn)]
  rfl
theorem Tid.int (i:Int): Tid 1 (.int i):=⟨by simp[PyData.canLay0],by simp[PyData.depth]⟩
theorem Tid.str {x:Str}(h:PyData.canLay0 (.str x)=true): Tid 1 (.str x):=⟨h,by simp[PyData.depth]⟩
theorem Tid.all {n:Nat}: ∀{ds:List PyData},(∀d∈ds,Tid n d)->PyData.canLayAll0 ds=true/\PyData.depthAll ds<=n
  | [],_=>⟨by simp[PyData.canLayAll0],by simp[PyData.depthAll]⟩
  | d::ds,h=>by
    have h1:=h d List.mem_cons_self
    have h2:=Tid.all (ds:=ds) fun x hx=>h x (List.mem_cons_of_mem _ hx)
    refine⟨by simp[PyData.canLayAll0,h1.1,h2.1],?_⟩
    have:=h1.2
    have:=h2.2
    simp only [PyData.depthAll]
    omega
theorem Tid.list {n:Nat}{ds:List PyData}(h:∀d∈ds,Tid n d): Tid (n+1) (.list ds):=by
  have q:=Tid.all h
  refine⟨by simpa [PyData.canLay0] using q.1,?_⟩
  have:=q.2
  simp only [PyData.depth]
  omega
theorem Tid.tuple {n:Nat}{ds:List PyData}(h:∀d∈ds,Tid n d): Tid (n+1) (.tuple ds):=by
  have q:=Tid.all h
  refine⟨by simpa [PyData.canLay0] using q.1,?_⟩
  have:=q.2
  simp only [PyData.depth]
  omega
section
variable {K:PySem.W.Frag}{H:Hp}{x y:V}{d:PyData}{Q:VK}{n:Nat}
theorem rEqD_self (h1:DatV K H x d)(h2:DatV K H y d)(t:Tid n d)(q:Q (.bl true) H)(hn:n<=64:=by decide): rEqD K x y H Q :=
  ⟨d,d,h1,h2,t.shaped hn,t.shaped hn,noMix_self d t.1,by rw[PySem.Spec.same_self];exact q⟩
end
end L2

namespace L2
open PySem PySem.Spec PyProof.Rows
section
variable {X:Cx}
end
def notStar:Expr->Bool
  | .Starred _ _=>false
  | _=>true
theorem star_cons {e:Expr}{es:List Expr}{env:Env}(h:notStar e=true): starEach (e::es) env=(false,eval e env)::starEach es env:=by
  cases e<;>first | rfl | cases h
theorem pa_cn {X:Cx}{e:Expr}{es:List Expr}{te:TE}{t:TA}(ha:PE X e te)(hr:PA X es t)(h:notStar e=true): PA X (e::es) (tCons te t):=pa_cons ha hr (star_cons h)
theorem exW {p:(Nat->Nat->St->Hp->Prop)->Prop}(w:Nat->Nat->St->Hp->Prop)(h:p w): ∃w,p w:=⟨w,h⟩
theorem exN {p:(St->Hp->Prop)->Prop}(w:St->Hp->Prop)(h:p w): ∃w,p w:=⟨w,h⟩
theorem exD {p:PyData->Prop}(w:PyData)(h:p w): ∃w,p w:=⟨w,h⟩
theorem exW2 {p:(Nat->St->Hp->Prop)->Prop}(w:Nat->St->Hp->Prop)(h:p w): ∃w,p w:=⟨w,h⟩
theorem up_old {H:Hp}{q b:Addr}{u o:HO}(h:H q=none)(e:H b=some o): upd H q u b=some o:=same_upd h b o e
theorem up_ne {H:Hp}{q b:Addr}{u o:HO}(h:b≠q)(e:H b=some o): upd H q u b=some o:=by rw[upd_ne h];exact e
theorem lk_next {f g:Str}{v:V}{r:List (Str×V)}{o:Option V}(h:¬g=f)(e:r.lookup g=o): ((f,v)::r).lookup g=o:=by
  have hb:(g==f)=false:=beq_eq_false_iff_ne.mpr h
  simp only [List.lookup,hb]
  exact e
theorem sm_upd {H H':Hp}{q:Addr}{u:HO}(h:H' q=none)(e:Same H H'): Same H (upd H' q u):=e.trans (same_upd h)
theorem lk_eq {f:Str}{v:V}{r:List (Str×V)}: ((f,v)::r).lookup f=some v:=by
  have hb:(f==f)=true:=beq_iff_eq.mpr rfl
  simp only [List.lookup,hb]
theorem pf_ne {f g:Str}{v x:V}{r:List (Str×V)}(h:¬g=f): putF f v ((g,x)::r)=(g,x)::putF f v r:=if_neg h
theorem pf_nil {f:Str}{v:V}: putF f v []=[(f,v)]:=rfl
theorem Room.u1 {k:Nat}{A:Around}(r:Room k A): A.units+1 < cLine:=by have:=r.un;omega
section
variable {X:Cx}
theorem op_notInD (hu:X.A.units+1 < cLine): OpR X (compareOp .NotIn) (fun x y H Q=>∃a o,y=.ref a/\DGet H a x o/\Q (.bl (!o.isSome)) H):=by
  intro pins s σ H x y v u Q I rx ry h
  obtain⟨a,o,rfl,g,q⟩:=h
  cases ry
  exact d_notIn hu I g rx fun s3 I3=>⟨.bl (!o.isSome),H,I3,rfl,q⟩
end
def Fr (fp fp':List Addr)(H H':Hp): Prop:=(∀b u,H b=some u->b∉fp->H' b=some u)/\∀b,b∈fp'->b∈fp\/H b=none
theorem Fr.refl (fp:List Addr)(H:Hp): Fr fp fp H H:=⟨fun _ _ h _=>h,fun _ h=>.inl h⟩
theorem Fr.same {fp:List Addr}{H H':Hp}(h:Same H H'): Fr fp fp H H':=⟨fun b u z _=>h b u z,fun _ h=>.inl h⟩
theorem Fr.out {fp fp':List Addr}{H H':Hp}(h:Fr fp fp' H H'){b:Addr}{u:HO}(e:H b=some u)(n:b∉fp): H' b=some u/\b∉fp' :=
  ⟨h.1 b u e n,fun z=>(h.2 b z).elim (fun q=>n q) fun q=>by rw[e] at q;cases q⟩
theorem Fr.trans {fp fp' fp'':List Addr}{H H' H'':Hp}(h:Fr fp fp' H H')(k:Fr fp' fp'' H' H''): Fr fp fp'' H H'':=by
  refine⟨fun b u e n=>?_,fun b hb=>?_⟩
  · obtain⟨e1,n1⟩:=h.out e n
    exact k.1 b u e1 n1
  · rcases k.2 b hb with q | q
    · exact h.2 b q
    · by_cases n:b∈fp
      · exact .inl n
      · refine .inr ?_
        cases e:H b with
        | none=>rfl
        | some u=>rw[h.1 b u e n] at q;cases q
theorem Fr.put {fp:List Addr}{H:Hp}{b:Addr}{o:HO}(h:b∈fp): Fr fp fp H (upd H b o) :=
  ⟨fun c u e n=>by rw[upd_ne fun z=>n (by rw[z];exact h)];exact e,fun _ z=>.inl z⟩
theorem Fr.new {fp:List Addr}{H:Hp}{b:Addr}{o:HO}(h:H b=none): Fr fp (b::fp) H (upd H b o) :=
  ⟨fun c u e n=>by rw[upd_ne (ne_of_none e h)];exact e,fun c z=>(List.mem_cons.mp z).elim (fun z=>.inr (by rw[z];exact h)) fun z=>.inl z⟩
theorem kit_bb {K:PySem.W.Frag}{s t:String}{b:Bool}(h:(Value.type s==Value.type t)=false)(hm:PySem.W.kitMeta t=true)(e:Option.map (fun x=>x.contains (Value.type t)) (fastBuiltinMro s)=some b): PySem.W.kitOne K (.type s) (.type t)=some b:=by
  unfold PySem.W.kitOne PySem.W.kitCls
  rw[if_neg (by rw[h];decide)]
  simp only [hm,if_true]
  exact e
section
variable {X:Cx}
theorem pg_tupQ {K:PySem.W.Frag}{es:List Expr}{k:Nat}{t:TGs}{n:Nat}{pos:Pos}(hK:X.K=K)(hc:X.calm=true)(h:PGs X es t)
    (hn:(assignEach es X.env).length=n:=by rfl) (hst:(assignEach es X.env).findIdx? (·.1)=none:=by rfl):PG X (.Tuple es k pos) (gTup K n t):=by
  subst hK
  exact pg_tup hc h hn hst
end
theorem countP_eqU {x:V}: ∀{xs:List V} {us:List Value},Vals xs us->xs.all flatV=true->us.countP (eqU x)=xs.countP fun y=>eqV y x
  | _,_,.nil,_=>rfl
  | y::xs,u::us,.cons r t,f=>by
    rw[List.all_cons,Bool.and_eq_true] at f
    rw[List.countP_cons,List.countP_cons,eqU_of r f.1,countP_eqU t f.2]
section
variable {X:Cx}
def rCountV:V->List V->Hp->VK->Prop:=fun x vs H Q=>∃(l:Addr) (xs:List V) (y:V),x=.ref l/\vs=[y]/\H l=some (.lst xs)/\flatV y=true/\xs.all flatV=true/\Q (.int (xs.countP (fun z=>eqV z y):Nat)) H
theorem mt_countV:MtM X "list.count" rCountV:=by
  intro pins s σ H x vs v us Q I rx rv h
  obtain⟨l,xs,y,rfl,rfl,hl,fy,fs,q⟩:=h
  cases rx
  obtain⟨u,rfl,ru⟩:=vals1 rv
  obtain⟨its,r,p,hz⟩:=I.list (SqL.of hl)
  obtain⟨⟨oc,od,odt,osl⟩,n,e,ec,ed,es⟩:=p
  dsimp only at ec ed es
  subst ec
  subst ed
  subst es
  refine call_meets PySem.F.slot_list_count ⟨_,e,rfl⟩ PySem.F.entry_list_count (PySem.F.args_list_count_2 _ _) (PySem.SeqAt.list_countAt l its.toArray n none osl u (eqU y)) ⟨e,fun w hw=>mem_eqAt ru fy r fs w (by simpa using hw),⟨.int _,H,I.tok _,⟨_,rfl⟩,?_⟩⟩
  have e2:(its.toArray.toList).countP (eqU y)=xs.countP fun z=>eqV z y:=countP_eqU r fs
  rw[e2]
  exact q
def rIndexV:V->List V->Hp->VK->Prop:=fun x vs H Q=>∃(l:Addr) (xs:List V) (y:V) (j:Nat),x=.ref l/\vs=[y]/\H l=some (.lst xs)/\flatV y=true/\xs.all flatV=true/\(∃z,xs[j]?=some z/\eqV z y=true)/\(∀m z,m < j->xs[m]?=some z->eqV z y=false)/\Q (.int j) H
theorem mt_indexV:MtM X "list.index" rIndexV:=by
  intro pins s σ H x vs v us Q I rx rv h
  obtain⟨l,xs,y,j,rfl,rfl,hl,fy,fs,⟨z,hz1,hz2⟩,hno,q⟩:=h
  cases rx
  obtain⟨u,rfl,ru⟩:=vals1 rv
  obtain⟨its,r,p,hz⟩:=I.list (SqL.of hl)
  obtain⟨⟨oc,od,odt,osl⟩,n,e,ec,ed,es⟩:=p
  dsimp only at ec ed es
  subst ec
  subst ed
  subst es
  have fl:∀z∈xs,flatV z=true:=List.all_eq_true.mp fs
  have h3:sizeLine=16777216:=sizeLine_eq
  have hlen:=r.length
  have hj:j < its.length:=by rw[<-hlen];exact(List.getElem?_eq_some_iff.mp hz1).1
  have at':∀(m:Nat) (hm:m < its.length) (z:V),xs[m]?=some z->eqU y its[m]=eqV z y:=fun m hm z hz=>by
    obtain⟨w,hw,rw'⟩:=r.get hz
    rw[List.getElem?_eq_getElem hm] at hw
    cases hw
    exact eqU_of rw' (fl z (List.mem_of_getElem? hz))
  refine call_meets PySem.F.slot_list_index ⟨_,e,rfl⟩ PySem.F.entry_list_index (PySem.F.args_list_index_2 _ _) (PySem.SeqAt.list_indexAt l its.toArray n none osl u (eqU y) j
    (by simpa using hj) (by omega) ?_ fun m hm lt=>?_) ⟨e,fun w hw=>mem_eqAt ru fy r fs w (by simpa using hw),⟨.int _,H,I.tok _,⟨_,rfl⟩,q⟩⟩
  · have:eqU y (its[j]'hj)=true:=by rw[at' j hj z hz1];exact hz2
    simpa using this
  · have hm':m < its.length:=by simpa using hm
    have hx:m < xs.length:=by omega
    have:eqU y (its[m]'hm')=false:=by rw[at' m hm' xs[m] (List.getElem?_eq_getElem hx)];exact hno m _ lt (List.getElem?_eq_getElem hx)
    simpa using this
end
end L2

set_option maxHeartbeats 4000000
namespace L2
open PySem PySem.Spec PyProof.Rows
end L2

set_option maxHeartbeats 4000000
namespace L2
open PySem PySem.Spec PyProof.Rows
structure CMeth (K:PySem.W.Frag)(C:Addr)(m:Str)(f:Addr): Prop where
  sp:PySem.W.specialIn K (.ref C) "__getattribute__" = some (some (.builtin "type.__getattribute__"))
  fi:∃mc,PySem.W.readsIn K C mc=true/\PySem.W.findCls K (.ref C) mc m=some (.val (.ref f))
  kp:PySem.W.keepIn K (.ref f)=true
def HasCm (P:Program)(w:World)(K:PySem.W.Frag)(mg:Str->Option Value)(base:Heap)(C:Addr)(k:Nat)(m:Str)(ps:List Str)(sp:Sp)(dvs:List V): Prop :=
  ∃f fd ds,FnOk P w K mg base (CXE P w) k f fd ps sp/\CMeth K C m f/\Binds K fd ps ds/\Vals dvs ds
section
variable {P:Program}{w:World}{K:PySem.W.Frag}{mg:Str->Option Value}{base:Heap}{C:Addr}{x m qual:Str}{st:Stmt}{N ps:List Str}{dvs:List V}{k:Nat}{sp:Sp}
end
section
variable {X:Cx}{C:Addr}{k:Nat}{ps:List Str}{sp:Sp}{dvs:List V}{E:St->XK}{x m:Str}{p pos apos:Pos}{e o:Expr}{es:List Expr}{ta:TE}{t:TA}
theorem pe_cm {pl:Sem Bool}(hg:Gl X x)(hm:X.mg x=some (.ref C))(h:HasCm X.prog X.w X.K X.mg X.base C k m ps sp dvs)(hr:Room k X.A)(hx:PassesX (CXE X.prog X.w) X E)(ha:PA X (e::es) t)
    (hdb:(x==("__debug__" : Str))=false:=by decide)
    (hst:starEach (e::es) X.env=(false,eval e X.env)::starEach es X.env:=by rfl) (hpl:(backTo pos (starEach es X.env)).any (·.1)=false:=by rfl)
    (ht:eval (.Call (.Attribute (.Name x p) m apos) (e::es) [] pos) X.env=(do
      let ov <-eval (.Name x p) X.env
      standAt apos.atName
      let (f,first) <-holding [ov] (getMethod ov m pl)
      callWith pos f first (backTo pos (starEach (e::es) X.env)) (backToKw pos (keywordEach [] X.env))):=by rfl) :
    PE X (.Call (.Attribute (.Name x p) m apos) (e::es) [] pos) (tCallX sp dvs E t):=by
  obtain⟨f,fd,ds,F,hc,hb,hd⟩:=h
  obtain⟨mc,h1,h2⟩:=hc.fi
  intro pins s σ H Q I h
  refine PySem.W.methodCall_KW (pl:=pl) (ld_glob I hg hm ?_ hdb) ht
  refine PySem.W.method_cls I.kIn hc.sp (PySem.W.cls_value I.kIn h1 h2 rfl ?_)
  have I':Inv X pins σ H { s with toks:=s.toks+1 }:=I.tok _
  refine PySem.W.callWith_K (first:=[]) (h₀:=X.base) I.ok.mod.kin hc.kp (thn (ha pos pins _ σ H _ I' h) fun us s1 ⟨vs,H1,I1,r,q⟩=>⟨I1.kIn,?_⟩) hst hpl
  exact run_fnX F hr hb hd hx I1 r q
def tMeD (X:Cx)(k:Nat)(m:Str)(dvs:List V)(E:St->XK)(ta:TE)(t:TA): TE:=fun σ H Q=>ta σ H fun x H1=>∃a C dx fs ps sp,x=.ref a/\H1 a=some (.ins C dx fs)/\Cls X.K C/\HasMe X.prog X.w X.K X.mg X.base C k m ps sp dvs/\fs.lookup m=none ∧
  t σ H1 fun vs H2=>sp (.ref a::(vs++dvs)) H2 Q (E σ)
theorem pe_meD {pl:Sem Bool}(he:PE X o ta)(hr:Room k X.A)(hx:PassesX (CXE X.prog X.w) X E)(ha:PA X (e::es) t)
    (hst:starEach (e::es) X.env=(false,eval e X.env)::starEach es X.env:=by rfl) (hpl:(backTo pos (starEach es X.env)).any (·.1)=false:=by rfl)
    (ht:eval (.Call (.Attribute o m apos) (e::es) [] pos) X.env=(do
      let ov <-eval o X.env
      standAt apos.atName
      let (f,first) <-holding [ov] (getMethod ov m pl)
      callWith pos f first (backTo pos (starEach (e::es) X.env)) (backToKw pos (keywordEach [] X.env))):=by rfl) :
    PE X (.Call (.Attribute o m apos) (e::es) [] pos) (tMeD X k m dvs E ta t):=by
  intro pins s σ H Q I h
  refine PySem.W.methodCall_KW (pl:=pl) (thn (he pins s σ H _ I h) fun u s1 ⟨x,H1,I1,rx,a,C,dx,fs,ps,sp,ex,ea,c,⟨f,fd,ds,F,hm,hb,hd⟩,l,q⟩=>?_) ht
  subst ex
  obtain rfl:u=Value.ref a:=rx
  refine getmeth_ok I1 ea c hm l ?_
  refine PySem.W.callWith_K (first:=[.ref a]) (h₀:=X.base) I.ok.mod.kin hm.kp (thn (ha pos pins s1 σ H1 _ I1 q) fun us s2 ⟨vs,H2,I2,r,q2⟩=>⟨I2.kIn,?_⟩) hst hpl
  exact run_fnX (us:=.ref a::us) (vs:=.ref a::vs) F hr hb hd hx I2 (.cons rfl r) q2
theorem pe_meD0 {pl:Sem Bool}(he:PE X o ta)(hr:Room k X.A)(hx:PassesX (CXE X.prog X.w) X E)
    (ht:eval (.Call (.Attribute o m apos) [] [] pos) X.env=(do
      let ov <-eval o X.env
      standAt apos.atName
      let (f,first) <-holding [ov] (getMethod ov m pl)
      callWith pos f first (backTo pos (starEach [] X.env)) (backToKw pos (keywordEach [] X.env))):=by rfl) :
    PE X (.Call (.Attribute o m apos) [] [] pos) (tMeD X k m dvs E ta tNil):=by
  intro pins s σ H Q I h
  refine PySem.W.methodCall_KW (pl:=pl) (thn (he pins s σ H _ I h) fun u s1 ⟨x,H1,I1,rx,a,C,dx,fs,ps,sp,ex,ea,c,⟨f,fd,ds,F,hm,hb,hd⟩,l,q⟩=>?_) ht
  subst ex
  obtain rfl:u=Value.ref a:=rx
  refine getmeth_ok I1 ea c hm l ?_
  exact PySem.W.callWith_K0 (first:=[.ref a]) I1.kIn hm.kp (run_fnX (us:=[.ref a]) (vs:=[.ref a]) F hr hb hd hx I1 (.cons rfl .nil) q)
end
def tMeDK (P:Program)(w:World)(K:PySem.W.Frag)(mg:Str->Option Value)(base:Heap)(k:Nat)(m:Str)(dvs:List V)(E:St->XK)(ta:TE)(t:TA): TE:=fun σ H Q=>ta σ H fun x H1=>∃a C dx fs ps sp,x=.ref a/\H1 a=some (.ins C dx fs)/\Cls K C/\HasMe P w K mg base C k m ps sp dvs/\fs.lookup m=none ∧
  t σ H1 fun vs H2=>sp (.ref a::(vs++dvs)) H2 Q (E σ)
section
variable {X:Cx}{P:Program}{w:World}{K:PySem.W.Frag}{mg:Str->Option Value}{base:Heap}{m:Str}{dvs:List V}{k:Nat}{E:St->XK}{ta:TE}{t:TA}{o e:Expr}{es:List Expr}{pos apos:Pos}
theorem pe_meDK0 {pl:Sem Bool}(eP:X.prog=P)(ew:X.w=w)(eK:X.K=K)(em:X.mg=mg)(eb:X.base=base)(he:PE X o ta)(hr:Room k X.A)(hx:PassesX (CXE X.prog X.w) X E)
    (ht:eval (.Call (.Attribute o m apos) [] [] pos) X.env=(do
      let ov <-eval o X.env
      standAt apos.atName
      let (f,first) <-holding [ov] (getMethod ov m pl)
      callWith pos f first (backTo pos (starEach [] X.env)) (backToKw pos (keywordEach [] X.env))):=by rfl) :
    PE X (.Call (.Attribute o m apos) [] [] pos) (tMeDK P w K mg base k m dvs E ta tNil):=by
  subst eP;subst ew;subst eK;subst em;subst eb
  exact pe_meD0 (pl:=pl) he hr hx ht
end
structure TopD (P:Params)(K:PySem.W.Frag)(a:Addr): Prop where
  lk:∃es n,K.lookup a=some ⟨.type "dict",none,.dict es n,#[]⟩/\PySem.W.KeysLit P es.toList
  sy:(a==sysModules)=false
section
variable {X:Cx}{a:Addr}{x:Str}{i:Expr}{ty:TE}{p pos:Pos}
end
section
variable {P:Program}{w:World}{K:PySem.W.Frag}{mg:Str->Option Value}{base:Heap}{C f:Addr}{m:Str}{ps:List Str}{dvs:List V}{ds:List Value}{k:Nat}{sp:Sp}{fd:FuncData}
theorem hasMk (F:FnOk P w K mg base (CXE P w) k f fd ps sp)(h:Mk K C f)(hb:Binds K fd ps ds)(hd:Vals dvs ds): HasMk P w K mg base C k ps sp dvs:=⟨f,fd,ds,F,h,hb,hd⟩
theorem hasCm (F:FnOk P w K mg base (CXE P w) k f fd ps sp)(h:CMeth K C m f)(hb:Binds K fd ps ds)(hd:Vals dvs ds): HasCm P w K mg base C k m ps sp dvs:=⟨f,fd,ds,F,h,hb,hd⟩
theorem HasMe.mono {j:Nat}(h:HasMe P w K mg base C j m ps sp dvs)(hj:j<=k): HasMe P w K mg base C k m ps sp dvs:=by
  obtain⟨f,fd,ds,F,hm,hb,hd⟩:=h
  exact⟨f,fd,ds,⟨F.len,fun A outer s H args us vs Q E hr=>F.run A outer s H args us vs Q E (hr.mono hj)⟩,hm,hb,hd⟩
end
section
variable {X:Cx}{x:Str}{pos:Pos}
end
end L2

set_option maxHeartbeats 4000000
namespace L2
open PySem PySem.Spec PyProof.Rows
section
variable {X:Cx}{pins:List (Addr×Obj)}{σ:St}{H:Hp}{s:Shared}
end
end L2

set_option maxHeartbeats 4000000
namespace L2
open PySem PySem.Spec PyProof.Rows
def IKeys (kvs:List (Key×V))(ks:List Int): Prop:=kvs.map (·.1)=ks.map Sum.inl
theorem keys_ints {P:Program}{w:World}: ∀{kvs:List (Key×V)} {vs:List (Key×Value)} {ks:List Int} {acc:List Value},KV kvs vs->IKeys kvs ks->acc.length=vs.length ->
    (∀(j:Nat) (v:Value),acc[j]?=some v->∃k x,vs[j]?=some (k,x)/\(mixKind P w).is k v=true)->IntsAre acc ks
  | _,_,ks,acc,.nil,hk,hl,h=>by
    have e:ks=[]:=by
      cases ks with
      | nil=>rfl
      | cons a b=>cases hk
    have e2:acc=[]:=List.eq_nil_of_length_eq_zero hl
    rw[e,e2];exact .nil
  | _,_,ks,acc,.cons (a:=p) (b:=q) r t,hk,hl,h=>by
    cases ks with
    | nil=>cases hk
    | cons i ks =>
      cases acc with
      | nil=>cases hl
      | cons v acc =>
        have hk':=List.cons.inj hk
        obtain⟨k,x,e1,e2⟩:=h 0 v rfl
        have e1:q=(k,x):=Option.some.inj e1
        have ek:k=.inl i:=by
          have:p.1=q.1:=r.1
          rw[e1] at this
          exact this.symm.trans hk'.1
        subst ek
        obtain⟨tk,rfl⟩:∃t,v=.int i t:=by
          have e2:Value.isInt i v=true:=e2
          unfold Value.isInt at e2
          split at e2
          · next n _=>exact⟨n,by simp at e2;rw[e2]⟩
          · cases e2
        exact .cons i tk (keys_ints t hk'.2 (Nat.succ.inj hl) fun j v' e=>h (j+1) v' (by simpa using e))
theorem ints_vals:∀{vs:List Value} {ns:List Int},IntsAre vs ns->Vals (ns.map V.int) vs
  | _,_,.nil=>.nil
  | _,_,.cons n t r=>.cons ⟨t,rfl⟩ (ints_vals r)
section
variable {X:Cx}
theorem call_sortedD (hh:X.A.handled=none): CallR X (.builtin "sorted") (fun xs H Q=>∃a kvs ks,xs=[V.ref a]/\H a=some (.dK kvs)/\IKeys kvs ks/\ks.length < 64/\∀(p:Addr) (ns:List Int),H p=none->ns.Perm ks->ns.Pairwise (·<=·)->Q (.ref p) (upd H p (.lst (ns.map V.int)))):=by
  intro pins s σ H xs us Q I r h
  obtain⟨a,kvs,ks,rfl,ea,hk,k64,q⟩:=h
  obtain⟨u,rfl,rx⟩:=vals1 r
  cases rx
  obtain⟨z,hd,vs,rel,dd⟩:=dk_of I.hok ea
  obtain⟨ep,da⟩:=dd.dictAt
  have hl:=rel.length
  have kl:kvs.length=ks.length:=by have:=congrArg List.length hk;simpa using this
  refine Calls.call_function_entry kind_sorted plain_sorted entry_sorted (args_sorted1 (Value.ref a)) ?_
  refine wpAny_bind (wpAny_pure (wpAny_bind (PySem.W.kdu_collect (PySem.W.kdl_dict hd) hh da (by omega) fun h' tk acc kp it=>?_)))
  have ia:=keys_ints rel hk (acc:=acc.toList) (by rw[Array.length_toList];exact it.1) fun j v e=>it.2 j v (by simpa using e)
  have al:acc.toList.length=vs.length:=by rw[Array.length_toList];exact it.1
  refine wpAny_bind (wpAny_newList ?_ (by rw[sizeLine_eq];omega))
  have hoL:(h'.push (seqObj "list" acc.toList.toArray 0)).get? h'.objs.size=some (seqObj "list" acc.toList.toArray 0):=Heap.get?_push_size h' rfl
  refine wpAny_bind (wpAny_holding (wpAny_call_entry slot_list_sort ⟨_,hoL,rfl⟩ entry_list_sort (list_sort_tree hoL ia (by omega) fun out ns' a1 a2 a3=>⟨.none,rfl,wpAny_pure ⟨_,rfl,?_⟩⟩) (args_list_sort _)))
  have sz:(h'.push (seqObj "list" acc.toList.toArray 0)).objs.size=h'.objs.size+1:=size_push' _ _
  have I1:=I.kept (t':=tk) kp
  have kp':∀b o,h'.get? b=some o->(sortedHeap (h'.push (seqObj "list" acc.toList.toArray 0)) h'.objs.size acc.toList out).get? b=some o:=fun b o e=>by
    have lt:b < h'.objs.size:=Heap.lt_size e
    rw[sortedHeap_old (Nat.ne_of_lt lt) (Nat.lt_of_lt_of_le lt (by rw[sz];exact Nat.le_succ _)),Heap.get?_push_of_some _ e]
  obtain⟨ee,he⟩:=sortedHeap_at (out:=out) hoL
  have iv:=ints_vals a1
  have hp:=a2.length_eq
  refine⟨.ref h'.objs.size,_,I1.laid (t':=tk) kp' (Nat.le_refl _) (show ObjOk X.prog X.w _ _ _ (.lst (ns'.map V.int)) from ⟨?_,out.toList,ee,iv,he⟩),rfl,q _ ns' (I1.hok.fresh (Nat.le_refl _)) a2 a3⟩
  rw[List.length_map,sizeLine_eq];omega
def tDSet (td ty tx:TE): TE:=fun σ H Q=>td σ H fun x H1=>∃a,x=.ref a/\IsD H1 a/\ty σ H1 fun y H2=>tx σ H2 fun z H3=>∃kvs k,H3 a=some (.dK kvs)/\y=kV k/\kvs.length < sizeLine ∧
  (∀v,valV kvs k=some v->Q v H3)/\(valV kvs k=none->Q z (upd H3 a (.dK (putK kvs k z))))
variable {pins:List (Addr×Obj)}{σ:St}{H:Hp}{s:Shared}{a:Addr}{kvs:List (Key×V)}{k:Key}{A:Around}{E:Value->Shared->Prop}{u:Value}
theorem d_setdef {z:V}{r:Value}{Q:Value->Shared->Prop}(I:Inv X pins σ H s)(e:H a=some (.dK kvs))(ry:RelV (kV k) u)(rz:RelV z r)(hz:kvs.length < sizeLine)
    (h1:∀v w' s',valV kvs k=some v->Inv X pins σ H s'->RelV v w'->Q w' s') (h2:∀s',valV kvs k=none->Inv X pins σ (upd H a (.dK (putK kvs k z))) s'->Q r s') :
    wpAny (model X.prog X.w) A (call (.builtin "dict.setdefault") [.ref a,u,r]) Q E s:=by
  obtain⟨zl,hd,vs,rel,dd⟩:=dk_of I.hok e
  refine call_meetsIn PySem.F.slot_dict_setdefault dd.typeIs PySem.F.entry_dict_setdefault (PySem.F.args_dict_setdefault_3 _ _ _) (kt_meets_setdefault (mixKind X.prog X.w) a (kV_is ry) hd r)
    ⟨vs,dd,by rw[<-rel.length];exact zl,fun v hv=>?_,fun hn h' dd' hs=>?_⟩
  · cases l:valV kvs k with
    | none =>
      have hn:valueAt vs k=none:=RelO.none_of (by rw[<-l];exact rel.val k)
      rw[hn] at hv;cases hv
    | some v0 =>
      obtain⟨w',hw,rw'⟩:=RelO.some_of (v:=v0) (o:=valueAt vs k) (by rw[<-l];exact rel.val k)
      rw[hw] at hv
      cases hv
      exact h1 v0 _ _ l (I.tok _) rw'
  · have l:valV kvs k=none:=by
      cases l:valV kvs k with
      | none=>rfl
      | some v0 =>
        obtain⟨w',hw,_⟩:=RelO.some_of (v:=v0) (o:=valueAt vs k) (by rw[<-l];exact rel.val k)
        rw[hw] at hn;cases hn
    have he:∃q,h'.get? a=some q:=let ⟨q,_,_,hq,_⟩:=dd';⟨q,hq⟩
    refine h2 _ l (d_write I (by rw[e];exact True.intro) hs he (dk_new ?_ hd (rel.put k rz) dd'))
    have:=length_putK kvs k z
    omega
variable {o e' f:Expr}{apos cpos:Pos}{td ty tx:TE}
theorem pe_dsetdefault2 (ho:PE X o td) (he:PE X e' ty) (hf:PE X f tx) (m:M2 X o "setdefault" apos e' f cpos):PE X (.Call (.Attribute o "setdefault" apos) [e',f] [] cpos) (tDSet td ty tx):=by
  intro pins s σ H Q I h
  refine wpAny_Call_method m.base m.few m.line PySem.F.plainAttrs_dict PySem.F.slot_dict_setdefault PySem.F.type_dict_setdefault (thn (ho pins s σ H _ I h) fun u s1 ⟨x,H1,I1,rx,a,ex,d,q1⟩=>?_)
  subst ex
  obtain rfl:u=Value.ref a:=rx
  obtain⟨t1,t2,_⟩:=isD_at I1 d
  refine⟨t1,t2,?_⟩
  rw[m.trees]
  refine Calls.callWith_builtin rfl (Calls.evalArgs_plain (Calls.spliced_cons (thn (he pins s1 σ H1 _ I1 q1) fun iv s2 ⟨y,H2,I2,ry,q2⟩ =>
    Calls.spliced_cons (thn (hf pins s2 σ H2 _ I2 q2) fun fv s3 ⟨z,H3,I3,rz,kvs,k,ea,ey,hz,q3,q4⟩=>Calls.spliced_nil ?_))))
  subst ey
  exact d_setdef I3 ea ry rz hz (fun v w' s4 l I4 rw'=>⟨v,_,I4,rw',q3 v l⟩) fun s4 l I4=>⟨z,_,I4,rz,q4 l⟩
end
end L2

set_option maxHeartbeats 4000000
namespace L2
open PySem PyProof.Rows
theorem bitOr_pp {x y:Int}(hx:0<=x)(hy:0<=y): Builtin.bitOr x y=((x.toNat ||| y.toNat:Nat):Int):=by
  unfold Builtin.bitOr Builtin.bitAnd
  have h1:¬0<=Builtin.bitNot x:=by unfold Builtin.bitNot;omega
  have h2:¬0<=Builtin.bitNot y:=by unfold Builtin.bitNot;omega
  simp only [h1,h2,decide_false]
  have e1:∀z:Int,Builtin.bitNot (Builtin.bitNot z)=z:=fun z=>by unfold Builtin.bitNot;omega
  rw[e1,e1,e1]
section
variable {x y:Int}{k:Nat}
theorem pow2_pos:(0:Int) < 2^k:=Int.pow_pos (by decide)
theorem mod_nn:0<=x%2^k:=Int.emod_nonneg _ (Int.ne_of_gt pow2_pos)
theorem div_nn (hx:0<=x): 0<=x / 2^k:=Int.ediv_nonneg hx (Int.le_of_lt pow2_pos)
end
theorem two_cast (k:Nat): ((2^k:Nat):Int)=(2:Int)^k:=by
  rw[Int.natCast_pow]
  rfl
theorem or_place {n m:Int}{k:Nat}(h0:0<=n)(h1:0<=m)(h2:m < 2^k): Builtin.bitOr (n*2^k) m=n*2^k+m:=by
  have hp:(0:Int)<=n*2^k:=Int.mul_nonneg h0 (Int.le_of_lt (Int.pow_pos (by decide)))
  rw[bitOr_pp hp h1]
  obtain⟨a,rfl⟩:=Int.eq_ofNat_of_zero_le h0
  obtain⟨b,rfl⟩:=Int.eq_ofNat_of_zero_le h1
  have e:(a:Int)*2^k=((2^k*a:Nat):Int):=by rw[Int.natCast_mul,two_cast,Int.mul_comm]
  rw[e,Int.toNat_natCast,Int.toNat_natCast]
  have hb:b < 2^k:=by
    have:=two_cast k
    omega
  rw[<-Nat.two_pow_add_eq_or_of_lt hb a]
  exact Int.natCast_add _ _
end L2

set_option maxHeartbeats 4000000
namespace L2
open PySem PyProof.Rows
end L2

set_option maxHeartbeats 4000000
namespace L2
open PySem PySem.Spec PyProof.Rows
section
variable {X:Cx}{pins:List (Addr×Obj)}{σ:St}{H:Hp}{s:Shared}
theorem Inv.tupleI (I:Inv X pins σ H s){a:Addr}{ns:List Int}(h:SqT X.K H a (ns.map V.int)): ∃vs:List Value,IsTup s.heap a vs.toArray/\IntsAre vs ns/\ns.length<=sizeLine:=by
  obtain⟨its,rv,p,hz⟩:=I.tuple h
  exact⟨its,p,ints_of_vals rv,by simpa using hz⟩
theorem call_sumT (hc:X.calm=true): CallR X (.builtin "sum") (fun xs H Q=>∃(p:Addr) (ns:List Int),xs=[.ref p]/\SqT X.K H p (ns.map V.int)/\Q (.int ns.sum) H):=by
  intro pins s σ H xs us Q I r h
  obtain⟨p,ns,rfl,hq,q⟩:=h
  obtain⟨u,rfl,ru⟩:=vals1 r
  cases ru
  obtain⟨vs,hl,hi,_⟩:=I.tupleI hq
  obtain⟨ys,hx⟩:=hi.allInts.items
  have hl':s.heap.IsTuple p (intItems ys):=hx ▸ (show s.heap.IsTuple p vs.toArray from hl)
  have hlt:p < s.heap.objs.size:=by obtain⟨_,e,_⟩:=id hl';exact Heap.lt_size e
  refine call_sum_walkG (wpAny_pyIter_tuple hl' ?_)
  refine⟨s.heap.objs.size,_,_,_,_,_,numAt ys,rfl,Walks.tuple (A:=X.A.in1) (I.ok.hd hc) s.heap.objs.size p (Nat.ne_of_lt hlt) (intItems ys),⟨⟨_,Heap.get?_push_size _ rfl,rfl,rfl⟩,hl'.push _⟩,fun b hb=>?_,(fun _ _=>intItems_at),fun h' tk t' hk=>?_⟩
  · have hz:∀o:Obj,(s.heap.push o).objs.size=s.heap.objs.size+1:=fun o=>Array.size_push _
    rcases List.mem_cons.mp hb with e | hb
    · rw[e,hz];exact Nat.lt_succ_self _
    · rw[List.mem_singleton.mp hb,hz];exact Nat.lt_succ_of_lt hlt
  · refine⟨.int ns.sum,H,I.kept (LSm.kept_iter hk),⟨t',?_⟩,q⟩
    have e1:ns=ys.toList.map (·.1):=by
      rw[<-nums_intItems,<-hx]
      exact(show numsOf vs.toArray.toList=ns from hi.numsOf).symm
    have e2:(intItems ys).size=ys.size:=by simp[intItems]
    rw[e2,preSum_eq,List.take_of_length_le (by simp),e1]
end
end L2

set_option maxHeartbeats 4000000
namespace L2
def cutR:List Int->Int->List Int
  | [],_=>[]
  | w::ws,r=>(r%2^w.toNat)::cutR ws (r / 2^w.toNat)
def parts (ws:List Int)(r:Int): List Int:=(cutR ws.reverse r).reverse
def span (ws:List Int): Int:=2^ws.sum.toNat
def glue (l:List (Int×Int)): Int:=l.foldl (fun a wp=>a*2^wp.1.toNat+wp.2) 0
theorem parts_nil (r:Int): parts [] r=[]:=rfl
theorem parts_snoc (ws:List Int)(w r:Int): parts (ws++[w]) r=parts ws (r / 2^w.toNat)++[r%2^w.toNat]:=by
  unfold parts
  rw[List.reverse_append]
  show (cutR (w::ws.reverse) r).reverse=_
  rw[cutR,List.reverse_cons]
theorem glue_snoc (l:List (Int×Int))(w p:Int): glue (l++[(w,p)])=glue l*2^w.toNat+p:=by
  unfold glue
  rw[List.foldl_append]
  rfl
theorem parts_length (ws:List Int): ∀r,(parts ws r).length=ws.length:=by
  have h:∀(l:List Int) (r:Int),(cutR l r).length=l.length:=fun l=>by
    induction l with
    | nil=>intro r;rfl
    | cons w l ih=>intro r;rw[cutR,List.length_cons,ih,List.length_cons]
  intro r
  unfold parts
  rw[List.length_reverse,h,List.length_reverse]
theorem snocInd {α:Type}{P:List α->Prop}(h0:P [])(h1:∀l a,P l->P (l++[a]))(l:List α): P l:=by
  have:∀l:List α,P l.reverse:=fun l=>by
    induction l with
    | nil=>exact h0
    | cons a l ih=>rw[List.reverse_cons];exact h1 _ _ ih
  have h:=this l.reverse
  rw[List.reverse_reverse] at h
  exact h
theorem span_snoc {ws:List Int}{w:Int}(h:∀x∈ws,0<=x)(hw:0<=w): span (ws++[w])=span ws*2^w.toNat:=by
  unfold span
  have hs:0<=ws.sum:=by
    clear hw
    induction ws with
    | nil=>simp
    | cons x r ih =>
      rw[List.sum_cons]
      have:=h x List.mem_cons_self
      have:=ih fun y hy=>h y (List.mem_cons_of_mem _ hy)
      omega
  rw[List.sum_append,List.sum_cons,List.sum_nil,Int.add_zero,Int.toNat_add hs hw,Int.pow_add]
def Fit:List Int->List Int->Prop
  | [],[]=>True
  | w::ws,p::ps=>(0<=p/\p < 2^w.toNat)/\Fit ws ps
  | _,_=>False
theorem Fit.length:∀{ws ps:List Int},Fit ws ps->ws.length=ps.length
  | [],[],_=>rfl
  | _::_,_::_,h=>by rw[List.length_cons,List.length_cons,Fit.length h.2]
  | [],_::_,h=>h.elim
  | _::_,[],h=>h.elim
theorem Fit.snoc:∀{ws ps:List Int} {w p:Int},Fit ws ps->0<=p->p < 2^w.toNat->Fit (ws++[w]) (ps++[p])
  | [],[],_,_,_,h0,h1=>⟨⟨h0,h1⟩,trivial⟩
  | _::_,_::_,_,_,h,h0,h1=>⟨h.1,Fit.snoc h.2 h0 h1⟩
  | [],_::_,_,_,h,_,_=>h.elim
  | _::_,[],_,_,h,_,_=>h.elim
theorem Fit.unsnoc:∀{ws ps:List Int} {w p:Int},Fit (ws++[w]) (ps++[p])->Fit ws ps/\0<=p/\p < 2^w.toNat
  | [],[],_,_,h=>⟨trivial,h.1⟩
  | _::_,_::_,_,_,h=>by
    have:=Fit.unsnoc h.2
    exact⟨⟨h.1,this.1⟩,this.2⟩
  | [],_::ps,_,_,h=>by
    have:=Fit.length h.2
    simp at this
  | _::ws,[],_,_,h=>by
    have:=Fit.length h.2
    simp at this
theorem parts_fit:∀(ws:List Int) (r:Int),Fit ws (parts ws r):=by
  intro ws
  induction ws using snocInd with
  | h0=>intro r;exact trivial
  | h1 l w ih =>
    intro r
    rw[parts_snoc]
    exact(ih _).snoc mod_nn (Int.emod_lt_of_pos _ pow2_pos)
theorem glue_lt:∀{ws ps:List Int},(∀x∈ws,0<=x)->Fit ws ps->0<=glue (ws.zip ps)/\glue (ws.zip ps) < span ws:=by
  intro ws
  induction ws using snocInd with
  | h0 =>
    intro ps _ _
    simp[glue,span]
  | h1 l w ih =>
    intro ps hw hf
    have hl:=hf.length
    rw[List.length_append,List.length_singleton] at hl
    obtain⟨qs,p,rfl⟩:∃qs p,ps=qs++[p]:=by
      have hne:ps≠[]:=fun z=>by rw[z] at hl;simp at hl
      exact⟨ps.dropLast,ps.getLast hne,(List.dropLast_concat_getLast hne).symm⟩
    have u:=hf.unsnoc
    have hl2:l.length=qs.length:=u.1.length
    rw[List.zip_append hl2,List.zip_cons_cons,List.zip_nil_right,glue_snoc,span_snoc (fun x hx=>hw x (List.mem_append_left _ hx)) (hw w (by simp))]
    have i:=ih (ps:=qs) (fun x hx=>hw x (List.mem_append_left _ hx)) u.1
    have hp:(0:Int) < 2^w.toNat:=pow2_pos
    refine⟨?_,?_⟩
    · have:=Int.mul_nonneg i.1 (Int.le_of_lt hp)
      omega
    · have h2:(glue (l.zip qs)+1)*2^w.toNat<=span l*2^w.toNat:=Int.mul_le_mul_of_nonneg_right (by omega) (Int.le_of_lt hp)
      rw[Int.add_mul,Int.one_mul] at h2
      omega
theorem parts_glue:∀{ws ps:List Int},Fit ws ps->parts ws (glue (ws.zip ps))=ps:=by
  intro ws
  induction ws using snocInd with
  | h0 =>
    intro ps h
    cases ps with
    | nil=>rfl
    | cons=>exact h.elim
  | h1 l w ih =>
    intro ps hf
    have hl:=hf.length
    rw[List.length_append,List.length_singleton] at hl
    obtain⟨qs,p,rfl⟩:∃qs p,ps=qs++[p]:=by
      have hne:ps≠[]:=fun z=>by rw[z] at hl;simp at hl
      exact⟨ps.dropLast,ps.getLast hne,(List.dropLast_concat_getLast hne).symm⟩
    have u:=hf.unsnoc
    have hl2:l.length=qs.length:=u.1.length
    rw[List.zip_append hl2,List.zip_cons_cons,List.zip_nil_right,glue_snoc,parts_snoc]
    have hp:(0:Int) < 2^w.toNat:=pow2_pos
    have e1:(glue (l.zip qs)*2^w.toNat+p) / 2^w.toNat=glue (l.zip qs):=by
      rw[Int.mul_comm,Int.mul_add_ediv_left _ _ (Int.ne_of_gt hp),Int.ediv_eq_zero_of_lt u.2.1 u.2.2,Int.add_zero]
    have e2:(glue (l.zip qs)*2^w.toNat+p)%2^w.toNat=p:=by
      rw[Int.mul_comm,Int.mul_add_emod_self_left,Int.emod_eq_of_lt u.2.1 u.2.2]
    rw[e1,e2,ih u.1]
theorem div_lt {r m:Int}{k:Nat}(h:r < m*2^k): r / 2^k < m:=Int.ediv_lt_of_lt_mul pow2_pos h
theorem glue_parts:∀(ws:List Int),(∀x∈ws,0<=x)->∀{r:Int},0<=r->r < span ws->glue (ws.zip (parts ws r))=r:=by
  intro ws
  induction ws using snocInd with
  | h0 =>
    intro _ r h0 h1
    have e:span []=1:=rfl
    rw[e] at h1
    have:r=0:=by omega
    subst this
    rfl
  | h1 l w ih =>
    intro hw r h0 h1
    have hl:∀x∈l,0<=x:=fun x hx=>hw x (List.mem_append_left _ hx)
    rw[span_snoc hl (hw w (by simp))] at h1
    rw[parts_snoc,List.zip_append (by rw[parts_length]),List.zip_cons_cons,List.zip_nil_right,glue_snoc,ih hl (div_nn h0) (div_lt h1),Int.mul_comm]
    exact Int.mul_ediv_add_emod r _
theorem parts_inj {ws:List Int}(hw:∀x∈ws,0<=x){a b:Int}(a0:0<=a)(a1:a < span ws)(b0:0<=b)(b1:b < span ws): parts ws a=parts ws b↔a=b:=by
  constructor
  · intro h
    rw[<-glue_parts ws hw a0 a1,<-glue_parts ws hw b0 b1,h]
  · intro h;rw[h]
end L2

set_option maxHeartbeats 4000000
namespace PySem
open Sem (wp)
open AutoSeq1 (wpAny_loadPart')
section
variable {prog:Program}{w:World}{A:Around}{E:Value->Shared->Prop}{s:Shared}
theorem extend_rangeG {R:Result->Shared->Prop}{r:Addr}{a b c:Int}{t u v:Tok}{n:Nat}{oI:Obj}{St:Nat->Heap->Prop}(hr:IsRange s.heap r a b c t u v)
    (hit:∀(E:Value->Shared->Prop) (Q:Value->Shared->Prop),Q (.ref s.heap.objs.size) { s with heap:=s.heap.push oI }->wpAny (model prog w) A.in1 (pyIter (.ref r)) Q E s)
    (W:Walks prog w A.in1 s.heap.objs.size [s.heap.objs.size] [s.heap.objs.size] n (fun i v=>∃t,v=.int (a+i*c) t) St) (st:St 0 (s.heap.push oI))
    (hn:Builtin.Range.rangeSize a b c=n) (hlen:n<=2^24) (S:Addr) (res:Value) (c₀:Nat) (hS:s.heap.get? S=some { cls:=.type "list",data:=.seq #[] c₀ })
    (hR:∀h' tk acc' c',(∀b o,b≠S->s.heap.get? b=some o->h'.get? b=some o)->h'.get? S=some { cls:=.type "list",dict:=none,data:=.seq acc' c',slots:=#[] } ->
      ItemsOf (fun i v=>∃t,v=.int (a+i*c) t) acc' n->R (.ok (.ret res)) { s with heap:=h',toks:=tk }) :
    wpAny (model prog w) A.in1 (Builtin.List.listExtendWith (.ref S) (.ref r) res)
      (fun fin s'=>match fin with | .done f=>R (.ok f) s' | .again c'=>c'.quiet=true/\codeAny (model prog w) A c' R s') (fun e s'=>R (.error e) s') s:=by
  have hSr:S≠r:=fun e=>by rw[e,hr] at hS;simp at hS
  have hSlt:S < s.heap.objs.size:=Heap.lt_size hS
  have hSI:S≠s.heap.objs.size:=Nat.ne_of_lt hSlt
  have hSf:S∉[s.heap.objs.size]:=fun hm=>hSI (List.mem_singleton.mp hm)
  have key:∀(h:Heap) (c₁ tk:Nat),St 0 h->(∀b o,b≠S->s.heap.get? b=some o->h.get? b=some o) ->
      h.get? S=some { cls:=.type "list",data:=.seq #[] c₁ }->codeAny (model prog w) A (.builtin "list.extend.loop" ⟨[.ref S,.ref s.heap.objs.size,res],[]⟩) R { s with heap:=h,toks:=tk }:=by
    intro h c₁ tk hst hk hS₁
    refine codeAny_extend_loopS W.toS (by rw[sizeLine_eq];omega) S hSf res n 0 _ #[] c₁ rfl (Nat.zero_le _) hst hS₁ (ItemsOf.nil _) fun s' acc' c' hm hS' hacc=>?_
    rw[Moved.eq_with hm]
    refine hR s'.heap s'.toks acc' c' (fun b o hb e=>hm.heap b o (fun hmem=>?_) (hk b o hb e)) hS' hacc
    rcases List.mem_cons.mp hmem with e' | hmem
    · exact hb e'
    · exact absurd (Heap.lt_size e) (by rw[List.mem_singleton.mp hmem];exact Nat.lt_irrefl _)
  unfold Builtin.List.listExtendWith
  refine wpAny_bind (wpAny_typeOf (T := "range") ⟨_,hr,rfl⟩ ?_)
  have h1:Builtin.List.listSameRef (.ref S) (.ref r)=false:=by simp[Builtin.List.listSameRef,hSr]
  have h2:(Value.type "range" == Value.type "list")=false:=by decide
  have h3:(Value.type "range" == Value.type "tuple")=false:=by decide
  simp only [h1,h2,h3,Bool.or_false,Bool.false_eq_true,if_false]
  refine wpAny_bind (hit _ _ ?_)
  refine wpAny_bind (wpAny_holding (wpAny_hint_range (n:=n) (Heap.get?_push_of_some _ hr) hn hlen ?_))
  have hS₁:=Heap.get?_push_of_some oI hS
  refine wpAny_ite_split (fun _=>?_) (fun _=>wpAny_pure ⟨plainId_quiet F.plain_extend_loop _,key _ c₀ _ st (fun b o _ e=>Heap.get?_push_of_some _ e) hS₁⟩)
  refine wpAny_bind (wpAny_rule ?_)
  refine wpAny_bind ?_
  show wpAny _ _ (updateSeq S (·.push .none) >>= fun _=>updateSeq S (·.pop)) _ _ _
  refine wpAny_bind (wpAny_updateSeq hS₁ rfl ?_)
  have hS₂:=Heap.get?_update_self (Obj.mapSeq (·.push Value.none)) hS₁ rfl
  refine wpAny_updateSeq (hz:=by seq_fits) hS₂ rfl ?_
  have hS₃:=Heap.get?_update_self (Obj.mapSeq (·.pop)) hS₂ rfl
  refine wpAny_pure ⟨plainId_quiet F.plain_extend_loop _,key _ _ _ ?_ (fun b o hb e=>?_) hS₃⟩
  · refine W.frame 0 _ _ st fun b hb o e=>?_
    have hbS:b≠S:=fun h=>hSf (h ▸ hb)
    exact(Heap.get?_update_other _ _ (Ne.symm hbS)).trans ((Heap.get?_update_other _ _ (Ne.symm hbS)).trans e)
  · exact(Heap.get?_update_other _ _ (Ne.symm hb)).trans ((Heap.get?_update_other _ _ (Ne.symm hb)).trans (Heap.get?_push_of_some _ e))
theorem list_init_rangeG {R:Result->Shared->Prop}{r:Addr}{a b c:Int}{t u v:Tok}{n:Nat}(hr:IsRange s.heap r a b c t u v)
    (src:∀s':Shared,IsRange s'.heap r a b c t u v->∃(oI:Obj) (St:Nat->Heap->Prop),(∀(E:Value->Shared->Prop) (Q:Value->Shared->Prop),Q (.ref s'.heap.objs.size) { s' with heap:=s'.heap.push oI }->wpAny (model prog w) A.in1 (pyIter (.ref r)) Q E s') ∧
      Walks prog w A.in1 s'.heap.objs.size [s'.heap.objs.size] [s'.heap.objs.size] n (fun i v=>∃t,v=.int (a+i*c) t) St/\St 0 (s'.heap.push oI))
    (hn:Builtin.Range.rangeSize a b c=n) (hlen:n<=2^24) (S:Addr) (hS:s.heap.get? S=some { cls:=.type "list",data:=.seq #[] })
    (hR:∀h' tk acc' c',(∀b o,b≠S->s.heap.get? b=some o->h'.get? b=some o)->h'.get? S=some { cls:=.type "list",dict:=none,data:=.seq acc' c',slots:=#[] } ->
      ItemsOf (fun i v=>∃t,v=.int (a+i*c) t) acc' n->R (.ok (.ret .none)) { s with heap:=h',toks:=tk }) :
    wpAny (model prog w) A.in1 (Builtin.«list.__init__» ⟨[.ref S,.ref r],[]⟩)
      (fun fin s'=>match fin with | .done f=>R (.ok f) s' | .again c'=>c'.quiet=true/\codeAny (model prog w) A c' R s') (fun e s'=>R (.error e) s') s:=by
  have hSr:S≠r:=fun e=>by rw[e,hr] at hS;simp at hS
  show wpAny _ _ (do let old <-Builtin.List.listItems (.ref S);Builtin.List.listUpdate (.ref S) (fun _=>#[]);letGo old.toList.reverse;Builtin.List.listExtendWith (.ref S) (.ref r) .none) _ _ s
  refine wpAny_bind ?_
  unfold Builtin.List.listItems
  refine wpAny_bind (wpAny_seqItems hS rfl (wpAny_pure ?_))
  show wpAny _ _ (updateSeq S (fun _=>#[]) >>= fun _=>letGo (#[]:Array Value).toList.reverse >>= fun _=>Builtin.List.listExtendWith (.ref S) (.ref r) .none) _ _ s
  refine wpAny_bind (wpAny_updateSeq hS rfl ?_)
  have hS₂:=Heap.get?_update_self (Obj.mapSeq (fun _=>(#[]:Array Value))) hS rfl
  have oth:∀b o,b≠S->s.heap.get? b=some o->(s.heap.update S (Obj.mapSeq (fun _=>(#[]:Array Value)))).get? b=some o :=
    fun b o hb e=>(Heap.get?_update_other _ _ (Ne.symm hb)).trans e
  refine wpAny_bind (wpAny_letGo ?_)
  obtain⟨oI,St,hit,W,st⟩:=src { s with heap:=s.heap.update S (Obj.mapSeq (fun _=>(#[]:Array Value))) } (oth r _ (Ne.symm hSr) hr)
  refine extend_rangeG (s:={ s with heap:=s.heap.update S (Obj.mapSeq (fun _=>(#[]:Array Value))) }) (oth r _ (Ne.symm hSr) hr) hit W st hn hlen S .none _ hS₂ fun h' tk acc' c' hk hS' hacc=>?_
  exact hR h' tk acc' c' (fun b o hb e=>hk b o hb (oth b o hb e)) hS' hacc
theorem call_list_rangeW {Q:Value->Shared->Prop}{r:Addr}{a b c:Int}{t u v:Tok}{n:Nat}(hh:A.handled=none)(hr:IsRange s.heap r a b c t u v)
    (hn:Builtin.Range.rangeSize a b c=n) (hlen:n<=2^24)
    (hQ:∀h' tk acc' c',(∀b o,s.heap.get? b=some o->h'.get? b=some o) ->
      h'.get? s.heap.objs.size=some { cls:=.type "list",dict:=none,data:=.seq acc' c',slots:=#[] }->ItemsOf (fun i v=>∃t,v=.int (a+i*c) t) acc' n->Q (.ref s.heap.objs.size) { s with heap:=h',toks:=tk }) :
    wpAny (model prog w) A (call (.type "list") [.ref r]) Q E s:=by
  cases hs:Builtin.Range.small a b c with
  | true=>exact call_list_range hh hr hs hn hlen hQ
  | false =>
    refine callType_codes (Q₁:=fun obj s₁=>obj=.ref s.heap.objs.size/\s₁={ s with heap:=s.heap.push { cls:=.type "list",data:=.seq #[] } }) F.called_list (F.typeCall_list_1 _) F.entry_list_init
      (code_list_new _ ⟨rfl,rfl⟩) fun obj s₁ h₁=>?_
    obtain⟨rfl,rfl⟩:=h₁
    have hS:(s.heap.push { cls:=.type "list",data:=.seq #[] }).get? s.heap.objs.size=some { cls:=.type "list",data:=.seq #[] }:=Heap.get?_push_size _ rfl
    refine⟨⟨_,hS,rfl⟩,F.args_list_init_2 _ _,list_init_rangeG (A:=A.in1) (Heap.get?_push_of_some _ hr) (fun s' hr'=>⟨_,_,fun E' Q' q=>wpAny_pyIter_longrange hr' hs q,Walks.longrange (A:=A.in1.in1) hh _ a c n,?_⟩) hn hlen _ hS fun h' tk acc' c' hk hS' hacc=>?_⟩
    · rw[hn]
      simpa using Heap.get?_push_size _ rfl
    · exact⟨rfl,hQ h' tk acc' c' (fun b o e=>hk b o (Nat.ne_of_lt (Heap.lt_size e)) (Heap.get?_push_of_some _ e)) hS' hacc⟩
end
end PySem

set_option maxHeartbeats 4000000
namespace L2
open PySem PySem.Spec PyProof.Rows
theorem big_of {n:Int}(h0:0<=n)(h1:n<=2^100): n.natAbs < 2^1000:=by
  have e:(2:Nat)^100 < 2^1000:=Nat.pow_lt_pow_right (by decide) (by decide)
  have e2:((2^100:Nat):Int)=2^100:=by decide
  omega
section
variable {X:Cx}{pins:List (Addr×Obj)}{σ:St}{H:Hp}{s:Shared}
def CShl (i j:Int): Prop:=0<=j/\j<=1000000/\i.natAbs < 2^1000
theorem op_shlW:OpR X (binaryOp .LShift) (rI CShl fun i j=>.int (i*2^j.toNat)):=opI fun i j _ _ _ _ _ hc q=>by
  refine lshift_int hc.1 ?_ q
  have hb:Builtin.Int.intBits i<=1000:=intBits_le_iff.mpr hc.2.2
  have:=hc.2.1
  omega
def runL (lo:Int)(n:Nat): List Int:=(List.range n).map fun i:Nat=>lo+(i:Int)
def tRange2 (ta:TA): TE:=fun σ H Q=>ta σ H fun vs H1=>∃i j:Int,vs=[.int i,.int j]/\∀p,H1 p=none->Q (.ref p) (upd H1 p (.rng i j))
theorem pe_range2 {a b:Expr} {ta:TA} {p pos:Pos} (hg:Gl X "range") (hm:X.mg "range" = none) (ha:PA X [a,b] ta) (hs:starEach [a,b] X.env=[(false,eval a X.env),(false,eval b X.env)]:=by rfl) (hs2:starEach [b] X.env=[(false,eval b X.env)]:=by rfl) :
    PE X (.Call (.Name "range" p) [a,b] [] pos) (tRange2 ta):=by
  intro pins s σ H Q I h
  refine Call_ (ld_blt I hg hm boot_range (PyProof.Rows.callWith_type1 (thn (ha pos pins s σ H _ I h) fun us s1 ⟨vs,H1,I1,r1,q1⟩=>?_) (by rw[hs,hs2]) (by rw[hs2];rfl)))
  obtain⟨i,j,e,q⟩:=q1
  subst e
  cases r1 with
  | cons r rr =>
    cases rr with
    | cons r' rr =>
      cases rr
      obtain⟨t,rfl⟩:=r
      obtain⟨t',rfl⟩:=r'
      refine call_range_2 ?_
      have I2:=I1.laid (t':=s1.toks+1) (a:=s1.heap.objs.size) (o:=.rng i j) (h':=s1.heap.push { cls:=.type "range",data:=.fields #[.int i t,.int j t',.int 1 s1.toks] }) (fun b o e=>Heap.get?_push_of_some _ e) (Nat.le_refl _) ⟨t,t',_,Heap.get?_push_size _ rfl⟩
      exact⟨.ref s1.heap.objs.size,_,I2,rfl,q _ (I1.hok.fresh (Nat.le_refl _))⟩
theorem vals_of_get:∀{xs:List V} {us:List Value},xs.length=us.length->(∀(i:Nat) (x:V) (u:Value),xs[i]?=some x->us[i]?=some u->RelV x u)->Vals xs us
  | [],[],_,_=>.nil
  | [],_::_,h,_=>by cases h
  | _::_,[],h,_=>by cases h
  | x::xs,u::us,h,k=>.cons (k 0 x u rfl rfl) (vals_of_get (Nat.succ.inj h) fun i y v e1 e2=>k (i+1) y v (by simpa using e1) (by simpa using e2))
theorem call_list_rng (hc:X.calm=true): CallR X (.type "list") (fun xs H Q=>∃(r:Addr) (lo hi:Int),xs=[.ref r]/\H r=some (.rng lo hi)/\hi-lo<=1000000/\∀l,H l=none->Q (.ref l) (upd H l (.lst ((runL lo (hi-lo).toNat).map V.int)))):=by
  intro pins s σ H xs us Q I r h
  obtain⟨q,lo,hi,rfl,hq,hb,k⟩:=h
  obtain⟨u,rfl,ru⟩:=vals1 r
  cases ru
  obtain⟨t,u,v,e⟩:=I.hok q _ hq
  refine call_list_rangeW (n:=(hi-lo).toNat) (I.ok.hd hc) e ?_ (by omega) fun h' tk acc c kp hS hacc=>?_
  · rw[rangeSize_one];split<;>omega
  · have I3:Inv X pins σ (upd H s.heap.objs.size (.lst ((runL lo (hi-lo).toNat).map V.int))) { s with heap:=h',toks:=tk }:=I.laid (t':=tk) kp (Nat.le_refl _)
      (show ObjOk X.prog X.w _ _ _ (.lst _) from ⟨by rw[List.length_map,runL,List.length_map,List.length_range,sizeLine_eq];omega,acc.toList,c,vals_of_get (by rw[List.length_map,runL,List.length_map,List.length_range,Array.length_toList,hacc.1]) (fun i x u e1 e2=>?_),by rw[Array.toArray_toList];exact hS⟩)
    · exact⟨.ref _,_,I3,rfl,k _ (I.hok.fresh (Nat.le_refl _))⟩
    · rw[Array.getElem?_toList] at e2
      obtain⟨t',rfl⟩:=hacc.2 i u e2
      unfold runL at e1
      rw[List.map_map,List.getElem?_map] at e1
      have hi':i < (hi-lo).toNat:=by rw[<-hacc.1];exact(Array.getElem?_eq_some_iff.mp e2).1
      rw[List.getElem?_range hi'] at e1
      cases e1
      exact⟨t',by rw[Int.mul_one]⟩
end
end L2

set_option maxHeartbeats 4000000
namespace PySem
namespace F
theorem no_reversed_tuple:typeLookup (.type "tuple") "__reversed__" = pure none:=by rw[typeLookup_type,builtinLookup_eq_fast];kernel_rfl
theorem owner_rev:Manifest.owners.lookup (String.ofList ['d', 'e', 's', 'r', 'e', 'v', 'e', 'r'].reverse)=some Manifest.sig_reversed:=by kernel_rfl
theorem slot_rev_next:Slot "reversed" "__next__" "reversed.__next__" :=
  .of (owner := "reversed") (n := "__next__") (by rw[typeLookup_type,builtinLookup_eq_fast];kernel_rfl) (by decide +kernel) (by decide +kernel) (by decide +kernel)
    (by first | exact .inl (by decide +kernel) | exact .inr (by decide +kernel)) (by rw[isSubtype_type];kernel_rfl)
theorem entry_rev_next:entryFor table "reversed.__next__" = some Builtin.«reversed.__next__» := entryFor_of_tree (by kernel_rfl)
theorem args_rev_next_1 (a:Value): argsOk "reversed.__next__" ⟨[a],[]⟩:=by
  unfold argsOk;rw[signature?_of (id := "reversed.__next__") (n:=['_', '_', 't', 'x', 'e', 'n', '_', '_']) (o:=['d', 'e', 's', 'r', 'e', 'v', 'e', 'r']) (by kernel_rfl) owner_rev];kernel_rfl
theorem slot_rev_iter:Slot "reversed" "__iter__" "reversed.__iter__" :=
  .of (owner := "reversed") (n := "__iter__") (by rw[typeLookup_type,builtinLookup_eq_fast];kernel_rfl) (by decide +kernel) (by decide +kernel) (by decide +kernel)
    (by first | exact .inl (by decide +kernel) | exact .inr (by decide +kernel)) (by rw[isSubtype_type];kernel_rfl)
theorem args_rev_iter_1 (a:Value): argsOk "reversed.__iter__" ⟨[a],[]⟩:=by
  unfold argsOk;rw[signature?_of (id := "reversed.__iter__") (n:=['_', '_', 'r', 'e', 't', 'i', '_', '_']) (o:=['d', 'e', 's', 'r', 'e', 'v', 'e', 'r']) (by kernel_rfl) owner_rev];kernel_rfl
theorem entry_rev_iter:entryFor table "reversed.__iter__" = some Builtin.«dict_keyiterator.__iter__» :=
  entryFor_alias (id' := "dict_keyiterator.__iter__") (by kernel_rfl) (by first | rfl | decide +kernel | (unfold String.splitOn;simp +decide [String.splitOnAux])) (by decide +kernel) (by kernel_rfl)
theorem slot_rev_init:Slot "reversed" "__init__" "object.__init__" :=
  .of (owner := "object") (n := "__init__") (by rw[typeLookup_type,builtinLookup_eq_fast];kernel_rfl) (by decide +kernel) (by decide +kernel) (by decide +kernel)
    (by first | exact .inl (by decide +kernel) | exact .inr (by decide +kernel)) (by rw[isSubtype_type];kernel_rfl)
theorem called_reversed:TypeCalled "reversed" "reversed.__new__" "object.__init__" :=
  ⟨by decide +kernel,by decide +kernel,⟨_,_,mro_reversed⟩,made_reversed,by decide +kernel,sub_reversed_self,slot_rev_init⟩
end F
section
variable {prog:Program}{w:World}{A:Around}{E:Value->Shared->Prop}{s:Shared}
open PyProof.Rows
def revObjT (l:Addr)(i:Int): Obj:={ cls:=.type "reversed",data:=.fields #[.ref l,rawInt i] }
def Heap.IsRevT (h:Heap)(a l:Addr)(i:Int): Prop:=∃o,h.get? a=some o/\o.cls=.type "reversed" ∧ o.data=.fields #[.ref l,rawInt i]
theorem Heap.IsRevT.typeIs {a l:Addr}{i:Int}(x:s.heap.IsRevT a l i): s.TypeIs (.ref a) "reversed" := let ⟨o,ho,hc,_⟩:=x;⟨o,ho,hc⟩
theorem Heap.IsRevT.at {h h':Heap}{a l:Addr}{i:Int}(x:h.IsRevT a l i)(e:∀o,h.get? a=some o->h'.get? a=some o): h'.IsRevT a l i:=let ⟨o,ho,r⟩:=x;⟨o,e _ ho,r⟩
theorem code_reversed_newT {l:Addr}{items:Array Value}{Q₁:Value->Shared->Prop}(hl:IsTup s.heap l items)(hfit:(items.size:Int) < 2^63)
    (h:∀tk,Q₁ (.ref s.heap.objs.size) { s with heap:=s.heap.push (revObjT l ((items.size:Int)-1)),toks:=tk }) :
    codeAny (model prog w) A (.call (.builtin "reversed.__new__") ⟨[.type "reversed",.ref l],[]⟩) (wants Q₁ E) s:=by
  have hT:s.TypeIs (.ref l) "tuple" := hl.typeIs
  refine codeAny_of_tree ?_
  show wpAny _ A.in1 (do checkBuiltinCall "reversed.__new__" ⟨[.type "reversed",.ref l],[]⟩;again (.builtin "reversed.__new__" ⟨[.type "reversed",.ref l],[]⟩)) _ _ s
  refine wpAny_bind (wpAny_of_eq (F.newCall_reversed_1 _) (wpAny_pure ⟨plainId_quiet F.plain_reversed_new _,codeAny_builtin F.entry_reversed_new ?_⟩))
  rw[Around.under_plainId F.plain_reversed_new _]
  unfold Builtin.«reversed.__new__»
  refine wpAny_bind (wpAny_of_eq (newClass_reversed _) ?_)
  try dsimp only
  refine wpAny_bind (wpAny_of_eq (a:=()) (by first | rfl | kernel_rfl) ?_)
  refine wpAny_bind (wpAny_of_eq (a:=()) (by first | rfl | kernel_rfl) ?_)
  try dsimp only
  refine wpAny_bind (wpAny_specialOf hT F.no_reversed_tuple ?_)
  try dsimp only
  refine wpAny_bind ?_
  refine wpAny_bind (m:=isInstance (.ref l) (.type "dict")) (wpAny_isInstance (T := "tuple") (b:=false) hT (by rw[isSubtype_type];kernel_rfl) ?_)
  rw[if_neg Bool.false_ne_true]
  refine wpAny_bind (m:=specialOf (.ref l) (Str.ofString "__getitem__")) (wpAny_specialOf hT F.slot_tuple_getitem.lookup ?_)
  show wpAny _ _ (if (["tuple.__getitem__", "str.__getitem__", "bytes.__getitem__", "bytearray.__getitem__", "memoryview.__getitem__", "numpy.ndarray.__getitem__", "sqlite3.Row.__getitem__"].contains "tuple.__getitem__")=true then pure true else _) _ _ _
  rw[if_pos (by decide +kernel)]
  refine wpAny_pure ?_
  rw[if_neg (by decide)]
  refine wpAny_bind (len_tuple hl hfit ?_)
  refine wpAny_bind (m:=asInt? _) (wpAny_pure ?_)
  dsimp only
  show wpAny _ _ (newObj (.type "reversed") (.fields [Value.ref l,rawInt ((items.size:Int)-1)].toArray) >>= _) _ _ _
  refine wpAny_bind (wpAny_newObj_type (wpAny_pure (h _)))
theorem call_reversed_tup {l:Addr}{items:Array Value}{Q:Value->Shared->Prop}(hl:IsTup s.heap l items)(hfit:(items.size:Int) < 2^63)
    (h:∀tk,Q (.ref s.heap.objs.size) { s with heap:=s.heap.push (revObjT l ((items.size:Int)-1)),toks:=tk }):wpAny (model prog w) A (call (.type "reversed") [.ref l]) Q E s:=by
  refine callType_codes (Q₁:=fun obj s₁=>s₁.TypeIs obj "reversed" ∧ Q obj s₁) F.called_reversed (F.typeCall_reversed_1 _) F.entry_object_init
    (code_reversed_newT hl hfit fun tk=>⟨⟨_,Heap.get?_push_size _ rfl,rfl⟩,h tk⟩) fun obj s₁ h₁=>?_
  exact⟨h₁.1,F.args_object_init_2 obj _,object_init_meets F.called_reversed.init.lookup F.called_reversed.made (by decide) prog w A.in1 _ s₁ ⟨h₁.1,rfl,h₁.2⟩⟩
theorem seqIx {i n:Nat}(h:i < n): seqIndex? (i:Int) n=some i:=by
  unfold seqIndex?
  have h1:¬(i:Int) < 0:=by omega
  have h2:((i:Int) < (n:Int)):=by omega
  simp only [h1,if_false]
  simp[h2]
theorem next_revT_item {it l:Addr}{i:Nat}{items:Array Value}{x:Value}{Q:Option Value->Shared->Prop}(hit:s.heap.IsRevT it l (i:Int))(hl:IsTup s.heap l items)(hx:items[i]?=some x)(hfit:(items.size:Int) < 2^63)
    (hQ:∀h' tk,h'.IsRevT it l ((i:Int)-1)->Heap.SameBut it s.heap h'->Q (some x) { s with heap:=h',toks:=tk }):wpAny (model prog w) A (pyNext (.ref it)) Q E s:=by
  obtain⟨o,ho,hc,hd⟩:=id hit
  have hT:s.TypeIs (.ref l) "tuple" := hl.typeIs
  unfold pyNext
  refine wpAny_bind (wpAny_attempt (wpAny_callSpecial?_slot (name:=Str.ofString "__next__") hit.typeIs F.slot_rev_next
    (wpAny_call_entry F.slot_rev_next hit.typeIs F.entry_rev_next ?_ (F.args_rev_next_1 _))))
  unfold Builtin.«reversed.__next__»
  refine wpAny_bind (wpAny_of_eq (a:=(Value.ref it,[])) rfl ?_)
  try dsimp only
  refine wpAny_bind (wpAny_field ho hd (x:=.ref l) rfl ?_)
  refine wpAny_bind (wpAny_field ho hd (x:=rawInt (i:Int)) rfl ?_)
  show wpAny _ _ (if (i:Int) < 0 then _ else _) _ _ s
  rw[if_neg (by omega)]
  refine wpAny_bind (wpAny_specialOf hT F.slot_tuple_getitem.lookup ?_)
  rw[if_neg (by decide)]
  refine wpAny_bind (wpAny_mkInt ?_)
  refine wpAny_bind (wpAny_attempt (getItem_tuple (j:=i) (s:={ s with toks:=s.toks+1 }) hl (by omega) (by have:=(Array.getElem?_eq_some_iff.mp hx).1;omega) (seqIx (Array.getElem?_eq_some_iff.mp hx).1) hx ?_))
  show wpAny _ _ (field (.ref it) 1 >>= _) _ _ _
  refine wpAny_bind (wpAny_field ho hd (x:=rawInt (i:Int)) rfl ?_)
  show wpAny _ _ (setField (.ref it) 1 (rawInt ((i:Int)-1)) >>= _) _ _ _
  refine wpAny_bind (wpAny_setField ho hd (by simp) ?_)
  refine wpAny_pure ⟨x,rfl,wpAny_pure (hQ _ _ ?_ (Heap.SameBut.update ..))⟩
  exact⟨_,Heap.get?_update_self _ ho (Obj.isFreed_of_fields (Obj.data_mapFields hd _)),(Obj.cls_mapFields ..).trans hc,by
    rw[Obj.data_mapFields hd];simp⟩
theorem next_revT_end {it l:Addr}{Q:Option Value->Shared->Prop}(hh:A.handled=none)(hit:s.heap.IsRevT it l (-1))
    (hQ:∀h',Heap.ExtBut it s.heap h'->Q none { s with heap:=h' }):wpAny (model prog w) A (pyNext (.ref it)) Q E s:=by
  obtain⟨o,ho,hc,hd⟩:=id hit
  unfold pyNext
  refine wpAny_bind (wpAny_attempt (wpAny_callSpecial?_slot (name:=Str.ofString "__next__") hit.typeIs F.slot_rev_next
    (wpAny_call_entry F.slot_rev_next hit.typeIs F.entry_rev_next ?_ (F.args_rev_next_1 _))))
  unfold Builtin.«reversed.__next__»
  refine wpAny_bind (wpAny_of_eq (a:=(Value.ref it,[])) rfl ?_)
  try dsimp only
  refine wpAny_bind (wpAny_field ho hd (x:=.ref l) rfl ?_)
  refine wpAny_bind (wpAny_field ho hd (x:=rawInt (-1)) rfl ?_)
  show wpAny _ _ (if (-1:Int) < 0 then _ else _) _ _ s
  rw[if_pos (by decide)]
  refine wpAny_bind (wpAny_rule ?_)
  refine wpAny_bind ?_
  refine wpAny_bind (m:=setField (.ref it) 1 (rawInt (-1))) (wpAny_setField ho hd (by simp) ?_)
  have d2:=Obj.data_mapFields hd (·.setIfInBounds 1 (rawInt (-1)))
  have e2:=Heap.get?_update_self (Obj.mapFields (·.setIfInBounds 1 (rawInt (-1)))) ho (Obj.isFreed_of_fields d2)
  refine wpAny_setField e2 d2 (by simp) ?_
  refine wpAny_bind ?_
  show wpAny _ _ (newExc (.type "StopIteration") [] >>= _) _ _ _
  refine wpAny_bind ?_
  simp only [newExc,newTuple]
  refine wpAny_bind (wpAny_newObj_type ?_ (by size_fits))
  refine wpAny_bind (m:=firstArgMember _ _) (wpAny_of_eq (a:=Value.none) (by first | rfl | (simp only [firstArgMember];rfl)) ?_)
  refine wpAny_newObj_type ?_ (by size_fits)
  simp only [raiseNew]
  refine wpAny_bind (wpAny_handled ?_)
  first | rw[show A.in1.handled=none from hh] | rw[hh]
  refine wpAny_bind (wpAny_pure (wpAny_throw ?_))
  refine wpAny_bind (wpAny_isInstance (T := "StopIteration") (b:=true) ⟨_,Heap.get?_push_size _ rfl,rfl⟩ isSubtype_stop ?_)
  refine wpAny_pure (hQ _ ?_)
  refine Heap.ExtBut.push (Heap.ExtBut.push (fun b o' hb e=>?_) _) _
  rw[Heap.get?_update_other _ _ (Ne.symm hb),Heap.get?_update_other _ _ (Ne.symm hb)]
  exact e
theorem iter_revT {it l:Addr}{i:Int}{Q:Value->Shared->Prop}(hit:s.heap.IsRevT it l i)(h:Q (.ref it) s): wpAny (model prog w) A (pyIter (.ref it)) Q E s:=by
  refine wpAny_pyIter_slot hit.typeIs F.slot_rev_iter (wpAny_call_entry F.slot_rev_iter hit.typeIs F.entry_rev_iter ?_ (F.args_rev_iter_1 _))
  show wpAny _ _ (ret (.ref it)) _ _ s
  exact wpAny_pure ⟨_,rfl, "reversed",_,hit.typeIs,F.slot_rev_next.lookup,h⟩
end
namespace F
theorem nolen_lri:typeLookup (.type "list_reverseiterator") "__len__" = pure none:=by rw[typeLookup_type,builtinLookup_eq_fast];kernel_rfl
theorem hint_lri:typeLookup (.type "list_reverseiterator") "__length_hint__" = pure (some (.builtin "list_reverseiterator.__length_hint__")):=by rw[typeLookup_type,builtinLookup_eq_fast];kernel_rfl
end F
section
open Sem (wp)
variable {prog:Program}{w:World}{A:Around}{s:Shared}{R:Result->Shared->Prop}
variable {I:Addr}{fp wr:List Addr}{G:Array GenState->Array GenState->Prop}{n:Nat}{P:Nat->Value->Prop}{St:Nat->Shared->Prop}
end
section
variable {prog:Program}{w:World}{A:Around}{E:Value->Shared->Prop}{s:Shared}
variable {I:Addr}{fp wr:List Addr}{G:Array GenState->Array GenState->Prop}{n:Nat}{P:Nat->Value->Prop}{St:Nat->Shared->Prop}
theorem collect_rev {Q:List Value->Shared->Prop} (W:WalksS prog w A.in1 I fp wr G n P St) (hT:∀i s,St i s->s.TypeIs (.ref I) "list_reverseiterator") (hst:St 0 s) (hfp:∀b∈fp,b < s.heap.objs.size) (hI:I∈fp)
    (hQ:∀s' acc,Moved wr G s s'->ItemsOf P acc n->Q acc.toList s') (hn:n<=sizeLine):wpAny (model prog w) A (collect (.ref I)) Q E s:=by
  have hSf:s.heap.objs.size∉fp:=fun hm=>Nat.lt_irrefl _ (hfp _ hm)
  unfold collect
  refine wpAny_bind (wpAny_runValue (codeAny_builtin F.entry_proto_collect ?_))
  rw[Around.under_plainId F.plain_proto_collect _]
  show wpAny _ A.in1 (newList [] >>= fun l=>again (.builtin "list.__iadd__" ⟨[l,.ref I],[]⟩)) _ _ s
  refine wpAny_bind (wpAny_newObj_type ?_)
  refine wpAny_pure ⟨plainId_quiet F.plain_list_iadd _,codeAny_builtin F.entry_list_iadd ?_⟩
  rw[Around.under_plainId F.plain_list_iadd _]
  have hst₁:=W.frame 0 s (s.heap.push { cls:=.type "list",data:=.seq ([]:List Value).toArray }) s.toks hst (Nat.le_refl _) fun b _ o e=>Heap.get?_push_of_some _ e
  have hS₁:(s.heap.push { cls:=.type "list",data:=.seq ([]:List Value).toArray }).get? s.heap.objs.size=some { cls:=.type "list",data:=.seq ([]:List Value).toArray }:=Heap.get?_push_size _ rfl
  show wpAny _ A.in1 (Builtin.List.listExtendWith (.ref s.heap.objs.size) (.ref I) (.ref s.heap.objs.size)) _ _ _
  have hSI:s.heap.objs.size≠I:=fun e=>hSf (e ▸ hI)
  have h1:Builtin.List.listSameRef (.ref s.heap.objs.size) (.ref I)=false:=by simp[Builtin.List.listSameRef,hSI]
  unfold Builtin.List.listExtendWith
  refine wpAny_bind (wpAny_typeOf (hT 0 _ hst₁) ?_)
  rw[if_neg (by rw[h1];decide)]
  refine wpAny_bind (W.self 0 _ _ _ hst₁ ?_)
  refine wpAny_bind (wpAny_holding ?_)
  unfold Builtin.List.listLengthHint
  refine wpAny_bind (wpAny_specialOf (hT 0 _ hst₁) F.nolen_lri ?_)
  show wpAny _ A.in1 (specialOf (Value.ref I) (Str.ofString "__length_hint__") >>= _) _ _ _
  refine wpAny_bind (wpAny_specialOf (hT 0 _ hst₁) F.hint_lri ?_)
  generalize hid:("list_reverseiterator.__length_hint__" : String)=id0
  wp_delta
  rw[show splitId id0=some ("list_reverseiterator", "__length_hint__") from by subst hid;decide +kernel]
  subst hid
  refine wpAny_bind (wpAny_isInstance (b:=true) (hT 0 _ hst₁) (by rw[isSubtype_type];kernel_rfl) ?_)
  refine wpAny_pure ?_
  rw[if_neg (by decide)]
  refine wpAny_pure ⟨plainId_quiet F.plain_extend_loop _,codeAny_extend_loopS W hn _ hSf _ n 0 _ _ _ rfl (Nat.zero_le _) hst₁ hS₁ (ItemsOf.nil P) fun s' acc' c' hm hS' hacc=>?_⟩
  show wpAny _ A (load s.heap.objs.size >>= _) _ _ s'
  refine wpAny_bind (wpAny_load hS' ?_)
  exact wpAny_pure (hQ s' acc' (Moved.drop_new (o:={ cls:=.type "list",data:=.seq ([]:List Value).toArray }) (tk:=s.toks) hm (Nat.le_refl _)) hacc)
theorem code_tuple_new_rev {Q₁:Value->Shared->Prop} (W:WalksS prog w A.in1.in1 I fp wr G n P St) (hT:∀i s,St i s->s.TypeIs (.ref I) "list_reverseiterator") (hst:St 0 s) (hfp:∀b∈fp,b < s.heap.objs.size) (hI:I∈fp)
    (h:∀s' acc,Moved wr G s s'->ItemsOf P acc n->Q₁ (.ref s'.heap.objs.size) { s' with heap:=s'.heap.push { cls:=.type "tuple",data:=.seq acc } }) (hsz:n<=sizeLine) :
    codeAny (model prog w) A (.call (.builtin "tuple.__new__") ⟨[.type "tuple",.ref I],[]⟩) (wants Q₁ E) s:=by
  refine codeAny_of_tree ?_
  show wpAny _ A.in1 (do checkBuiltinCall "tuple.__new__" ⟨[.type "tuple",.ref I],[]⟩;again (.builtin "tuple.__new__" ⟨[.type "tuple",.ref I],[]⟩)) _ _ s
  refine wpAny_bind (wpAny_of_eq (F.newCall_tuple_1 _) (wpAny_pure ⟨plainId_quiet F.plain_tuple_new _,codeAny_builtin F.entry_tuple_new ?_⟩))
  rw[Around.under_plainId F.plain_tuple_new _]
  have hsub:=sub_tuple_self
  have hinit:=init_tuple_lookup
  have hmh:=madeHere_tuple
  have hTI:=hT 0 s hst
  wp_walk using wpAny_typeOf hTI,collect_rev (hn:=hsz) W hT hst hfp hI
  intro s' acc hm hacc
  show wpAny _ _ (Builtin.Tuple.tupleExact acc.toList.toArray >>= fun v=>ret v) _ _ _
  unfold Builtin.Tuple.tupleExact
  refine wpAny_bind (wpAny_newObj_type ?_ (by show acc.toList.toArray.size<=sizeLine;simp only [Array.toArray_toList];rw[hacc.1];exact hsz))
  refine wpAny_pure ?_
  have e:acc.toList.toArray=acc:=by simp
  rw[e]
  exact h s' acc hm hacc
theorem call_tuple_rev {Q:Value->Shared->Prop} (W:WalksS prog w A.in1.in1.in1 I fp wr G n P St) (hT:∀i s,St i s->s.TypeIs (.ref I) "list_reverseiterator") (hst:St 0 s) (hfp:∀b∈fp,b < s.heap.objs.size) (hI:I∈fp)
    (hQ:∀s' acc,Moved wr G s s'->ItemsOf P acc n->Q (.ref s'.heap.objs.size) { s' with heap:=s'.heap.push { cls:=.type "tuple",data:=.seq acc } }) (hsz:n<=sizeLine) :
    wpAny (model prog w) A (call (.type "tuple") [.ref I]) Q E s:=by
  refine callType_codes (Q₁:=fun obj s₁=>s₁.TypeIs obj "tuple" ∧ Q obj s₁) F.called_tuple (F.typeCall_tuple_1 _) F.entry_object_init
    (code_tuple_new_rev W hT hst hfp hI (fun s' acc hm hacc=>⟨⟨_,Heap.get?_push_size _ rfl,rfl⟩,hQ s' acc hm hacc⟩) hsz) fun obj s₁ h₁=>?_
  exact⟨h₁.1,F.args_object_init_2 obj _,object_init_meets F.called_tuple.init.lookup F.called_tuple.made (by decide) prog w A.in1 _ s₁ ⟨h₁.1,rfl,h₁.2⟩⟩
end
end PySem

set_option maxHeartbeats 4000000
namespace L2
open PySem PySem.Spec PyProof.Rows
def Ittr (K:PySem.W.Frag)(a:Addr)(n:Nat): It :=
  ⟨fun i H=>i < n/\∃xs,SqT K H a xs/\xs.length=n,fun i H x H'=>H'=H/\∀xs,SqT K H a xs->xs[n-1-i]?=some x,fun i _=>i=n⟩
theorem turn_tupRev {P:Program}{w:World}{K:PySem.W.Frag}{tg:Expr}(a it:Addr)(n:Nat): Turn P w K tg (Ittr K a n) [it] it (fun i h=>h.IsRevT it a ((n:Int)-1-(i:Int))) where
  mem:=by simp
  obj:=fun i h st b hb=>by
    have e:b=it:=by simpa using hb
    subst e
    obtain⟨o,e,c,d⟩:=st
    exact⟨o,e,fun v z=>by rw[d] at z;cases z⟩
  keep:=fun i h h' st k=>st.at fun o e=>k it (by simp) o e
  item:=by
    intro X hP hw hK hc i pins s σ H E I hf st hg
    subst hP hw hK
    obtain⟨hi,xs,hq,hl⟩:=hg
    obtain⟨its,rv,p,hz⟩:=I.tuple hq
    have hx:xs[n-1-i]?=some (xs[n-1-i]'(by omega)):=List.getElem?_eq_getElem (by omega)
    obtain⟨u,hu,ru⟩:=rv.get hx
    obtain⟨f0,f1,f2,f3,f4,f5⟩:=hf it (by simp)
    have e1:(n:Int)-1-(i:Int)=((n-1-i:Nat):Int):=by omega
    rw[e1] at st
    have hlen:=rv.length
    refine next_revT_item st p (x:=u) (by simpa using hu) (by rw[sizeLine_eq] at hz;simp only [List.size_toArray];omega) fun h' tk st' sb=>?_
    have e2:((n-1-i:Nat):Int)-1=(n:Int)-1-((i+1:Nat):Int):=by omega
    rw[e2] at st'
    have I1:Inv X pins σ H { s with heap:=h',toks:=tk }:=I.turned (t':=tk) (fun b o hb e=>(sb.2 b hb).trans e) f0 f1 f3 f4 f5
    obtain⟨o,e,c,d⟩:=id st'
    exact⟨u,rfl,go_of (s:={ s with heap:=h',toks:=tk }) e c d (by decide) ⟨_,H,I1,ru,⟨rfl,fun ys hy=>by rw[I.tuple_inj hy hq];exact hx⟩,st',fun b hb=>(hf b hb).1⟩⟩
  done:=by
    intro X hP hw hK hc i pins s σ H E I hf st hg
    subst hP hw hK
    have hg:i=n:=hg
    subst hg
    obtain⟨f0,f1,f2,f3,f4,f5⟩:=hf it (by simp)
    have e1:(i:Int)-1-(i:Int)=-1:=by omega
    rw[e1] at st
    exact next_revT_end (I.ok.hd hc) st fun h' eb=>⟨rfl,I.turned (t':=s.toks) (fun b o hb e=>eb b o hb e) f0 f1 f3 f4 f5⟩
  self:=fun _ _ _ _ _ st h=>iter_revT st h
theorem for_revT {K:PySem.W.Frag}{a:Addr}{xs:List V}{g:TG}{tb:TS}{D:Ends}{σ:St}{H:Hp}(Pv:Nat->St->Hp->Prop)(h0:Pv 0 σ H)(hl:∀i σ H,i<=xs.length->Pv i σ H->SqT K H a xs)
    (hs:∀i x σ H,xs.reverse[i]?=some x->Pv i σ H->g x σ H fun σ2 H2=>tb { D with nx:=Pv (i+1),ct:=Pv (i+1),bk:=D.nx } σ2 H2) (hd:∀σ H,Pv xs.length σ H->D.nx σ H) :
    ∃W:Nat->Nat->St->Hp->Prop,(∃m,W 0 m σ H)/\∀i m σ H,W i m σ H ->
      ((Ittr K a xs.length).stop i H/\D.nx σ H)\/((Ittr K a xs.length).go i H/\∃N:St->Hp->Prop,(∀σ' H',N σ' H'->∃m',m' < m/\W (i+1) m' σ' H')/\∀x H',(Ittr K a xs.length).yld i H x H'->g x σ H' fun σ2 H2=>tb { D with nx:=N,ct:=N,bk:=D.nx } σ2 H2):=by
  refine⟨fun i m σ H=>m=xs.length-i/\i<=xs.length/\Pv i σ H,⟨xs.length,by simp,Nat.zero_le _,h0⟩,?_⟩
  rintro i m σ H ⟨rfl,hi,p⟩
  have q:=hl i σ H hi p
  by_cases hlt:i < xs.length
  · refine .inr ⟨⟨hlt,xs,q,rfl⟩,Pv (i+1),fun σ' H' p'=>⟨xs.length-(i+1),by omega,rfl,hlt,p'⟩,fun x H' y=>?_⟩
    obtain⟨e,y⟩:=y
    subst e
    exact hs i x σ _ (by rw[List.getElem?_reverse hlt];exact y xs q) p
  · have e:i=xs.length:=by omega
    subst e
    exact .inl ⟨rfl,hd σ H p⟩
section
variable {X:Cx}{tg l:Expr}{tl:TE}{p pos:Pos}
def iRevT (K:PySem.W.Frag)(tl:TE): TI:=fun σ H R=>tl σ H fun x H1=>∃a xs,x=.ref a/\SqT K H1 a xs/\R (Ittr K a xs.length) H1
theorem pi_revT (hg:Gl X "reversed") (hm:X.mg "reversed" = none) (hl:PE X l tl) (hs:starEach [l] X.env=[(false,eval l X.env)]:=by rfl):PI X tg (.Call (.Name "reversed" p) [l] [] pos) (iRevT X.K tl):=by
  intro pins s σ H R I h
  refine Call_ (ld_blt I hg hm PyProof.Rows.Boot.«reversed» (PyProof.Rows.callWith_type1 (thn (pa_cons hl pa_nil hs pos pins s σ H (fun vs H1=>match vs with | [x]=>∃a xs,x=.ref a/\SqT X.K H1 a xs/\R (Ittr X.K a xs.length) H1 | _=>False) I h) fun us s1 ⟨vs,H1,I1,r1,q1⟩=>?_) hs rfl))
  match vs,q1 with
  | [x],q1 =>
    obtain⟨a,xs,rfl,hq,q⟩:=q1
    obtain⟨u,rfl,ru⟩:=vals1 r1
    cases ru
    obtain⟨its,rv,pl,hz⟩:=I1.tuple hq
    have hlen:=rv.length
    refine call_reversed_tup pl (by rw[sizeLine_eq] at hz;simp only [List.size_toArray];omega) fun tk=>?_
    have it0:(s1.heap.push (revObjT a ((its.toArray.size:Int)-1))).IsRevT s1.heap.objs.size a ((xs.length:Int)-1-((0:Nat):Int)):=⟨_,Heap.get?_push_size _ rfl,rfl,by
      show Data.fields #[.ref a,rawInt ((its.toArray.size:Int)-1)]=_
      rw[List.size_toArray,<-hlen]
      simp⟩
    refine iter_revT (s:={ s1 with heap:=s1.heap.push (revObjT a ((its.toArray.size:Int)-1)),toks:=tk }) it0 ?_
    refine⟨s1.heap.objs.size,[s1.heap.objs.size],_,_,H1,rfl,I1.kept (t':=tk) fun b o e=>Heap.get?_push_of_some _ e,turn_tupRev a _ xs.length,it0,fun b hb=>?_,q⟩
    have e:b=s1.heap.objs.size:=by simpa using hb
    subst e
    exact I1.fpOk (Nat.le_refl _) (I1.hok.fresh (Nat.le_refl _))
def tTupRev (K:PySem.W.Frag)(tl:TE): TE:=fun σ H Q=>tl σ H fun x H1=>∃a xs,x=.ref a/\SqL K H1 a xs/\∀t,H1 t=none->Q (.ref t) (upd H1 t (.tup xs.reverse))
theorem vals_rev:∀{xs:List V} {us:List Value},Vals xs us->Vals xs.reverse us.reverse
  | [],_,r=>by cases r;exact .nil
  | x::xs,_,r=>by
    cases r with
    | cons r1 r2 =>
      rw[List.reverse_cons,List.reverse_cons]
      exact(vals_rev r2).append (.cons r1 .nil)
theorem rev_items {xs:List V}{its:List Value}(rv:Vals xs its){acc:Array Value}(h:ItemsOf (fun i v=>its.toArray[its.toArray.size-1-i]?=some v) acc its.toArray.size): Vals xs.reverse acc.toList:=by
  have e:acc.toList=its.reverse:=by
    refine List.ext_getElem? fun i=>?_
    by_cases hi:i < its.length
    · have hs:acc.size=its.toArray.size:=h.1
      have hi':i < acc.size:=by rw[hs];simpa using hi
      have:=h.2 i acc[i] (by simp[hi'])
      rw[Array.getElem?_toList,Array.getElem?_eq_getElem hi',List.getElem?_reverse hi]
      simp only [List.size_toArray,List.getElem?_toArray] at this
      exact this.symm
    · have hs:acc.size=its.toArray.size:=h.1
      have:acc.toList.length<=i:=by rw[Array.length_toList,hs];simpa using hi
      rw[List.getElem?_eq_none this,List.getElem?_eq_none (by simpa using hi)]
  rw[e]
  exact vals_rev rv
theorem rev_val {pins:List (Addr×Obj)} {σ:St} {H:Hp} {s:Shared} {Q:VK} {p2 pos2:Pos} {mk:List V->HO} (hg:Gl X "reversed") (hm:X.mg "reversed" = none) (hl:PE X l tl) (hs:starEach [l] X.env=[(false,eval l X.env)]) (I:Inv X pins σ H s)
    (h:tl σ H fun x H1=>∃a xs,x=.ref a/\SqL X.K H1 a xs/\∀t,H1 t=none->Q (.ref t) (upd H1 t (mk xs.reverse))) {R:Value->Shared->Prop}
    (hR:∀(s1:Shared) (H1:Hp) (a:Addr) (xs:List V) (its:List Value),Inv X pins σ H1 s1->Vals xs its->PlainL s1.heap a its.toArray->xs.length<=sizeLine->(∀t,H1 t=none->Q (.ref t) (upd H1 t (mk xs.reverse))) ->
      R (.ref s1.heap.objs.size) { s1 with heap:=s1.heap.push (revObj a ((its.toArray.size:Int)-1)) }) :
    wpAny (model X.prog X.w) X.A (eval (.Call (.Name "reversed" p2) [l] [] pos2) X.env) R X.xe s:=by
  refine Call_ (ld_blt I hg hm PyProof.Rows.Boot.«reversed» (PyProof.Rows.callWith_type1 (thn (pa_cons hl pa_nil hs pos2 pins s σ H (fun vs H1=>match vs with | [x]=>∃a xs,x=.ref a/\SqL X.K H1 a xs/\∀t,H1 t=none->Q (.ref t) (upd H1 t (mk xs.reverse)) | _=>False) I h) fun us s1 ⟨vs,H1,I1,r1,q1⟩=>?_) hs rfl))
  match vs,q1 with
  | [x],q1 =>
    obtain⟨a,xs,rfl,hq,q⟩:=q1
    obtain⟨u,rfl,ru⟩:=vals1 r1
    cases ru
    obtain⟨its,rv,pl,hz⟩:=I1.list hq
    exact call_reversed_list pl.isList (hR s1 H1 a xs its I1 rv pl hz q)
theorem pe_tuple_rev {p2 pos2:Pos} (hc:X.calm=true) (hg1:Gl X "tuple") (hm1:X.mg "tuple" = none) (hg:Gl X "reversed") (hm:X.mg "reversed" = none) (hl:PE X l tl) (hs:starEach [l] X.env=[(false,eval l X.env)]:=by rfl)
    (hs2:starEach [.Call (.Name "reversed" p2) [l] [] pos2] X.env=[(false,eval (.Call (.Name "reversed" p2) [l] [] pos2) X.env)]:=by rfl) :
    PE X (.Call (.Name "tuple" p) [.Call (.Name "reversed" p2) [l] [] pos2] [] pos) (tTupRev X.K tl):=by
  intro pins s σ H Q I h
  refine Call_ (ld_blt I hg1 hm1 PyProof.Rows.Boot.«tuple» (PyProof.Rows.callWith_type1 ?_ hs2 rfl))
  rw[hs2]
  show wpAny _ _ (spliced ((false,eval (.Call (.Name "reversed" p2) [l] [] pos2) X.env)::backTo pos [])) _ _ s
  refine Calls.spliced_cons (rev_val (mk:=.tup) hg hm hl hs I h fun s1 H1 a xs its I1 rv pl hz q=>Calls.spliced_nil ?_)
  have hlen:=rv.length
  have hlt:a < s1.heap.objs.size:=by obtain⟨_,e,_⟩:=id pl.isList;exact Heap.lt_size e
  have fp:=I1.fpOk (H':=H1) (Nat.le_refl _) (I1.hok.fresh (Nat.le_refl _))
  obtain⟨f0,f1,f2,f3,f4,f5⟩:=fp
  have I2:Inv X pins σ H1 { s1 with heap:=s1.heap.push (revObj a ((its.toArray.size:Int)-1)) }:=I1.kept (t':=s1.toks) fun b o e=>Heap.get?_push_of_some _ e
  have hsz:(s1.heap.push (revObj a ((its.toArray.size:Int)-1))).objs.size=s1.heap.objs.size+1:=Array.size_push _
  refine call_tuple_rev (Walks.listRev (A:=X.A.in1.in1.in1) (I1.ok.hd hc) s1.heap.objs.size a (Nat.ne_of_lt hlt) its.toArray).toS (fun i s st=>st.2.1.typeIs) ⟨Nat.zero_le _,⟨_,Heap.get?_push_size _ rfl,rfl,by simp[revObj]⟩,pl.isList.push _⟩ (fun b hb=>?_) (by simp) (fun s' acc hm hacc=>?_) (by rw[List.size_toArray,<-hlen];exact hz)
  · rcases List.mem_cons.mp hb with e | hb
    · rw[e,hsz];exact Nat.lt_succ_self _
    · rw[List.mem_singleton.mp hb,hsz];exact Nat.lt_succ_of_lt hlt
  · rw[Moved.eq_with hm]
    have kp:∀b o,b≠s1.heap.objs.size->(s1.heap.push (revObj a ((its.toArray.size:Int)-1))).get? b=some o->s'.heap.get? b=some o:=fun b o nb e=>hm.heap b o (fun z=>nb (List.mem_singleton.mp z)) e
    have I3:Inv X pins σ H1 { s1 with heap:=s'.heap,toks:=s'.toks }:=I2.turned (t':=s'.toks) kp f0 f1 f3 f4 f5
    have I4:Inv X pins σ (upd H1 s'.heap.objs.size (.tup xs.reverse)) { s1 with heap:=s'.heap.push { cls:=.type "tuple",data:=.seq acc },toks:=s'.toks }:=I3.laid (t':=s'.toks) (fun b o e=>Heap.get?_push_of_some _ e) (Nat.le_refl _)
      (show ObjOk X.prog X.w _ _ _ (.tup xs.reverse) from ⟨by rw[List.length_reverse];exact hz,acc.toList,rev_items rv hacc,by rw[Array.toArray_toList];exact IsTup.new _ _⟩)
    exact⟨.ref _,_,I4,rfl,q _ (I3.hok.fresh (Nat.le_refl _))⟩
end
end L2

set_option maxHeartbeats 4000000
namespace L2
open PySem PySem.Spec PyProof.Rows
end L2

set_option maxHeartbeats 4000000
namespace L2
open PySem PySem.Spec PyProof.Rows
def Itd (lo:Int)(n:Nat): It:=⟨fun i _=>i < n,fun i H x H'=>x=.int (lo-(i:Int))/\H'=H,fun i _=>n<=i⟩
theorem turn_down {P:Program}{w:World}{K:PySem.W.Frag}{tg:Expr}(it:Addr)(lo:Int)(n:Nat): Turn P w K tg (Itd lo n) [it] it (fun i h=>IsRangeIter h it (lo+(i:Nat)*(-1)) ((n:Int)-(i:Nat)) (-1)) where
  mem:=by simp
  obj:=fun i h st b hb=>by
    have e:b=it:=by simpa using hb
    subst e
    exact⟨_,st,fun v z=>by
      have z':Data.fields _=Data.cell v:=z
      cases z'⟩
  keep:=fun i h h' st k=>k it (by simp) _ st
  item:=by
    intro X hP hw hK hc i pins s σ H E I hf st hg
    subst hP hw hK
    obtain⟨f0,f1,f2,f3,f4,f5⟩:=hf it (by simp)
    have W:=Walks.range (prog:=X.prog) (w:=X.w) (I.ok.hd hc) it lo (-1) n
    refine W.item i s _ _ hg st fun v h' tk hv st' kk=>?_
    obtain⟨t,rfl⟩:=hv
    have I1:Inv X pins σ H { s with heap:=h',toks:=tk }:=I.turned (fun b o hb e=>kk b o (by simpa using hb) e) f0 f1 f3 f4 f5
    refine⟨_,rfl,go_of (s:={ s with heap:=h',toks:=tk }) (n := "range_iterator") st' rfl rfl (by decide) ⟨.int (lo-i),H,I1,⟨t,?_⟩,⟨rfl,rfl⟩,st',fun b hb=>(hf b hb).1⟩⟩
    rw[Int.mul_neg,Int.mul_one,<-Int.sub_eq_add_neg]
  done:=by
    intro X hP hw hK hc i pins s σ H E I hf st hg
    subst hP hw hK
    obtain⟨f0,f1,f2,f3,f4,f5⟩:=hf it (by simp)
    exact wpAny_pyNext_range_end (I.ok.hd hc) st (by have:n<=i:=hg;omega) fun h' eb=>⟨rfl,I.turned (t':=s.toks) (fun b o hb e=>eb b o hb e) f0 f1 f3 f4 f5⟩
  self:=fun _ _ _ _ _ st h=>wpAny_pyIter_rangeiter st h
theorem size_down (lo hi:Int): Builtin.Range.rangeSize lo hi (-1)=(((lo-hi).toNat:Nat):Int):=by
  unfold Builtin.Range.rangeSize
  have:(-(-1:Int))=1:=rfl
  rw[if_neg (by decide),this,Int.ediv_one]
  split<;>omega
section
variable {X:Cx}{tg:Expr}
theorem small_down {lo hi:Int}(h1:-(2^60)<=lo)(h2:lo < 2^60)(h3:-(2^60)<=hi)(h4:hi < 2^60): Builtin.Range.small lo hi (-1)=true:=by
  unfold Builtin.Range.small
  rw[size_down]
  unfold Builtin.Range.rangeFitsLong
  simp
  omega
theorem range_down {pins:List (Addr×Obj)}{σ:St}{H:Hp}{s:Shared}{R:It->Hp->Prop}{E:Value->Shared->Prop}{lo hi:Int}{t u v:Tok}{tk:Nat}(I:Inv X pins σ H s)(h1:-(2^60)<=lo)(h2:lo < 2^60)(h3:-(2^60)<=hi)(h4:hi < 2^60)
    (q:R (Itd lo (lo-hi).toNat) H):wpAny (model X.prog X.w) X.A (pyIter (.ref s.heap.objs.size)) (PIE X pins σ tg R) E { s with heap:=s.heap.push { cls:=.type "range",data:=.fields #[.int lo t,.int hi u,.int (-1) v] },toks:=tk }:=by
  refine wpAny_pyIter_range (IsRange.new ..) (small_down h1 h2 h3 h4) ?_
  have I1:Inv X pins σ H { s with heap:=s.heap.push { cls:=.type "range",data:=.fields #[.int lo t,.int hi u,.int (-1) v] },toks:=tk }:=I.kept fun b o e=>Heap.get?_push_of_some _ e
  refine⟨(s.heap.push { cls:=.type "range",data:=.fields #[.int lo t,.int hi u,.int (-1) v] }).objs.size,[(s.heap.push { cls:=.type "range",data:=.fields #[.int lo t,.int hi u,.int (-1) v] }).objs.size],_,_,H,rfl,
    I1.kept (t':=tk) fun b o e=>Heap.get?_push_of_some _ e,turn_down _ lo (lo-hi).toNat,?_,fun b hb=>?_,q⟩
  · have e1:lo+((0:Nat):Int)*(-1)=lo:=by simp
    have e2:(((lo-hi).toNat:Nat):Int)-((0:Nat):Int)=Builtin.Range.rangeSize lo hi (-1):=by rw[size_down];omega
    show IsRangeIter _ _ (lo+((0:Nat):Int)*(-1)) ((((lo-hi).toNat:Nat):Int)-((0:Nat):Int)) (-1)
    rw[e1,e2]
    exact Heap.get?_push_size _ rfl
  · have e:b=(s.heap.push { cls:=.type "range",data:=.fields #[.int lo t,.int hi u,.int (-1) v] }).objs.size:=by simpa using hb
    subst e
    exact I1.fpOk (Nat.le_refl _) (I1.hok.fresh (Nat.le_refl _))
def iRngD (ta:TA): TI:=fun σ H R=>ta σ H fun vs H1=>∃i j:Int,vs=[.int i,.int j,.int (-1)]/\(-(2^60)<=i/\i < 2^60/\-(2^60)<=j/\j < 2^60)/\R (Itd i (i-j).toNat) H1
theorem pi_range3 {a b c:Expr} {ta:TA} {p pos:Pos} (hg:Gl X "range") (hm:X.mg "range" = none) (ha:PA X [a,b,c] ta) (hs:starEach [a,b,c] X.env=[(false,eval a X.env),(false,eval b X.env),(false,eval c X.env)]:=by rfl) (hs2:starEach [b,c] X.env=[(false,eval b X.env),(false,eval c X.env)]:=by rfl) :
    PI X tg (.Call (.Name "range" p) [a,b,c] [] pos) (iRngD ta):=by
  intro pins s σ H R I h
  refine Call_ (ld_blt I hg hm boot_range (PyProof.Rows.callWith_type1 (thn (ha pos pins s σ H _ I h) fun us s1 ⟨vs,H1,I1,r1,q1⟩=>?_) (by rw[hs,hs2]) (by rw[hs2];rfl)))
  obtain⟨i,j,e,⟨q1,q2,q3,q4⟩,q⟩:=q1
  subst e
  cases r1 with
  | cons r rr =>
    cases rr with
    | cons r' rr =>
      cases rr with
      | cons r'' rr =>
        cases rr
        obtain⟨t,rfl⟩:=r
        obtain⟨t',rfl⟩:=r'
        obtain⟨t'',rfl⟩:=r''
        exact call_range_3 (by decide) (range_down I1 q1 q2 q3 q4 q) (.inl (by unfold Builtin.divisionGoesByPylong;rfl))
end
theorem for_down {lo:Int}{n:Nat}{g:TG}{tb:TS}{D:Ends}{σ:St}{H:Hp}(Pv:Nat->St->Hp->Prop)(h0:Pv 0 σ H)
    (hs:∀i σ H,i < n->Pv i σ H->g (.int (lo-(i:Int))) σ H fun σ2 H2=>tb { D with nx:=Pv (i+1),ct:=Pv (i+1),bk:=D.nx } σ2 H2) (hd:∀σ H,Pv n σ H->D.nx σ H) :
    ∃W:Nat->Nat->St->Hp->Prop,(∃m,W 0 m σ H)/\∀i m σ H,W i m σ H ->
      ((Itd lo n).stop i H/\D.nx σ H)\/((Itd lo n).go i H/\∃N:St->Hp->Prop,(∀σ' H',N σ' H'->∃m',m' < m/\W (i+1) m' σ' H')/\∀x H',(Itd lo n).yld i H x H'->g x σ H' fun σ2 H2=>tb { D with nx:=N,ct:=N,bk:=D.nx } σ2 H2):=by
  refine⟨fun i m σ H=>m=n-i/\i<=n/\Pv i σ H,⟨n,by simp,Nat.zero_le _,h0⟩,?_⟩
  rintro i m σ H ⟨rfl,hi,p⟩
  by_cases hlt:i < n
  · refine .inr ⟨hlt,Pv (i+1),fun σ' H' p'=>⟨n-(i+1),by omega,rfl,hlt,p'⟩,fun x H' y=>?_⟩
    obtain⟨rfl,rfl⟩:=y
    exact hs i σ _ hlt p
  · have e:i=n:=by omega
    subst e
    exact .inl ⟨Nat.le_refl _,hd σ H p⟩
end L2

set_option maxHeartbeats 4000000
namespace L2
open PySem PySem.Spec PyProof.Rows
section
variable {X:Cx}{pins:List (Addr×Obj)}{σ:St}{H:Hp}{s:Shared}{a:Addr}
end
end L2

set_option maxHeartbeats 4000000
namespace L2
open PySem PySem.Spec PyProof.Rows
section
variable {X:Cx}
end
end L2

set_option maxHeartbeats 4000000
namespace L2
open PySem PySem.Spec PyProof.Rows
section
variable {X:Cx}{tg:Expr}
end
end L2


set_option maxHeartbeats 4000000
namespace PySem
section
variable {prog:Program}{w:World}{A:Around}{E:Value->Shared->Prop}{s:Shared}
theorem nextOf_tup_item {it t:Addr}{i:Nat}{items}{x:Value}{Q:Value->Shared->Prop}(hit:s.heap.IsTupleIter it t i)(ht:s.heap.IsTuple t items)(hx:items[i]?=some x)
    (hQ:∀h',h'.IsTupleIter it t (i+1)->Heap.SameBut it s.heap h'->Q x { s with heap:=h' }):wpAny (model prog w) A (Builtin.SmallTypes.nextOf (.ref it)) Q E s:=by
  obtain⟨o,ho,hc,hd⟩:=id hit
  obtain⟨ol,hol,_,nl,hdl⟩:=ht
  unfold Builtin.SmallTypes.nextOf
  refine wpAny_bind (wpAny_callSpecial?_slot (name:=Str.ofString "__next__") hit.typeIs F.slot_tuple_iterator_next
    (wpAny_call_entry F.slot_tuple_iterator_next hit.typeIs F.entry_tuple_iterator_next ?_ (F.args_tuple_iterator_next_1 _)))
  show wpAny _ _ (field (.ref it) 0 >>= _) _ _ s
  refine wpAny_bind (wpAny_field ho hd (x:=.ref t) rfl ?_)
  show wpAny _ _ (if (Value.ref t==Value.none)=true then _ else _) _ _ s
  rw[if_neg (show ¬((Value.ref t==Value.none)=true) from Bool.false_ne_true)]
  show wpAny _ _ (field (.ref it) 1 >>= _) _ _ s
  refine wpAny_bind (wpAny_field ho hd (x:=.int i 0) rfl ?_)
  show wpAny _ _ (seqItems? (.ref t) >>= _) _ _ s
  refine wpAny_bind (wpAny_seqItems hol hdl ?_)
  simp only [Int.toNat_natCast,hx]
  refine wpAny_bind (wpAny_setField ho hd (by simp) (wpAny_pure ⟨x,rfl,wpAny_pure (hQ _ ?_ (Heap.SameBut.update ..))⟩))
  exact⟨_,Heap.get?_update_self _ ho (Obj.isFreed_of_fields (Obj.data_mapFields hd _)),(Obj.cls_mapFields ..).trans hc,by
    rw[Obj.data_mapFields hd];simp[rawInt]⟩
theorem nextOf_tup_end {it t:Addr}{i:Nat}{items}{Q:Value->Shared->Prop}(hh:A.handled=none)(hit:s.heap.IsTupleIter it t i)(ht:s.heap.IsTuple t items)(hx:items[i]?=none)
    (hE:∀h' e,Heap.ExtBut it s.heap h'->(∃o,h'.get? e=some o/\o.cls=.type "StopIteration")->E (.ref e) { s with heap:=h' }):wpAny (model prog w) A (Builtin.SmallTypes.nextOf (.ref it)) Q E s:=by
  obtain⟨o,ho,hc,hd⟩:=id hit
  obtain⟨ol,hol,_,nl,hdl⟩:=ht
  unfold Builtin.SmallTypes.nextOf
  refine wpAny_bind (wpAny_callSpecial?_slot (name:=Str.ofString "__next__") hit.typeIs F.slot_tuple_iterator_next
    (wpAny_call_entry F.slot_tuple_iterator_next hit.typeIs F.entry_tuple_iterator_next ?_ (F.args_tuple_iterator_next_1 _)))
  show wpAny _ _ (field (.ref it) 0 >>= _) _ _ s
  refine wpAny_bind (wpAny_field ho hd (x:=.ref t) rfl ?_)
  show wpAny _ _ (if (Value.ref t==Value.none)=true then _ else _) _ _ s
  rw[if_neg (show ¬((Value.ref t==Value.none)=true) from Bool.false_ne_true)]
  show wpAny _ _ (field (.ref it) 1 >>= _) _ _ s
  refine wpAny_bind (wpAny_field ho hd (x:=.int i 0) rfl ?_)
  show wpAny _ _ (seqItems? (.ref t) >>= _) _ _ s
  refine wpAny_bind (wpAny_seqItems hol hdl ?_)
  simp only [Int.toNat_natCast,hx]
  refine wpAny_bind (wpAny_rule (wpAny_bind (wpAny_setField ho hd (by simp) ?_)))
  show wpAny _ _ (newExc (.type "StopIteration") [] >>= _) _ _ _
  refine wpAny_bind ?_
  simp only [newExc,newTuple]
  refine wpAny_bind (wpAny_newObj_type ?_ (by size_fits))
  refine wpAny_bind (m:=firstArgMember _ _) (wpAny_of_eq (a:=Value.none) (by first | rfl | (simp only [firstArgMember];rfl)) ?_)
  refine wpAny_newObj_type ?_ (by size_fits)
  simp only [raiseNew]
  refine wpAny_bind (wpAny_handled ?_)
  first | rw[show A.in1.handled=none from hh] | rw[hh]
  refine wpAny_bind (wpAny_pure (wpAny_throw ?_))
  exact hE _ _ (((Heap.SameBut.update ..).extBut.push _).push _) ⟨_,Heap.get?_push_size _ rfl,rfl⟩
end
structure ZSrc (prog:Program)(w:World)(i l:Addr)(xs:Array Value)(P:Nat->Heap->Prop): Prop where
  item:∀(A:Around) (E:Value->Shared->Prop) (s:Shared) (k:Nat) (x:Value) (Q:Value->Shared->Prop),P k s.heap->xs[k]?=some x->(∀h',P (k+1) h'->Heap.SameBut i s.heap h'->Q x { s with heap:=h' })->wpAny (model prog w) A (Builtin.SmallTypes.nextOf (.ref i)) Q E s
  stop:∀(A:Around) (E:Value->Shared->Prop) (s:Shared) (k:Nat) (Q:Value->Shared->Prop),A.handled=none->P k s.heap->xs[k]?=none ->
    (∀h' e,Heap.ExtBut i s.heap h'->(∃o,h'.get? e=some o/\o.cls=.type "StopIteration")->E (.ref e) { s with heap:=h' })->wpAny (model prog w) A (Builtin.SmallTypes.nextOf (.ref i)) Q E s
  keep:∀k h h',P k h->(∀b,b=i\/b=l->∀o,h.get? b=some o->h'.get? b=some o)->P k h'
  at_:∀k h,P k h->∃o,h.get? i=some o
theorem ZSrc.list {prog:Program}{w:World}{i l:Addr}(ne:l≠i)(xs:Array Value): ZSrc prog w i l xs fun k h=>h.IsListIter i l k/\h.IsList l xs where
  item:=fun A E s k x Q p hx q=>wpAny_nextOf_list_item p.1 p.2 hx fun h' hit sb=>q h' ⟨hit,p.2.extBut sb.extBut ne⟩ sb
  stop:=fun A E s k Q hh p hx q=>wpAny_nextOf_list_end hh p.1 p.2 hx q
  keep:=fun k h h' p q=>⟨p.1.at fun o e=>q i (.inl rfl) o e,p.2.at fun o e=>q l (.inr rfl) o e⟩
  at_:=fun k h p=>by obtain⟨o,e,_⟩:=p.1;exact⟨o,e⟩
theorem ZSrc.tup {prog:Program}{w:World}{i l:Addr}(ne:l≠i)(xs:Array Value): ZSrc prog w i l xs fun k h=>h.IsTupleIter i l k/\h.IsTuple l xs where
  item:=fun A E s k x Q p hx q=>nextOf_tup_item p.1 p.2 hx fun h' hit sb=>q h' ⟨hit,p.2.extBut sb.extBut ne⟩ sb
  stop:=fun A E s k Q hh p hx q=>nextOf_tup_end hh p.1 p.2 hx q
  keep:=fun k h h' p q=>⟨p.1.at fun o e=>q i (.inl rfl) o e,p.2.at fun o e=>q l (.inr rfl) o e⟩
  at_:=fun k h p=>by obtain⟨o,e,_⟩:=p.1;exact⟨o,e⟩
section
variable {prog:Program}{w:World}{A:Around}{E:Value->Shared->Prop}{s:Shared}{z TI TO i1 i2 l1 l2:Addr}{xs ys:Array Value}{P1 P2:Nat->Heap->Prop}
theorem zipG_item {k:Nat}{x y a b:Value}{Q:Value->Shared->Prop}(D:ZipApart z TI TO i1 i2 l1 l2)(S1:ZSrc prog w i1 l1 xs P1)(S2:ZSrc prog w i2 l2 ys P2)
    (hz:IsZip s.heap z TI TO .none) (hTI:IsPair s.heap TI (.ref i1) (.ref i2)) (hTO:IsPair s.heap TO a b) (h1:P1 k s.heap) (h2:P2 k s.heap) (hx:xs[k]?=some x) (hy:ys[k]?=some y)
    (hQ:∀h',IsZip h' z TI TO (rawInt s.heap.objs.size)->IsPair h' TO x y->P1 (k+1) h'->P2 (k+1) h'->IsPair h' s.heap.objs.size x y->h'.objs.size=s.heap.objs.size+1 ->
      (∀c o,c≠z->c≠TO->c≠i1->c≠i2->s.heap.get? c=some o->h'.get? c=some o)->Q (.ref s.heap.objs.size) { s with heap:=h' }) :
    wpAny (model prog w) A (Builtin.«zip.__next__» ⟨[.ref z],[]⟩) (fun fin s'=>∃v,fin=.done (.ret v)/\Q v s') E s:=by
  have kp1:∀{k h h' c},c≠i1->c≠l1->Heap.ExtBut c h h'->P1 k h->P1 k h':=fun n1 n2 hs p=>S1.keep _ _ _ p fun b hb o e=>hs b o (by rcases hb with rfl | rfl;exact n1.symm;exact n2.symm) e
  have kp2:∀{k h h' c},c≠i2->c≠l2->Heap.ExtBut c h h'->P2 k h->P2 k h':=fun n1 n2 hs p=>S2.keep _ _ _ p fun b hb o e=>hs b o (by rcases hb with rfl | rfl;exact n1.symm;exact n2.symm) e
  show wpAny _ _ (field (.ref z) 2 >>= _) _ _ _
  refine wpAny_bind (wpAny_field hz rfl (x:=.bool false) rfl ?_)
  show wpAny _ _ (field (.ref z) 3 >>= _) _ _ _
  refine wpAny_bind (wpAny_field hz rfl (x:=.ref TI) rfl ?_)
  refine wpAny_bind (wpAny_seqItems hTI rfl ?_)
  show wpAny _ _ (Builtin.SmallTypes.ownedTupleIsFree (.ref z) >>= _) _ _ _
  refine wpAny_bind ?_
  unfold Builtin.SmallTypes.ownedTupleIsFree
  refine wpAny_bind (wpAny_field hz rfl (x:=.none) rfl (wpAny_pure ?_))
  simp only [if_true]
  refine wpAny_bind (wpAny_rule ?_)
  refine wpAny_bind (wpAny_field hz rfl (x:=.ref TO) rfl ?_)
  refine wpAny_bind (wpAny_setField_rec hz (by simp) fun h₁ hz₁ hs₁=>?_)
  replace hz₁:IsZip h₁ z TI TO .ellipsis:=hz₁
  refine wpAny_bind ?_
  simp only [List.zipIdx_cons,List.zipIdx_nil,List.forIn_cons,List.forIn_nil]
  refine wpAny_bind (wpAny_bind (wpAny_onRaise ?_))
  show wpAny _ _ (Builtin.SmallTypes.nextOf (.ref i1) >>= _) _ _ _
  refine wpAny_bind (S1.item _ _ _ k x _ (kp1 D.i1z.symm D.l1z.symm hs₁.extBut h1) hx fun h₂ h1₂ hs₂=>wpAny_pure ?_)
  have hTO₂:IsPair h₂ TO a b:=hs₂.extBut _ _ D.TOi1 (hs₁.extBut _ _ D.TOz hTO)
  refine wpAny_bind (wpAny_seqItems hTO₂ rfl ?_)
  refine wpAny_bind (wpAny_updateSeq_pair hTO₂ fun h₃ hTO₃ hs₃=>?_)
  replace hTO₃:IsPair h₃ TO x b:=hTO₃
  refine wpAny_bind (wpAny_letGo (wpAny_pure ?_))
  refine wpAny_bind (wpAny_bind (wpAny_onRaise ?_))
  show wpAny _ _ (Builtin.SmallTypes.nextOf (.ref i2) >>= _) _ _ _
  refine wpAny_bind (S2.item _ _ _ k y _ (kp2 D.TOi2 D.l2TO.symm hs₃.extBut (kp2 D.i12 D.l2i1.symm hs₂.extBut (kp2 D.i2z.symm D.l2z.symm hs₁.extBut h2))) hy fun h₄ h2₄ hs₄=>wpAny_pure ?_)
  have hTO₄:IsPair h₄ TO x b:=hs₄.extBut _ _ D.TOi2 hTO₃
  refine wpAny_bind (wpAny_seqItems hTO₄ rfl ?_)
  refine wpAny_bind (wpAny_updateSeq_pair hTO₄ fun h₅ hTO₅ hs₅=>?_)
  replace hTO₅:IsPair h₅ TO x y:=hTO₅
  refine wpAny_bind (wpAny_letGo (wpAny_pure (wpAny_pure ?_)))
  refine wpAny_bind (wpAny_seqItems hTO₅ rfl ?_)
  refine wpAny_bind (wpAny_newTuple ?_)
  have hsz:h₅.objs.size=s.heap.objs.size:=by rw[hs₅.1,hs₄.1,hs₃.1,hs₂.1,hs₁.1]
  have hz₅:IsZip h₅ z TI TO .ellipsis:=hs₅.extBut _ _ D.TOz.symm (hs₄.extBut _ _ D.i2z.symm (hs₃.extBut _ _ D.TOz.symm (hs₂.extBut _ _ D.i1z.symm hz₁)))
  have hk₅:∀c o,c≠z->c≠TO->c≠i1->c≠i2->s.heap.get? c=some o->h₅.get? c=some o:=fun c o c1 c2 c3 c4 e =>
    hs₅.extBut _ _ c2 (hs₄.extBut _ _ c4 (hs₃.extBut _ _ c2 (hs₂.extBut _ _ c3 (hs₁.extBut _ _ c1 e))))
  have h1₅:P1 (k+1) h₅:=kp1 D.TOi1 D.l1TO.symm hs₅.extBut (kp1 D.i12.symm D.l1i2.symm hs₄.extBut (kp1 D.TOi1 D.l1TO.symm hs₃.extBut h1₂))
  have h2₅:P2 (k+1) h₅:=kp2 D.TOi2 D.l2TO.symm hs₅.extBut h2₄
  have hzlt:z < h₅.objs.size:=Heap.lt_size hz₅
  show wpAny _ _ (Builtin.SmallTypes.ownedTupleHandOut (.ref z) (.ref h₅.objs.size) >>= _) _ _ _
  refine wpAny_bind ?_
  unfold Builtin.SmallTypes.ownedTupleHandOut
  have hz₆:IsZip (h₅.push { cls:=.type "tuple",data:=.seq #[x,y] }) z TI TO .ellipsis:=Heap.get?_push_of_some _ hz₅
  refine wpAny_bind (wpAny_setField_rec hz₆ (by simp) fun h₇ hz₇ hs₇=>?_)
  replace hz₇:IsZip h₇ z TI TO (rawInt h₅.objs.size):=hz₇
  refine wpAny_setField_rec hz₇ (by simp) fun h₈ hz₈ hs₈=>?_
  replace hz₈:IsZip h₈ z TI TO (rawInt h₅.objs.size):=hz₈
  have up:∀c o,c≠z->h₅.get? c=some o->h₈.get? c=some o:=fun c o c1 e=>hs₈.extBut _ _ c1 (hs₇.extBut _ _ c1 (Heap.get?_push_of_some _ e))
  have hT₈:IsPair h₈ h₅.objs.size x y:=hs₈.extBut _ _ (Nat.ne_of_gt hzlt) (hs₇.extBut _ _ (Nat.ne_of_gt hzlt) (Heap.get?_push_size _ rfl))
  have hz8:h₈.objs.size=h₅.objs.size+1:=by rw[hs₈.1,hs₇.1,Heap.size_push]
  rw[hsz] at hz₈ hT₈ hz8
  refine wpAny_pure ⟨_,rfl,?_⟩
  show Q (.ref h₅.objs.size) _
  rw[hsz]
  exact hQ h₈ hz₈ (up _ _ D.TOz hTO₅) (S1.keep _ _ _ h1₅ fun b hb o e=>up b o (by rcases hb with rfl | rfl;exact D.i1z;exact D.l1z) e) (S2.keep _ _ _ h2₅ fun b hb o e=>up b o (by rcases hb with rfl | rfl;exact D.i2z;exact D.l2z) e) hT₈ hz8 fun c o c1 c2 c3 c4 e=>up c o c1 (hk₅ c o c1 c2 c3 c4 e)
theorem zipG_end {k:Nat}{a b:Value}{Q:Fin->Shared->Prop}(hh:A.handled=none)(D:ZipApart z TI TO i1 i2 l1 l2)(S1:ZSrc prog w i1 l1 xs P1)(S2:ZSrc prog w i2 l2 ys P2)
    (hz:IsZip s.heap z TI TO .none) (hTI:IsPair s.heap TI (.ref i1) (.ref i2)) (hTO:IsPair s.heap TO a b) (h1:P1 k s.heap) (h2:P2 k s.heap) (hend:xs[k]?=none\/ys[k]?=none)
    (hE:∀h' e,(∀c o,c≠z->c≠TO->c≠i1->c≠i2->s.heap.get? c=some o->h'.get? c=some o)->(∃o,h'.get? e=some o/\o.cls=.type "StopIteration")->E (.ref e) { s with heap:=h' }) :
    wpAny (model prog w) A (Builtin.«zip.__next__» ⟨[.ref z],[]⟩) Q E s:=by
  have kp1:∀{k h h' c},c≠i1->c≠l1->Heap.ExtBut c h h'->P1 k h->P1 k h':=fun n1 n2 hs p=>S1.keep _ _ _ p fun b hb o e=>hs b o (by rcases hb with rfl | rfl;exact n1.symm;exact n2.symm) e
  have kp2:∀{k h h' c},c≠i2->c≠l2->Heap.ExtBut c h h'->P2 k h->P2 k h':=fun n1 n2 hs p=>S2.keep _ _ _ p fun b hb o e=>hs b o (by rcases hb with rfl | rfl;exact n1.symm;exact n2.symm) e
  show wpAny _ _ (field (.ref z) 2 >>= _) _ _ _
  refine wpAny_bind (wpAny_field hz rfl (x:=.bool false) rfl ?_)
  show wpAny _ _ (field (.ref z) 3 >>= _) _ _ _
  refine wpAny_bind (wpAny_field hz rfl (x:=.ref TI) rfl ?_)
  refine wpAny_bind (wpAny_seqItems hTI rfl ?_)
  show wpAny _ _ (Builtin.SmallTypes.ownedTupleIsFree (.ref z) >>= _) _ _ _
  refine wpAny_bind ?_
  unfold Builtin.SmallTypes.ownedTupleIsFree
  refine wpAny_bind (wpAny_field hz rfl (x:=.none) rfl (wpAny_pure ?_))
  simp only [if_true]
  refine wpAny_bind (wpAny_rule ?_)
  refine wpAny_bind (wpAny_field hz rfl (x:=.ref TO) rfl ?_)
  refine wpAny_bind (wpAny_setField_rec hz (by simp) fun h₁ hz₁ hs₁=>?_)
  replace hz₁:IsZip h₁ z TI TO .ellipsis:=hz₁
  refine wpAny_bind ?_
  simp only [List.zipIdx_cons,List.zipIdx_nil,List.forIn_cons,List.forIn_nil]
  refine wpAny_bind (wpAny_bind (wpAny_onRaise ?_))
  show wpAny _ _ (Builtin.SmallTypes.nextOf (.ref i1) >>= _) _ _ _
  cases hx:xs[k]? with
  | none =>
    refine wpAny_bind (S1.stop _ _ _ k _ hh (kp1 D.i1z.symm D.l1z.symm hs₁.extBut h1) hx fun h₂ e hs₂ he=>?_)
    obtain⟨oe,hoe,hce⟩:=he
    have hz₂:IsZip h₂ z TI TO .ellipsis:=hs₂ _ _ D.i1z.symm hz₁
    have hez:e≠z:=fun x=>by subst x;rw[hz₂] at hoe;cases hoe;simp at hce
    refine wpAny_setField_rec hz₂ (by simp) fun h₃ _ hs₃=>hE h₃ e (fun c o c1 _ c3 _ x=>hs₃.extBut _ _ c1 (hs₂ _ _ c3 (hs₁.extBut _ _ c1 x))) ⟨oe,hs₃.extBut _ _ hez hoe,hce⟩
  | some x =>
    have hy:ys[k]?=none:=by rcases hend with h | h;rw[hx] at h;cases h;exact h
    refine wpAny_bind (S1.item _ _ _ k x _ (kp1 D.i1z.symm D.l1z.symm hs₁.extBut h1) hx fun h₂ h1₂ hs₂=>wpAny_pure ?_)
    have hTO₂:IsPair h₂ TO a b:=hs₂.extBut _ _ D.TOi1 (hs₁.extBut _ _ D.TOz hTO)
    refine wpAny_bind (wpAny_seqItems hTO₂ rfl ?_)
    refine wpAny_bind (wpAny_updateSeq_pair hTO₂ fun h₃ hTO₃ hs₃=>?_)
    refine wpAny_bind (wpAny_letGo (wpAny_pure ?_))
    refine wpAny_bind (wpAny_bind (wpAny_onRaise ?_))
    show wpAny _ _ (Builtin.SmallTypes.nextOf (.ref i2) >>= _) _ _ _
    refine wpAny_bind (S2.stop _ _ _ k _ hh (kp2 D.TOi2 D.l2TO.symm hs₃.extBut (kp2 D.i12 D.l2i1.symm hs₂.extBut (kp2 D.i2z.symm D.l2z.symm hs₁.extBut h2))) hy fun h₄ e hs₄ he=>?_)
    obtain⟨oe,hoe,hce⟩:=he
    have hz₄:IsZip h₄ z TI TO .ellipsis:=hs₄ _ _ D.i2z.symm (hs₃.extBut _ _ D.TOz.symm (hs₂.extBut _ _ D.i1z.symm hz₁))
    have hez:e≠z:=fun x=>by subst x;rw[hz₄] at hoe;cases hoe;simp at hce
    refine wpAny_setField_rec hz₄ (by simp) fun h₅ _ hs₅=>hE h₅ e (fun c o c1 c2 c3 c4 x=>hs₅.extBut _ _ c1 (hs₄ _ _ c4 (hs₃.extBut _ _ c2 (hs₂.extBut _ _ c3 (hs₁.extBut _ _ c1 x))))) ⟨oe,hs₅.extBut _ _ hez hoe,hce⟩
theorem nextZ_item {k:Nat}{x y a b:Value}{Q:Option Value->Shared->Prop}(D:ZipApart z TI TO i1 i2 l1 l2)(S1:ZSrc prog w i1 l1 xs P1)(S2:ZSrc prog w i2 l2 ys P2)
    (hz:IsZip s.heap z TI TO .none) (hTI:IsPair s.heap TI (.ref i1) (.ref i2)) (hTO:IsPair s.heap TO a b) (h1:P1 k s.heap) (h2:P2 k s.heap) (hx:xs[k]?=some x) (hy:ys[k]?=some y)
    (hQ:∀h',IsZip h' z TI TO (rawInt s.heap.objs.size)->IsPair h' TO x y->P1 (k+1) h'->P2 (k+1) h'->IsPair h' s.heap.objs.size x y->h'.objs.size=s.heap.objs.size+1 ->
      (∀c o,c≠z->c≠TO->c≠i1->c≠i2->s.heap.get? c=some o->h'.get? c=some o)->Q (some (.ref s.heap.objs.size)) { s with heap:=h' }) :
    wpAny (model prog w) A (pyNext (.ref z)) Q E s:=by
  have hT:s.TypeIs (.ref z) "zip" := ⟨_,hz,rfl⟩
  unfold pyNext
  exact wpAny_bind (wpAny_attempt (wpAny_callSpecial?_slot (name:=Str.ofString "__next__") hT F.slot_zip_next
    (wpAny_call_entry F.slot_zip_next hT F.entry_zip_next
      (zipG_item D S1 S2 hz hTI hTO h1 h2 hx hy fun h' a1 a2 a3 a4 a5 a6 a7=>wpAny_pure (hQ h' a1 a2 a3 a4 a5 a6 a7)) (F.args_zip_next_1 _))))
theorem nextZ_end {k:Nat}{a b:Value}{Q:Option Value->Shared->Prop}(hh:A.handled=none)(D:ZipApart z TI TO i1 i2 l1 l2)(S1:ZSrc prog w i1 l1 xs P1)(S2:ZSrc prog w i2 l2 ys P2)
    (hz:IsZip s.heap z TI TO .none) (hTI:IsPair s.heap TI (.ref i1) (.ref i2)) (hTO:IsPair s.heap TO a b) (h1:P1 k s.heap) (h2:P2 k s.heap) (hend:xs[k]?=none\/ys[k]?=none)
    (hQ:∀h',(∀c o,c≠z->c≠TO->c≠i1->c≠i2->s.heap.get? c=some o->h'.get? c=some o)->Q none { s with heap:=h' }):wpAny (model prog w) A (pyNext (.ref z)) Q E s:=by
  have hT:s.TypeIs (.ref z) "zip" := ⟨_,hz,rfl⟩
  unfold pyNext
  refine wpAny_bind (wpAny_attempt (wpAny_callSpecial?_slot (name:=Str.ofString "__next__") hT F.slot_zip_next
    (wpAny_call_entry F.slot_zip_next hT F.entry_zip_next (zipG_end hh D S1 S2 hz hTI hTO h1 h2 hend fun h' e hk he=>?_) (F.args_zip_next_1 _))))
  obtain⟨o,ho,hc⟩:=he
  refine wpAny_bind (wpAny_isInstance (T := "StopIteration") (b:=true) ⟨o,ho,hc⟩ isSubtype_stop ?_)
  exact wpAny_pure (hQ _ hk)
theorem meets_zipG (l1 l2:Addr)(o1 o2:Obj)(C1 C2:Heap->Prop)(k1:∀h o,C1 h->C1 (h.push o))(k2:∀h o,C2 h->C2 (h.push o))
    (it1:∀(prog:Program) (w:World) (A:Around) (E:Value->Shared->Prop) (s:Shared) (Q:Value->Shared->Prop),C1 s.heap->Q (.ref s.heap.objs.size) { s with heap:=s.heap.push o1 }->wpAny (model prog w) A (pyIter (.ref l1)) Q E s)
    (it2:∀(prog:Program) (w:World) (A:Around) (E:Value->Shared->Prop) (s:Shared) (Q:Value->Shared->Prop),C2 s.heap->Q (.ref s.heap.objs.size) { s with heap:=s.heap.push o2 }->wpAny (model prog w) A (pyIter (.ref l2)) Q E s) :
    Meets (Builtin.«zip.__new__» ⟨[.type "zip",.ref l1,.ref l2],[]⟩) (fun _ R s=>C1 s.heap/\C2 s.heap ∧
      R (.ok (.ret (.ref ((((s.heap.push o1).push o2).push { cls:=.type "tuple",data:=.seq #[.ref s.heap.objs.size,.ref (s.heap.push o1).objs.size] }).push { cls:=.type "tuple",data:=.seq #[.none,.none] }).objs.size)))
        { s with heap:=((((s.heap.push o1).push o2).push { cls:=.type "tuple",data:=.seq #[.ref s.heap.objs.size,.ref (s.heap.push o1).objs.size] }).push { cls:=.type "tuple",data:=.seq #[.none,.none] }).push { cls:=.type "zip",data:=.fields #[.none,.bool false,.bool false,.ref ((s.heap.push o1).push o2).objs.size,.ref (((s.heap.push o1).push o2).push { cls:=.type "tuple",data:=.seq #[.ref s.heap.objs.size,.ref (s.heap.push o1).objs.size] }).objs.size] } }) :=
  .of_wp fun prog w A R s h=>by
    obtain⟨hp,g,d,tk,os⟩:=s;obtain⟨c1,c2,h⟩:=h
    have hsub:=sub_zip
    have i1:=fun (A:Around) (E:Value->Shared->Prop) (Q:Value->Shared->Prop)=>it1 prog w A E ⟨hp,g,d,tk,os⟩ Q c1
    have i2:=fun (A:Around) (E:Value->Shared->Prop) (Q:Value->Shared->Prop)=>it2 prog w A E ⟨hp.push o1,g,d,tk,os⟩ Q (k2 _ _ c2)
    wp_walk using i1 _ _ _,i2 _ _ _
    exact⟨_,rfl,h⟩
end
end PySem

set_option maxHeartbeats 4000000
namespace L2
open PySem PySem.Spec PyProof.Rows
def sqB (b:Bool)(K:PySem.W.Frag)(H:Hp)(l:Addr)(xs:List V): Prop:=match b with
  | true=>SqT K H l xs
  | false=>SqL K H l xs
def itB (b:Bool)(h:Heap)(i l:Addr)(k:Nat): Prop:=match b with
  | true=>h.IsTupleIter i l k
  | false=>h.IsListIter i l k
def ctB (b:Bool)(h:Heap)(l:Addr)(xs:Array Value): Prop:=match b with
  | true=>h.IsTuple l xs
  | false=>h.IsList l xs
def itO (b:Bool)(l:Addr): Obj:={ cls:=.type (if b then "tuple_iterator" else "list_iterator"),data:=.fields #[.ref l,.int 0 0] }
theorem srcB {prog:Program}{w:World}{i l:Addr}(b:Bool)(ne:l≠i)(xs:Array Value): ZSrc prog w i l xs fun k h=>itB b h i l k/\ctB b h l xs:=by
  cases b
  · exact ZSrc.list ne xs
  · exact ZSrc.tup ne xs
theorem itB.obj {b:Bool}{h:Heap}{i l:Addr}{k:Nat}(x:itB b h i l k): ∃o,h.get? i=some o/\∀v,o.data≠.cell v:=by
  cases b
  · obtain⟨o,e,c,d⟩:=x;exact⟨o,e,fun v z=>by rw[d] at z;cases z⟩
  · obtain⟨o,e,c,d⟩:=x;exact⟨o,e,fun v z=>by rw[d] at z;cases z⟩
theorem itB.at {b:Bool}{h h':Heap}{i l:Addr}{k:Nat}(x:itB b h i l k)(e:∀o,h.get? i=some o->h'.get? i=some o): itB b h' i l k:=by
  cases b
  · exact Heap.IsListIter.at x e
  · exact Heap.IsTupleIter.at x e
theorem ctB.at {b:Bool}{h h':Heap}{l:Addr}{xs:Array Value}(x:ctB b h l xs)(e:∀o,h.get? l=some o->h'.get? l=some o): ctB b h' l xs:=by
  cases b
  · exact Heap.IsList.at x e
  · exact Heap.IsTuple.at x e
theorem ctB.lt {b:Bool}{h:Heap}{l:Addr}{xs:Array Value}(x:ctB b h l xs): l < h.objs.size:=by
  cases b
  · obtain⟨o,e,_⟩:=x;exact Heap.lt_size e
  · obtain⟨o,e,_⟩:=x;exact Heap.lt_size e
theorem itO_it {b:Bool}{h:Heap}{i l:Addr}(e:h.get? i=some (itO b l)): itB b h i l 0:=by
  cases b
  · exact⟨_,e,rfl,rfl⟩
  · exact⟨_,e,rfl,rfl⟩
theorem iterB {b:Bool}{l:Addr}{xs:Array Value}(prog:Program)(w:World)(A:Around)(E:Value->Shared->Prop)(s:Shared)(Q:Value->Shared->Prop)(x:ctB b s.heap l xs)(q:Q (.ref s.heap.objs.size) { s with heap:=s.heap.push (itO b l) }):
    wpAny (model prog w) A (pyIter (.ref l)) Q E s:=by
  cases b
  · exact wpAny_pyIter_list x q
  · exact wpAny_pyIter_tuple x q
section
variable {X:Cx}{pins:List (Addr×Obj)}{σ:St}{H:Hp}{s:Shared}
theorem Inv.seqB (I:Inv X pins σ H s){b:Bool}{l:Addr}{xs:List V}(h:sqB b X.K H l xs): ∃its:List Value,Vals xs its/\ctB b s.heap l its.toArray/\xs.length<=sizeLine:=by
  cases b
  · obtain⟨its,r,p,z⟩:=I.list h;exact⟨its,r,p.isList,z⟩
  · obtain⟨its,r,p,z⟩:=I.tuple h;exact⟨its,r,p,z⟩
theorem Inv.injB (I:Inv X pins σ H s){b:Bool}{l:Addr}{xs ys:List V}(h:sqB b X.K H l xs)(h':sqB b X.K H l ys): xs=ys:=by
  cases b
  · exact I.list_inj h h'
  · exact I.tuple_inj h h'
theorem Inv.turnedL {h':Heap}{t':Nat}{ch:List Addr}(I:Inv X pins σ H s)(k:∀b o,b∉ch->s.heap.get? b=some o->h'.get? b=some o)(f:∀b∈ch,FpOk X pins H b): Inv X pins σ H { s with heap:=h',toks:=t' }:=by
  have nit:∀b u,H b=some u->b∉ch:=fun b u e z=>by rw[(f b z).1] at e;cases e
  refine I.step (g':=s.gens) (d':=s.drawn) (ch:=ch) (fun b hb=>?_) (fun b o _ _ hc e _=>k b o hc e) (fun b o _ _ hc e _=>⟨o.slots,k b o hc e⟩) (fun _ _ _ _ n=>n)
    (fun b o hc e=>⟨o,k b o hc e⟩) (fun _ _ e=>e) (fun _ _ _ e=>e) (fun b ps e=>⟨#[],by rw[e];simp⟩) (fun m hm=>?_) (fun b u e=>?_) I.bare
  · obtain⟨f0,f1,f2,f3,f4,f5⟩:=f b hb
    exact⟨f3,f1,f4,f5⟩
  · obtain⟨o,es,ep,ho,r⟩:=hm
    exact⟨o,es,ep,k _ o (fun z=>(f _ z).2.1 rfl) ho,r⟩
  · refine(I.hok b u e).stay (fun c v hc q=>k c v ?_ q) (fun _ q=>q) fun _ _ q=>q
    rcases hc with z | z
    · rw[z];exact nit b u e
    · exact nit c _ z
end
def Itz (b1 b2:Bool)(K:PySem.W.Frag)(l1 l2:Addr): It :=
  ⟨fun i H=>∃xs ys,sqB b1 K H l1 xs/\sqB b2 K H l2 ys/\i < xs.length/\i < ys.length,
   fun i H v H'=>∃T,v=.ref T/\H T=none/\∀xs ys x y,sqB b1 K H l1 xs->sqB b2 K H l2 ys->xs[i]?=some x->ys[i]?=some y->H'=upd H T (.tup [x,y]),
   fun i H=>∃xs ys,sqB b1 K H l1 xs/\sqB b2 K H l2 ys/\(xs.length<=i\/ys.length<=i)⟩
def ZAt (b1 b2:Bool)(z TI TO i1 i2 l1 l2:Addr)(i:Nat)(h:Heap): Prop:=IsZip h z TI TO .none/\IsPair h TI (.ref i1) (.ref i2)/\(∃a b,IsPair h TO a b)/\itB b1 h i1 l1 i/\itB b2 h i2 l2 i
theorem turn_zip {P:Program}{w:World}{K:PySem.W.Frag}{elts:List Expr}{kk}{pos:Pos}(b1 b2:Bool)(z TI TO i1 i2 l1 l2:Addr)(D:ZipApart z TI TO i1 i2 l1 l2):
    Turn P w K (.Tuple elts kk pos) (Itz b1 b2 K l1 l2) [z,TI,TO,i1,i2] z (ZAt b1 b2 z TI TO i1 i2 l1 l2) where
  mem:=by simp
  obj:=fun i h st b hb=>by
    obtain⟨hz,hTI,⟨a,c,hTO⟩,h1,h2⟩:=st
    simp only [List.mem_cons,List.not_mem_nil,or_false] at hb
    rcases hb with rfl | rfl | rfl | rfl | rfl
    · exact⟨_,hz,fun v z=>by cases z⟩
    · exact⟨_,hTI,fun v z=>by cases z⟩
    · exact⟨_,hTO,fun v z=>by cases z⟩
    · exact h1.obj
    · exact h2.obj
  keep:=fun i h h' st k=>by
    obtain⟨hz,hTI,⟨a,c,hTO⟩,h1,h2⟩:=st
    exact⟨k z (by simp) _ hz,k TI (by simp) _ hTI,⟨a,c,k TO (by simp) _ hTO⟩,h1.at fun o e=>k i1 (by simp) o e,h2.at fun o e=>k i2 (by simp) o e⟩
  item:=by
    intro X hP hw hK hc i pins s σ H E I hf st hg
    subst hP hw hK
    obtain⟨xs,ys,q1,q2,l1',l2'⟩:=hg
    obtain⟨its1,r1,c1,z1⟩:=I.seqB q1
    obtain⟨its2,r2,c2,z2⟩:=I.seqB q2
    obtain⟨hz,hTI,⟨a,c,hTO⟩,h1,h2⟩:=st
    have ex:xs[i]?=some xs[i]:=List.getElem?_eq_getElem l1'
    have ey:ys[i]?=some ys[i]:=List.getElem?_eq_getElem l2'
    obtain⟨u,hu,ru⟩:=r1.get ex
    obtain⟨v,hv,rv⟩:=r2.get ey
    refine nextZ_item D (srcB b1 D.l1i1 its1.toArray) (srcB b2 D.l2i2 its2.toArray) hz hTI hTO ⟨h1,c1⟩ ⟨h2,c2⟩ (x:=u) (y:=v) (by simpa using hu) (by simpa using hv) fun h' a1 a2 a3 a4 a5 a6 hk=>?_
    refine⟨_,rfl,wpAny_letOwnedTupleGo_zip (s:={ s with heap:=h' }) a1 fun h'' hz'' sb=>?_⟩
    have nT:∀b∈[z,TI,TO,i1,i2],s.heap.objs.size≠b:=fun b hb e=>by
      simp only [List.mem_cons,List.not_mem_nil,or_false] at hb
      rcases hb with rfl | rfl | rfl | rfl | rfl
      · exact Nat.lt_irrefl _ (e ▸ Heap.lt_size hz)
      · exact Nat.lt_irrefl _ (e ▸ Heap.lt_size hTI)
      · exact Nat.lt_irrefl _ (e ▸ Heap.lt_size hTO)
      · obtain⟨_,q,_⟩:=h1.obj;exact Nat.lt_irrefl _ (e ▸ Heap.lt_size q)
      · obtain⟨_,q,_⟩:=h2.obj;exact Nat.lt_irrefl _ (e ▸ Heap.lt_size q)
    have kp:∀b o,b∉[z,TO,i1,i2]->s.heap.get? b=some o->h''.get? b=some o:=fun b o hb e=>by
      simp only [List.mem_cons,List.not_mem_nil,or_false,not_or] at hb
      exact sb.extBut b o hb.1 (hk b o hb.1 hb.2.1 hb.2.2.1 hb.2.2.2 e)
    have I1:Inv X pins σ H { s with heap:=h'' }:=I.turnedL (t':=s.toks) (ch:=[z,TO,i1,i2]) kp fun b hb=>hf b (by
      simp only [List.mem_cons,List.not_mem_nil,or_false] at hb ⊢
      rcases hb with z | z | z | z<;>simp[z])
    have T'':IsPair h'' s.heap.objs.size u v:=sb.extBut _ _ (nT z (by simp)) a5
    have hfree:H s.heap.objs.size=none:=I.hok.fresh (Nat.le_refl _)
    have I2:Inv X pins σ (upd H s.heap.objs.size (.tup [xs[i],ys[i]])) { s with heap:=h'' }:=by
      have Im:Inv X pins σ (upd H s.heap.objs.size (.tup [xs[i],ys[i]])) { s with heap:=s.heap.push { cls:=.type "tuple",data:=.seq #[u,v] } }:=I.laid (t':=s.toks) (fun b o e=>Heap.get?_push_of_some _ e) (Nat.le_refl _)
        (show ObjOk X.prog X.w _ _ _ (.tup [xs[i],ys[i]]) from ⟨small_line (by show 2<=1000;decide),[u,v],.cons ru (.cons rv .nil),⟨_,Heap.get?_push_size _ rfl,rfl,_,rfl⟩⟩)
      refine Inv.turnedL (s:={ s with heap:=s.heap.push { cls:=.type "tuple",data:=.seq #[u,v] } }) (t':=s.toks) (ch:=[z,TO,i1,i2]) Im (fun b o hb e=>?_) fun b hb=>?_
      · rcases Heap.get?_push_cases e with ⟨rfl,rfl⟩ | e
        · exact T''
        · exact kp b o hb e
      · have hb':b∈[z,TI,TO,i1,i2]:=by
          simp only [List.mem_cons,List.not_mem_nil,or_false] at hb ⊢
          rcases hb with z | z | z | z<;>simp[z]
        obtain⟨f0,f1⟩:=hf b hb'
        exact⟨by rw[upd_ne (nT b hb').symm];exact f0,f1⟩
    refine⟨.ref s.heap.objs.size,_,I2,rfl,⟨_,rfl,hfree,fun xs' ys' x' y' e1 e2 e3 e4=>?_⟩,⟨hz'',sb.extBut _ _ D.TIz (hk _ _ D.TIz D.TITO D.TIi1 D.TIi2 hTI),⟨u,v,sb.extBut _ _ D.TOz a2⟩,a3.1.at fun o e=>sb.extBut _ _ D.i1z e,a4.1.at fun o e=>sb.extBut _ _ D.i2z e⟩,fun b hb=>?_⟩
    · rw[I.injB e1 q1,ex] at e3
      rw[I.injB e2 q2,ey] at e4
      cases e3;cases e4;rfl
    · rw[upd_ne (nT b hb).symm];exact(hf b hb).1
  done:=by
    intro X hP hw hK hc i pins s σ H E I hf st hg
    subst hP hw hK
    obtain⟨xs,ys,q1,q2,hl⟩:=hg
    obtain⟨its1,r1,c1,z1⟩:=I.seqB q1
    obtain⟨its2,r2,c2,z2⟩:=I.seqB q2
    obtain⟨hz,hTI,⟨a,c,hTO⟩,h1,h2⟩:=st
    have e1:=r1.length
    have e2:=r2.length
    refine nextZ_end (I.ok.hd hc) D (srcB b1 D.l1i1 its1.toArray) (srcB b2 D.l2i2 its2.toArray) hz hTI hTO ⟨h1,c1⟩ ⟨h2,c2⟩ (by
      rcases hl with h | h
      · exact .inl (by rw[Array.getElem?_eq_none];simp;omega)
      · exact .inr (by rw[Array.getElem?_eq_none];simp;omega)) fun h' hk=>⟨rfl,I.turnedL (t':=s.toks) (ch:=[z,TO,i1,i2]) (fun b o hb e=>by
        simp only [List.mem_cons,List.not_mem_nil,or_false,not_or] at hb
        exact hk b o hb.1 hb.2.1 hb.2.2.1 hb.2.2.2 e) fun b hb=>hf b (by
        simp only [List.mem_cons,List.not_mem_nil,or_false] at hb ⊢
        rcases hb with z | z | z | z<;>simp[z])⟩
  self:=fun _ _ _ _ _ st h=>wpAny_pyIter_zip st.1 h
theorem call_zipB {prog:Program}{w:World}{A:Around}{E:Value->Shared->Prop}{s:Shared}{b1 b2:Bool}{l1 l2:Addr}{xs ys:Array Value}{Q:Value->Shared->Prop}(c1:ctB b1 s.heap l1 xs)(c2:ctB b2 s.heap l2 ys)
    (h:∀h',ZAt b1 b2 (s.heap.objs.size+4) (s.heap.objs.size+2) (s.heap.objs.size+3) s.heap.objs.size (s.heap.objs.size+1) l1 l2 0 h'->(∀c o,s.heap.get? c=some o->h'.get? c=some o)->Q (.ref (s.heap.objs.size+4)) { s with heap:=h' }) :
    wpAny (model prog w) A (call (.type "zip") [.ref l1,.ref l2]) Q E s:=by
  refine callType_new F.called_zip (by decide) (F.typeCall_zip_2 _ _) (F.newCall_zip_2 _ _) (fun obj=>F.args_object_init_3 obj _ _) F.entry_zip_new
    (meets_zipG l1 l2 (itO b1 l1) (itO b2 l2) (fun h=>ctB b1 h l1 xs) (fun h=>ctB b2 h l2 ys) (fun h o x=>x.at fun o' e=>Heap.get?_push_of_some _ e) (fun h o x=>x.at fun o' e=>Heap.get?_push_of_some _ e) (fun prog w A E s Q x q=>iterB prog w A E s Q x q) (fun prog w A E s Q x q=>iterB prog w A E s Q x q)) ⟨c1,c2,?_⟩
  generalize hh1:s.heap.push (itO b1 l1)=H1
  have z1:H1.objs.size=s.heap.objs.size+1:=by rw[<-hh1];exact Heap.size_push ..
  have e1:H1.get? s.heap.objs.size=some (itO b1 l1):=by rw[<-hh1];exact Heap.get?_push_size _ rfl
  have k1:∀c o,s.heap.get? c=some o->H1.get? c=some o:=fun c o e=>by rw[<-hh1];exact Heap.get?_push_of_some _ e
  generalize hh2:H1.push (itO b2 l2)=H2
  have z2:H2.objs.size=s.heap.objs.size+2:=by rw[<-hh2,Heap.size_push,z1]
  have e2:H2.get? (s.heap.objs.size+1)=some (itO b2 l2):=by rw[<-hh2,<-z1];exact Heap.get?_push_size _ rfl
  have k2:∀c o,H1.get? c=some o->H2.get? c=some o:=fun c o e=>by rw[<-hh2];exact Heap.get?_push_of_some _ e
  rw[z1]
  generalize hh3:H2.push { cls:=.type "tuple",data:=.seq #[.ref s.heap.objs.size,.ref (s.heap.objs.size+1)] }=H3
  have z3:H3.objs.size=s.heap.objs.size+3:=by rw[<-hh3,Heap.size_push,z2]
  have e3:IsPair H3 (s.heap.objs.size+2) (.ref s.heap.objs.size) (.ref (s.heap.objs.size+1)):=by rw[<-hh3,<-z2];exact Heap.get?_push_size _ rfl
  have k3:∀c o,H2.get? c=some o->H3.get? c=some o:=fun c o e=>by rw[<-hh3];exact Heap.get?_push_of_some _ e
  generalize hh4:H3.push { cls:=.type "tuple",data:=.seq #[.none,.none] }=H4
  have z4:H4.objs.size=s.heap.objs.size+4:=by rw[<-hh4,Heap.size_push,z3]
  have e4:IsPair H4 (s.heap.objs.size+3) .none .none:=by rw[<-hh4,<-z3];exact Heap.get?_push_size _ rfl
  have k4:∀c o,H3.get? c=some o->H4.get? c=some o:=fun c o e=>by rw[<-hh4];exact Heap.get?_push_of_some _ e
  rw[z2,z3,z4]
  have e5:IsZip (H4.push { cls:=.type "zip",data:=.fields #[.none,.bool false,.bool false,.ref (s.heap.objs.size+2),.ref (s.heap.objs.size+3)] }) (s.heap.objs.size+4) (s.heap.objs.size+2) (s.heap.objs.size+3) .none:=by rw[<-z4];exact Heap.get?_push_size _ rfl
  have k5:∀c o,H4.get? c=some o->(H4.push { cls:=.type "zip",data:=.fields #[.none,.bool false,.bool false,.ref (s.heap.objs.size+2),.ref (s.heap.objs.size+3)] }).get? c=some o:=fun c o e=>Heap.get?_push_of_some _ e
  exact⟨⟨_,e5,rfl⟩,h _ ⟨e5,k5 _ _ (k4 _ _ e3),⟨_,_,k5 _ _ e4⟩,itO_it (k5 _ _ (k4 _ _ (k3 _ _ (k2 _ _ e1)))),itO_it (k5 _ _ (k4 _ _ (k3 _ _ e2)))⟩ fun c o e=>k5 _ _ (k4 _ _ (k3 _ _ (k2 _ _ (k1 _ _ e))))⟩
section
variable {X:Cx}{elts:List Expr}{kk:Nat}{tpos p pos:Pos}{e1 e2:Expr}{t1 t2:TE}
def iZip (b1 b2:Bool)(K:PySem.W.Frag)(t1 t2:TE): TI:=fun σ H R=>t1 σ H fun x H1=>t2 σ H1 fun y H2=>∃l1 l2 xs ys,x=.ref l1/\y=.ref l2/\sqB b1 K H2 l1 xs/\sqB b2 K H2 l2 ys/\R (Itz b1 b2 K l1 l2) H2
theorem pi_zip (b1 b2:Bool) (hg:Gl X "zip") (hm:X.mg "zip" = none) (h1:PE X e1 t1) (h2:PE X e2 t2) (hs:starEach [e1,e2] X.env=[(false,eval e1 X.env),(false,eval e2 X.env)]:=by rfl) (hs2:starEach [e2] X.env=[(false,eval e2 X.env)]:=by rfl) :
    PI X (.Tuple elts kk tpos) (.Call (.Name "zip" p) [e1,e2] [] pos) (iZip b1 b2 X.K t1 t2):=by
  intro pins s σ H R I h
  refine Call_ (ld_blt I hg hm PyProof.Rows.Boot.«zip» (PyProof.Rows.callWith_type1 (thn (pa_cons h1 (pa_cons h2 pa_nil hs2) (by rw[hs,hs2]) pos pins s σ H (fun vs H1=>match vs with | [x,y]=>∃l1 l2 xs ys,x=.ref l1/\y=.ref l2/\sqB b1 X.K H1 l1 xs/\sqB b2 X.K H1 l2 ys/\R (Itz b1 b2 X.K l1 l2) H1 | _=>False) I h) fun us s1 ⟨vs,H1,I1,r1,q1⟩=>?_) (by rw[hs,hs2]) (by rw[hs2];rfl)))
  match vs,q1 with
  | [x,y],q1 =>
    obtain⟨l1,l2,xs,ys,rfl,rfl,q1,q2,q⟩:=q1
    cases r1 with
    | cons ra rr =>
      cases rr with
      | cons rb rr =>
        cases rr
        cases ra
        cases rb
        obtain⟨its1,v1,c1,z1⟩:=I1.seqB q1
        obtain⟨its2,v2,c2,z2⟩:=I1.seqB q2
        refine call_zipB c1 c2 fun h' za kp=>?_
        refine wpAny_pyIter_zip (s:={ s1 with heap:=h' }) za.1 ?_
        refine⟨s1.heap.objs.size+4,_,_,_,H1,rfl,I1.kept (t':=s1.toks) kp,turn_zip b1 b2 _ _ _ _ _ l1 l2 (PySem.W.ktu_apart _ _ _ c1.lt c2.lt),za,fun b hb=>?_,q⟩
        simp only [List.mem_cons,List.not_mem_nil,or_false] at hb
        have hle:s1.heap.objs.size<=b:=by
          rcases hb with rfl | rfl | rfl | rfl | rfl
          · exact Nat.le_add_right _ _
          · exact Nat.le_add_right _ _
          · exact Nat.le_add_right _ _
          · exact Nat.le_refl _
          · exact Nat.le_add_right _ _
        exact I1.fpOk hle (I1.hok.fresh hle)
end
theorem for_zip {K:PySem.W.Frag}{b1 b2:Bool}{l1 l2:Addr}{xs ys:List V}{g:TG}{tb:TS}{D:Ends}{σ:St}{H:Hp}(n:Nat)(hx:xs.length=n)(hy:ys.length=n)(Pv:Nat->St->Hp->Prop)(h0:Pv 0 σ H)(hl:∀i σ H,i<=n->Pv i σ H->sqB b1 K H l1 xs/\sqB b2 K H l2 ys)
    (hs:∀i x y σ H T,xs[i]?=some x->ys[i]?=some y->Pv i σ H->H T=none->g (.ref T) σ (upd H T (.tup [x,y])) fun σ2 H2=>tb { D with nx:=Pv (i+1),ct:=Pv (i+1),bk:=D.nx } σ2 H2) (hd:∀σ H,Pv n σ H->D.nx σ H) :
    ∃W:Nat->Nat->St->Hp->Prop,(∃m,W 0 m σ H)/\∀i m σ H,W i m σ H ->
      ((Itz b1 b2 K l1 l2).stop i H/\D.nx σ H)\/((Itz b1 b2 K l1 l2).go i H/\∃N:St->Hp->Prop,(∀σ' H',N σ' H'->∃m',m' < m/\W (i+1) m' σ' H')/\∀x H',(Itz b1 b2 K l1 l2).yld i H x H'->g x σ H' fun σ2 H2=>tb { D with nx:=N,ct:=N,bk:=D.nx } σ2 H2):=by
  refine⟨fun i m σ H=>m=n-i/\i<=n/\Pv i σ H,⟨n,by simp,Nat.zero_le _,h0⟩,?_⟩
  rintro i m σ H ⟨rfl,hi,p⟩
  have q:=hl i σ H hi p
  by_cases hlt:i < n
  · refine .inr ⟨⟨xs,ys,q.1,q.2,by omega,by omega⟩,Pv (i+1),fun σ' H' p'=>⟨n-(i+1),by omega,rfl,hlt,p'⟩,fun v H' y=>?_⟩
    obtain⟨T,rfl,hT,e⟩:=y
    have ex:xs[i]?=some (xs[i]'(by omega)):=List.getElem?_eq_getElem (by omega)
    have ey:ys[i]?=some (ys[i]'(by omega)):=List.getElem?_eq_getElem (by omega)
    rw[e xs ys _ _ q.1 q.2 ex ey]
    exact hs i _ _ σ H T ex ey p hT
  · have e:i=n:=by omega
    subst e
    exact .inl ⟨⟨xs,ys,q.1,q.2,.inl (by omega)⟩,hd σ H p⟩
section
variable {X:Cx}
end
end L2


set_option maxHeartbeats 4000000
namespace L2
open PySem PySem.Spec PyProof.Rows
section
variable {X:Cx}
end
section
variable {X:Cx}{k:Nat}{C:Addr}{ps:List Str}{sp:Sp}{dvs:List V}{E:St->XK}{x:Str}{p pos:Pos}
end
end L2

set_option maxHeartbeats 4000000
namespace L2
open PySem PySem.Spec PyProof.Rows
section
variable {prog:Program}{w:World}{A:Around}{E:Value->Shared->Prop}{s:Shared}
end
section
variable {X:Cx}
theorem vals_cons {v:V}{vs:List V}{us:List Value}(r:Vals (v::vs) us): ∃u us',us=u::us'/\RelV v u/\Vals vs us':=by
  cases r with
  | cons a b=>exact⟨_,_,rfl,a,b⟩
end
end L2

set_option maxHeartbeats 4000000
namespace L2
open PySem PySem.Spec PyProof.Rows
section
variable {X:Cx}
theorem op_mulS:OpR X (binaryOp .Mult) (fun x y H Q=>∃z n,x=.str z/\y=.int n/\z.length<=1000/\1<=n/\n<=1000/\Q (.str (Txt.mul z n)) H):=by
  intro pins s σ H x y v u Q I rx ry h
  obtain⟨z,n,rfl,rfl,hz,h1,h2,q⟩:=h
  obtain⟨t,rfl⟩:=rx
  obtain⟨t',rfl⟩:=ry
  refine SB.mul ⟨?_,fun _ _=>?_,fun _ _=>?_⟩ fun t' k=>⟨.str (Txt.mul z n),H,I.tok _,⟨_,rfl⟩,q⟩
  · rw[decide_eq_false (by omega),decide_eq_false (by omega)];rfl
  · have:2^50<=(2^63-1) / n:=by
      rw[Int.le_ediv_iff_mul_le (by omega)]
      omega
    omega
  · have:z.length*n.toNat<=1000*1000:=Nat.mul_le_mul hz (by omega)
    show decide (_ > sizeLine)=false
    rw[sizeLine_eq]
    exact decide_eq_false (by omega)
end
end L2

set_option maxHeartbeats 4000000
namespace L2
open PySem PySem.Spec PyProof.Rows
def Al (h:Heap)(_:List Value)(n:Str)(y:Option Value)(l:List Value): Prop:=∀(M:Model) (C:Addr) (bm:List Value),l=.ref C::bm->PySem.W.Looks M h (typeLookup (.ref C) n) y
theorem Al.keeps {h h':Heap}{bmB tl:List Value}{n:Str}{y:Option Value}(T:Al h bmB n y tl)(hk:∀b o,h.get? b=some o->h'.get? b=some o): Al h' bmB n y tl:=fun M C bm e=>(T M C bm e).keeps hk
theorem al_of {K:PySem.W.Frag}{C:Addr}{n:Str}{y:Option Value}{bmB bm:List Value}(e:PySem.W.findIn K (.ref C) n=some y): ∀h:Heap,K.In h->Al h bmB n y (.ref C::bm):=fun h X M C' bm' q=>by
  cases q
  exact PySem.W.looks_findIn X e
section
variable {M:Model}{A:Around}{E:Value->Shared->Prop}{h:Heap}{g:Array GenState}{d:Drawn}{t:Nat}{os:OsState}
variable {nm q:Str}{C N:Addr}{bs bm bmB:List Value}{hdct:Bool}{sn:List Str}{sub:List Value}{ab:Bool}{col:Option Bool}{dd:Option Addr}{k0 k1 k2 k3 k5:Option Value}{B newId initId:String}
theorem Al.look {n:Str}{y:Option Value}{Q:Option Value->Shared->Prop}(hC:h.get? C=some (excClassObj nm q C N bs bm hdct sn sub ab col dd k0 k1 k2 k3 k5 newId))(T:Al h bmB n y (.ref C::bm))(hq:Q y ⟨h,g,d,t,os⟩):
    wpAny M A (typeLookup (.ref C) n) Q E ⟨h,g,d,t,os⟩:=(T M C bm rfl).at hq
def Hs (bmB bm:List Value): Prop:=∀X:String,bm.contains (.type X)=bmB.contains (.type X)
theorem Hs.has {X:String}{b:Bool}(T:Hs bmB bm)(hb:bmB.contains (.type X)=b): bm.contains (.type X)=b:=(T X).trans hb
theorem new_check (F:ExcBaseFacts B newId initId bmB)(T:Hs bmB bm){rest:List Value}{Q:Unit->Shared->Prop}(hC:h.get? C=some (excClassObj nm q C N bs bm hdct sn sub ab col dd k0 k1 k2 k3 k5 newId))
    (hq:Q () ⟨h,g,d,t,os⟩):wpAny M A (checkBuiltinCall newId ⟨.ref C::rest,[]⟩) Q E ⟨h,g,d,t,os⟩:=by
  have hcont:(Value.ref C::bm).contains (.type B)=true:=by rw[List.contains_cons,T.has F.hasB,Bool.or_true]
  have hstar:=F.noStar
  simp only [checkBuiltinCall,F.newKind,F.newSplit,F.newRow]
  repeat (first | refine wpAny_loadPart_at hC ?_ | (refine wpAny_isSubtype_exc hC ?_;rw[hcont]) | refine wpAny_staticBase_exc hC ?_ | refine wpAny_madeBy_exc hC ?_ | simp only [bne_self_eq_false,Bool.false_eq_true,if_false] | wp_step)
  exact hq
end
section
variable {prog:Program}{w:World}{A:Around}{E:Value->Shared->Prop}{h:Heap}{g:Array GenState}{d:Drawn}{t:Nat}{os:OsState}
variable {nm q:Str}{C N:Addr}{bs bm bmB:List Value}{hdct:Bool}{sn:List Str}{sub:List Value}{ab:Bool}{col:Option Bool}{dd:Option Addr}{k0 k1 k2 k3 k5:Option Value}{B newId initId:String}
theorem new_code {R:Result->Shared->Prop}(F:ExcBaseFacts B newId initId bmB)(T:Hs bmB bm){rest:List Value}(hC:h.get? C=some (excClassObj nm q C N bs bm hdct sn sub ab col dd k0 k1 k2 k3 k5 newId))(hrest:rest.length<=sizeLine)
    (hq:R (.ok (.ret (.ref (h.objs.size+1)))) ⟨(h.push { cls:=.type "tuple",data:=.seq rest.toArray }).push
      { cls:=.ref C,data:=.fields #[.ref h.objs.size,.none,.none,.none,.bool false,.none] },g,d,t,os⟩) :
    codeAny (model prog w) A (.builtin newId ⟨.ref C::rest,[]⟩) R ⟨h,g,d,t,os⟩:=by
  have hends:=F.ends
  have hcB:(Value.ref C::bm).contains (.type B)=true:=by rw[List.contains_cons,T.has F.hasB,Bool.or_true]
  have hcA:(Value.ref C::bm).contains (.type "AttributeError")=false:=by rw[List.contains_cons,T.has F.noAttr];rfl
  have hcN:(Value.ref C::bm).contains (.type "NameError")=false:=by rw[List.contains_cons,T.has F.noName];rfl
  refine codeAny_builtinAt F.entry ?_
  unfold Builtin.«BaseException.__new__»
  refine PySem.wpAt_bind ?_
  show PySem.wpAt _ _ _ (stack >>= _) _ _ _
  refine PySem.wpAt_bind (PySem.wpAt_stack fun p below=>PySem.wpAt_of_wpAny ?_)
  wp_walk
  refine PySem.wpAt_of_wpAny ?_
  rw[F.owner]
  repeat (first | with_reducible refine wpAny_madeHere_exc F.canon hC ?_ | with_reducible refine wpAny_loadPart_at hC ?_ | (with_reducible refine wpAny_isSubtype_exc hC ?_;first | rw[hcB] | rw[hcA] | rw[hcN]) | wp_step)
  show R _ _
  rw[Heap.size_push]
  exact hq
theorem type_init (F:ExcBaseFacts B newId initId bmB)(T:Hs bmB bm){rest:List Value}{fI:Addr}{oI:Obj}{Q:Fin->Shared->Prop}
    (hC:h.get? C=some (excClassObj nm q C N bs bm hdct sn sub ab col dd k0 k1 k2 k3 k5 newId)) (hi:Al h bmB "__init__" (some (.ref fI)) (.ref C::bm))
    (hfI:h.get? fI=some oI) (hfc:oI.cls=.type "function") (hrest:rest.length<=sizeLine)
    (hq:∀h' e,Heap.MadeExcOf h h' e (.ref C) rest->h.objs.size<=e ->
      wpAny (model prog w) A (call (.ref fI) (.ref e::rest)) (fun r s'=>r=.none/\Q (.done (.ret (.ref e))) s') E ⟨h',g,d,t,os⟩) :
    wpAny (model prog w) A (Builtin.«type.__call__» ⟨.ref C::rest,[]⟩) Q E ⟨h,g,d,t,os⟩:=by
  repeat (first | with_reducible refine wpAny_loadPart_at hC ?_ | with_reducible refine wpAny_madeBy_exc hC ?_ | wp_step)
  refine codeAny_call_builtin_code (Code.quiet_builtin _ F.quiet) (new_check F T hC ?_)
  refine new_code F T hC hrest ?_
  show wpAny _ _ _ _ _ _
  have kp:∀b o,h.get? b=some o->((h.push { cls:=.type "tuple",data:=.seq rest.toArray }).push { cls:=.ref C,data:=.fields #[.ref h.objs.size,.none,.none,.none,.bool false,.none] }).get? b=some o :=
    fun b o e=>Heap.get?_push_of_some _ (Heap.get?_push_of_some _ e)
  have hget:((h.push { cls:=.type "tuple",data:=.seq rest.toArray }).push
      { cls:=.ref C,data:=.fields #[.ref h.objs.size,.none,.none,.none,.bool false,.none] }).get? (h.objs.size+1)=some
      { cls:=.ref C,data:=.fields #[.ref h.objs.size,.none,.none,.none,.bool false,.none] }:=by heap_get
  have hC₁:=kp _ _ hC
  have hfI₁:=kp _ _ hfI
  have hcC:(Value.ref C::bm).contains (.ref C)=true:=by simp
  unfold isInstance
  repeat (first | with_reducible refine wpAny_loadPart_at hget ?_ | (with_reducible refine wpAny_isSubtype_exc hC₁ ?_;rw[hcC]) | wp_step)
  show wpAny _ _ (typeLookup (.ref C) _) _ _ _
  refine(hi.keeps kp).look hC₁ ?_
  refine wpAny_holding (wpAny_bind ?_)
  unfold bindSpecial
  refine wpAny_bind (wpAny_typeOf (T := "function") ⟨_,hfI₁,hfc⟩ ?_)
  rw[if_pos (by decide)]
  refine wpAny_pure (wpAny_bind (wpAny_mono (hq _ (h.objs.size+1) ⟨kp,Heap.get?_none_of_le (Nat.le_succ _),h.objs.size,hget,Heap.get?_none_of_le (Nat.le_refl _),?_⟩ (Nat.le_succ _)) (fun r s' hr=>?_) fun _ _ x=>x))
  · exact Heap.get?_push_of_some _ (Heap.get?_push_at rfl rfl)
  · obtain⟨rfl,hQ⟩:=hr
    wp_walk
    exact hQ
theorem call_init (F:ExcBaseFacts B newId initId bmB)(T:Hs bmB bm){rest:List Value}{fI:Addr}{oI:Obj}{Q:Value->Shared->Prop}
    (hC:h.get? C=some (excClassObj nm q C N bs bm hdct sn sub ab col dd k0 k1 k2 k3 k5 newId)) (hi:Al h bmB "__init__" (some (.ref fI)) (.ref C::bm))
    (hfI:h.get? fI=some oI) (hfc:oI.cls=.type "function") (hrest:rest.length<=sizeLine)
    (hq:∀h' e,Heap.MadeExcOf h h' e (.ref C) rest->h.objs.size<=e ->
      wpAny (model prog w) (A.under (.builtin "type.__call__" ⟨.ref C::rest,[]⟩)) (call (.ref fI) (.ref e::rest)) (fun r s'=>r=.none/\Q (.ref e) s') E ⟨h',g,d,t,os⟩) :
    wpAny (model prog w) A (call (.ref C) rest) Q E ⟨h,g,d,t,os⟩:=by
  have f1:=tc_lookup
  have f2:=tc_bind (.ref C)
  have hT:(⟨h,g,d,t,os⟩:Shared).TypeIs (.ref C) "type" := ⟨_,hC,rfl⟩
  refine wpAny_call (codeAny_of_tree ?_)
  show wpAny _ _ (callAny (.ref C) _) _ _ _
  repeat (any_goals (first | assumption | with_reducible refine wpAny_loadPart_at hC ?_ | wp_step))
  refine⟨rfl,?_⟩
  exact codeAny_call_builtin_at (Code.quiet_builtin _ (by decide +kernel)) entry_typeCall (wpAny_check_type_call_sub hC (type_init F T hC hi hfI hfc hrest hq))
theorem raise_stmt {M:Model} {env:Env} {s:Shared} {x:Sem Value} {Q:Flow->Shared->Prop} (hbase:bm.contains (.type "BaseException")=true) (hh:A.handled=none)
    (h:wpAny M A x (fun v s₁=>∃e oe,v=.ref e/\s₁.heap.get? C=some (excClassObj nm q C N bs bm hdct sn sub ab col dd k0 k1 k2 k3 k5 newId) ∧
      s₁.heap.get? e=some oe/\oe.cls=.ref C/\(∃vs,oe.data=.fields vs/\vs[1]?=some .none)/\E (.ref e) s₁) E s) :
    wpAny M A (raiseStmt env (some x) none) Q E s:=by
  have hcB:(Value.ref C::bm).contains (.type "BaseException")=true:=by rw[List.contains_cons,hbase,Bool.or_true]
  unfold raiseStmt
  refine wpAny_bind (wpAny_mono h (fun v s₁ h₁=>?_) fun _ _ x=>x)
  obtain⟨e,oe,rfl,hC,he,hcl,⟨vs,hdt,v1⟩,hE⟩:=h₁
  obtain⟨hp,g,d,tk,os⟩:=s₁
  obtain⟨oc,od,odt,osl⟩:=oe
  dsimp only at hcl hdt
  subst hcl
  subst hdt
  repeat (first | with_reducible refine wpAny_loadPart_at he ?_ | with_reducible refine wpAny_loadPart_at hC ?_ | (with_reducible refine wpAny_isSubtype_exc hC ?_;rw[hcB]) | wp_step)
  rw[v1]
  refine wpAny_pure ?_
  exact wpAny_pure (wpAny_raiseNew_none hh hE)
theorem raise_init {env:Env}{s:Shared}(F:ExcBaseFacts B newId initId bmB)(T:Hs bmB bm){fI:Addr}{oI:Obj}{x:Str}{np cpos pos:Pos}{args:List Expr}{Q:Flow->Shared->Prop}
    (hbase:bm.contains (.type "BaseException")=true) (hh:A.handled=none) (hplain:(backTo cpos (starEach args env)).any (·.1)=false)
    (h:wpAny (model prog w) A (eval (.Name x np) env) (fun f s₁=>f=.ref C/\wpAny (model prog w) A (evalArgs (.ref C) true (backTo cpos (starEach args env)) [])
      (fun a s₂=>a.kw=[]/\a.pos.length<=sizeLine/\s₂.heap.get? C=some (excClassObj nm q C N bs bm hdct sn sub ab col dd k0 k1 k2 k3 k5 newId)/\Al s₂.heap bmB "__init__" (some (.ref fI)) (.ref C::bm)/\s₂.heap.get? fI=some oI/\oI.cls=.type "function" ∧
        ∀h' e,Heap.MadeExcOf s₂.heap h' e (.ref C) a.pos->s₂.heap.objs.size<=e->wpAny (model prog w) (A.under (.builtin "type.__call__" ⟨.ref C::a.pos,[]⟩)) (call (.ref fI) (.ref e::a.pos))
          (fun r s₃=>r=.none/\s₃.heap.get? C=some (excClassObj nm q C N bs bm hdct sn sub ab col dd k0 k1 k2 k3 k5 newId)/\(∃oe,s₃.heap.get? e=some oe/\oe.cls=.ref C/\∃vs,oe.data=.fields vs/\vs[1]?=some .none)/\E (.ref e) s₃) E { s₂ with heap:=h' }) E s₁) E s) :
    wpAny (model prog w) A (exec (.Raise (some (.Call (.Name x np) args [] cpos)) none pos) env) Q E s:=by
  rw[arm_exec_Raise]
  first
    | refine wpAny_bind (wpAny_standAt (raise_stmt (C:=C) (nm:=nm) (q:=q) (N:=N) (bs:=bs) (bm:=bm) (hdct:=hdct) (sn:=sn) (sub:=sub) (ab:=ab) (col:=col) (dd:=dd) (k0:=k0) (k1:=k1) (k2:=k2) (k3:=k3) (k5:=k5) (newId:=newId) hbase hh (wpAny_bind (wpAny_mono (wpAny_Call_ofName (wpAny_mono h (fun f s₁ h₁=>?_) fun _ _ x=>x)) (fun v s₃ h₃=>wpAny_bind (wpAny_standAt (wpAny_pure h₃))) fun _ _ x=>x))))
    | (simp only [evalOpt,Option.map];refine wpAny_bind (wpAny_standAt (raise_stmt (C:=C) (nm:=nm) (q:=q) (N:=N) (bs:=bs) (bm:=bm) (hdct:=hdct) (sn:=sn) (sub:=sub) (ab:=ab) (col:=col) (dd:=dd) (k0:=k0) (k1:=k1) (k2:=k2) (k3:=k3) (k5:=k5) (newId:=newId) hbase hh (wpAny_bind (wpAny_mono (wpAny_Call_ofName (wpAny_mono h (fun f s₁ h₁=>?_) fun _ _ x=>x)) (fun v s₃ h₃=>wpAny_bind (wpAny_standAt (wpAny_pure h₃))) fun _ _ x=>x)))))
  obtain⟨rfl,h₁⟩:=h₁
  unfold callWith
  refine wpAny_bind (wpAny_holding (wpAny_mono h₁ (fun a s₂ h₂=>wpAny_bind (wpAny_standAt ?_)) fun _ _ x=>x))
  obtain⟨apos,akw⟩:=a
  obtain⟨hkw,hlen,hC,hi,hfI,hfc,h₂⟩:=h₂
  obtain rfl:akw=[]:=hkw
  obtain⟨hp,g,d,tk,os⟩:=s₂
  simp only [hplain]
  refine wpAny_bind (wpAny_keeperOf_exc hC ?_)
  refine wpAny_bind (call_init F T hC hi hfI hfc hlen fun h' e hm hz=>wpAny_mono (h₂ h' e hm hz) (fun r s₃ hr=>⟨hr.1,wpAny_bind (wpAny_holding (wpAny_point (wpAny_pure ?_)))⟩) fun _ _ x=>x)
  obtain⟨_,hC3,⟨oe,he,hcl,hv⟩,hE⟩:=hr
  exact⟨e,oe,rfl,hC3,he,hcl,hv,hE⟩
end
def exM (a:Addr)(cls:Value)(dct:Option Addr): HO:=.ext fun h=>∃oe vs,h.get? a=some oe/\oe.cls=cls/\oe.dict=dct/\oe.data=.fields vs/\vs[1]?=some .none
def xdW (a:Addr)(fs:List (Str×V)): HO:=.ext fun h=>∃mA,h.Ns1 a mA/\(∀f,RelO (fs.lookup f) (mA f))/\PySem.Within mA (fs.map (·.1))
def del (H:Hp)(a:Addr): Hp:=fun b=>if b=a then none else H b
theorem del_same {H:Hp}{a:Addr}: del H a a=none:=if_pos rfl
theorem del_ne {H:Hp}{a b:Addr}(h:b≠a): del H a b=H b:=if_neg h
theorem del_some {H:Hp}{a b:Addr}{o:HO}(h:del H a b=some o): b≠a/\H b=some o:=by
  unfold del at h
  by_cases q:b=a
  · rw[if_pos q] at h;cases h
  · rw[if_neg q] at h;exact⟨q,h⟩
theorem exM_ok {P:Program}{w:World}{H:Hp}{h:Heap}{a:Addr}{cls:Value}{dct:Option Addr}{oe:Obj}{vs:Array Value}(e:h.get? a=some oe)(c:oe.cls=cls)(d:oe.dict=dct)(t:oe.data=.fields vs)(n:vs[1]?=some .none): ObjOk P w H h a (exM a cls dct) :=
  ⟨⟨oe,vs,e,c,d,t,n⟩,⟨_,e⟩,fun h1 h2 ⟨o',ws,q1,q2⟩ k=>⟨o',ws,k _ q1,q2⟩⟩
theorem un_del {fs:List Addr}{H1 H2:Hp}{h1 h2 h3:Heap}{e:Addr}{o:HO}(n:h1.get? e=none)(ne:H1 e=none)(k:∀b u,h1.get? b=some u->h2.get? b=some u)(u:Un fs [] (upd H1 e o) H2 h2 h3): Un fs [] H1 (del H2 e) h1 h3:=by
  have ap:∀b ob,h1.get? b=some ob->b≠e:=fun b ob q z=>by rw[z,n] at q;cases q
  have tr:∀b u,H1 b=some u->b≠e:=fun b u q=>ne_of_none q ne
  refine⟨fun b ob q m hb hx=>u.keep b ob (k _ _ q) (by rw[upd_ne (ap b ob q)];exact m) hb hx,fun b ob q m hb hx=>u.slot b ob (k _ _ q) (by rw[upd_ne (ap b ob q)];exact m) hb hx,fun b ob q m hx=>?_,fun b ob q hx=>u.there b ob (k _ _ q) hx,fun b xs q=>?_,fun b ob v q=>?_,fun b ps q=>?_⟩
  · rw[del_ne (ap b ob q)];exact u.free b ob (k _ _ q) (by rw[upd_ne (ap b ob q)];exact m) hx
  · rw[del_ne (tr _ _ q)];exact u.tups b xs (by rw[upd_ne (tr _ _ q)];exact q)
  · rw[del_ne (tr _ _ q)];exact u.frzs b ob v (by rw[upd_ne (tr _ _ q)];exact q)
  · rw[del_ne (tr _ _ q)];exact u.tbls b ps (by rw[upd_ne (tr _ _ q)];exact q)
theorem hok_del {P:Program}{w:World}{H:Hp}{h:Heap}{e:Addr}{cls:Value}{dct:Option Addr}(x:HOk P w H h)(he:H e=some (exM e cls dct)): HOk P w (del H e) h:=fun b u q=>by
  obtain⟨q1,q2⟩:=del_some q
  refine(x b u q2).stay (fun _ _ _ z=>z) (fun c z=>?_) fun c xs z=>?_
  · rw[del_ne fun y=>by rw[y,he] at z;cases z];exact z
  · rw[del_ne fun y=>by rw[y,he] at z;cases z];exact z
def XInit (K:PySem.W.Frag)(C fI:Addr): Prop:=∃bm N nm qn bs hdct sn sub ab col dd k0 k1 k2 k3 k5,K.lookup C=some (excClassObj nm qn C N bs bm hdct sn sub ab col dd k0 k1 k2 k3 k5 "ValueError.__new__")/\Hs bmV bm ∧
  (∀h:Heap,K.In h->Al h bmV "__init__" (some (.ref fI)) (.ref C::bm))/\∃oI,K.lookup fI=some oI/\oI.cls=.type "function"
def tRaiseI (C:Addr)(sp:Sp)(dvs:List V)(E:St->XK)(t:TA): TS:=fun _ σ H=>t σ H fun vs H1=>vs.length<=sizeLine/\∀e,H1 e=none ->
  sp (.ref e::(vs++dvs)) (upd H1 e (exM e (.ref C) none)) (fun v H2=>v=.non/\∃dct,H2 e=some (exM e (.ref C) dct)/\E σ (.ref C) dct (del H2 e)) (fun _ _ _=>False)
section
variable {X:Cx}{E:St->XK}{x:Str}{C f:Addr}{e₀:Expr}{es:List Expr}{t:TA}{np cpos pos:Pos}{k:Nat}{fd:FuncData}{ps:List Str}{sp:Sp}{dvs:List V}{ds:List Value}
theorem ps_raiseI (hC:XInit X.K C f) (F:FnOk X.prog X.w X.K X.mg X.base (CXE X.prog X.w) k f fd ps sp) (hr:Room (k+1) X.A) (hb:Binds X.K fd ps ds) (hd:Vals dvs ds) (hc:X.calm=true) (hg:Gl X x) (hm:X.mg x=some (.ref C)) (hx:PassesX (CXE X.prog X.w) X E) (ha:PA X (e₀::es) t) (hdb:(x==("__debug__" : Str))=false:=by decide)
    (he:starEach (e₀::es) X.env=(false,eval e₀ X.env)::starEach es X.env:=by rfl) (hpl:(backTo cpos (starEach es X.env)).any (·.1)=false:=by rfl) :
    PS X (.Raise (some (.Call (.Name x np) (e₀::es) [] cpos)) none pos) (tRaiseI C sp dvs E t):=by
  intro pins s σ H D I h
  obtain⟨bm,N,nm,qn,bs,hdct,sn,sub,ab,col,dd,k0,k1,k2,k3,k5,f4,f3,f2,oI,f5,f6⟩:=hC
  refine raise_init (C:=C) (nm:=nm) (q:=qn) (N:=N) (bs:=bs) (bm:=bm) (hdct:=hdct) (sn:=sn) (sub:=sub) (ab:=ab) (col:=col) (dd:=dd) (k0:=k0) (k1:=k1) (k2:=k2) (k3:=k3) (k5:=k5) (fI:=f) (oI:=oI)
    PySem.F.excBase_ValueError f3 (f3.has PySem.F.excBase_ValueError.hasBase) (I.ok.hd hc) ?_ (ld_glob I hg hm ⟨rfl,?_⟩ hdb)
  · rw[he]
    show (false || (backTo cpos (starEach es X.env)).any (·.1))=false
    rw[hpl]
    rfl
  · have ha':=ha cpos pins s σ H _ I h
    rw[he] at ha' ⊢
    refine Calls.evalArgs_plain (thn ha' fun us s2 q=>?_)
    obtain⟨vs,H1,I1,r,z,q⟩:=q
    refine⟨rfl,by rw[<-r.length];exact z,I1.kIn _ _ f4,f2 _ I1.kIn,I1.kIn _ _ f5,f6,fun h' e hmade hz=>?_⟩
    obtain⟨tp,q1,_,_⟩:=hmade.there
    have hne:H1 e=none:=h_none I1 hmade.new
    have I2:Inv X pins σ (upd H1 e (exM e (.ref C) none)) { s2 with heap:=h' }:=I1.laid hmade.keeps hz (exM_ok q1 rfl rfl rfl rfl)
    have hq:=q e hne
    have r2:Vals (V.ref e::(vs++dvs)) (Value.ref e::(us++ds)):=.cons rfl (r.append hd)
    have hl:(Value.ref e::us++ds).length=ps.length:=by
      have e:=r2.length
      rw[F.len _ _ _ _ hq] at e
      exact e.symm
    refine wpAny_call (codeAny_mono (F.run _ X.stack _ _ ⟨Value.ref e::us,[]⟩ (Value.ref e::(us++ds)) _ _ _ (hr.make C us []) (I2.env0.make C us []) (hb _ (Value.ref e::us) I2.kIn hl) r2 hq) fun r s' hq'=>?_)
    cases r with
    | error e' =>
      obtain⟨_,_,_,_,_,_,_,_,_,_,z⟩:=hq'
      exact z.elim
    | ok fl =>
      cases fl with
      | ret u =>
        have I3:=I2.after hq'
        obtain⟨v,H',os',bare,un,hok,rv,ev,dct,hx',qE⟩:=hq'
        subst ev
        obtain⟨oe,vs',g1,g2,g3,g4,g5⟩:=(hok e _ hx').1
        obtain⟨_,H'',I3',_,_,_,_,_⟩:=I3
        refine⟨rv,I3'.kIn _ _ f4,⟨oe,g1,g2,vs',g4,g5⟩,?_⟩
        exact hx pins σ H1 s2 (.ref e) s' I1 ⟨e,.ref C,dct,del H' e,rfl,os',bare,un_del hmade.new hne hmade.keeps un,hok_del hok hx',⟨.none,⟨oe,vs',g1,g2,g3,g4,g5,.inl rfl⟩,del_same,hmade.new,fun T z=>nomatch z⟩,qE⟩
      | next=>exact False.elim hq'
      | brk=>exact False.elim hq'
      | cont=>exact False.elim hq'
end
end L2

set_option maxHeartbeats 4000000
namespace L2
open PySem PySem.Spec PyProof.Rows
open Builtin Builtin.ObjectAttr
section
variable {prog:Program}{w:World}{A:Around}{E:Value->Shared->Prop}{h:Heap}{g:Array GenState}{d:Drawn}{t:Nat}{os:OsState}
variable {nm q:Str}{C N x:Addr}{bs bm bmB:List Value}{sn:List Str}{sub:List Value}{ab:Bool}{col:Option Bool}{dd:Option Addr}{k0 k1 k2 k3 k5:Option Value}{B newId sa owner:String}{mA:Str->Option Value}{name:Str}{v:Value}{o:Obj}
theorem sa_check {M:Model}{nameV:Value}{Q:Unit->Shared->Prop}(SF:StoreFacts B bmB sa owner)(T:Hs bmB bm)
    (hC:h.get? C=some (excClassObj nm q C N bs bm true sn sub ab col dd k0 k1 k2 k3 k5 newId)) (hx:h.get? x=some o) (hc:o.cls=.ref C) (hq:Q () ⟨h,g,d,t,os⟩) :
    wpAny M A (checkBuiltinCall sa ⟨[.ref x,nameV,v],[]⟩) Q E ⟨h,g,d,t,os⟩:=by
  have hcB:(Value.ref C::bm).contains (.type owner)=true:=by rw[List.contains_cons,T.has SF.hasOwner,Bool.or_true]
  have ha:=SF.args (.ref x) nameV v
  simp only [checkBuiltinCall,SF.kind,SF.split]
  refine wpAny_bind ?_
  · unfold isInstance
    repeat (first | (with_reducible refine wpAny_loadPart_at hx ?_;rw[hc]) | (with_reducible refine wpAny_isSubtype_exc hC ?_;rw[hcB]) | wp_step)
    cases hsig:Manifest.signature? sa with
    | none=>exact wpAny_pure hq
    | some sig =>
      simp only [argsOk,hsig] at ha
      have h2:Bind.checkArgs sa sig ⟨[.ref x,nameV,v],[]⟩=pure ():=ha
      show wpAny M A (Bind.checkArgs sa sig ⟨[.ref x,nameV,v],[]⟩) Q E _
      rw[h2];exact wpAny_pure hq
theorem sa_first {tk:Tok} {Q:Fin->Shared->Prop} (hp:∀self:Value,refuseLoop self "__setattr__" bm=pure ())
    (hC:h.get? C=some (excClassObj nm q C N bs bm true sn sub ab col dd k0 k1 k2 k3 k5 newId)) (hL:Al h bmB name none (.ref C::bm)) (hx:h.get? x=some o) (hc:o.cls=.ref C) (hnc:∀c,o.data≠.cls c) (hdn:o.dict=none)
    (hq:∀h' tk',h'.get? x=some { o with dict:=some h.objs.size }->h'.Ns1 h.objs.size (fun y=>if y=name then some v else none)->(∀b ob,b≠x->h.get? b=some ob->h'.get? b=some ob)->Q (.done (.ret .none)) ⟨h',g,d,tk',os⟩) :
    wpAny (model prog w) A (Builtin.«object.__setattr__» ⟨[.ref x,.str name tk,v],[]⟩) Q E ⟨h,g,d,t,os⟩:=by
  have hpass:=hp (.ref x)
  unfold Builtin.«object.__setattr__»
  repeat (first | rw[refuse_eq] | (rw[refuseLoop_ref,hpass]) | (with_reducible refine wpAny_loadPart_at hx ?_;rw[hc]) | with_reducible refine wpAny_mroOf_exc hC ?_ | (with_reducible refine Al.look hC hL ?_) | wp_step)
  rw[hdn,if_neg (by simp[typeHasDict])]
  split
  · rename_i hcd
    cases hcd
  split
  · rename_i c hcd
    exact absurd hcd (hnc c)
  · have hx₁:(h.push { cls:=.type "dict",data:=.dict #[] }).get? x=some o:=Heap.get?_push_of_some _ hx
    have hxs:x≠h.objs.size:=Nat.ne_of_lt (Heap.lt_size hx)
    refine wpAny_bind (wpAny_alloc' ?_)
    refine wpAny_bind (wpAny_update' hx₁ ?_)
    refine wpAny_pure ?_
    have hgd:((h.push { cls:=.type "dict",data:=.dict #[] }).update x fun o=>{ cls:=o.cls,dict:=some h.objs.size,data:=o.data,slots:=o.slots }).get? h.objs.size
        = some { cls:=.type "dict",data:=.dict #[] } :=
      (Heap.get?_update_ne _ _ _ _ hxs.symm).trans (Heap.get?_push_at rfl rfl)
    have hnd:((h.push { cls:=.type "dict",data:=.dict #[] }).update x fun o=>{ cls:=o.cls,dict:=some h.objs.size,data:=o.data,slots:=o.slots }).Ns h.objs.size (fun _=>none) :=
      ⟨_,#[],_,hgd,rfl,fun e he=>absurd he (by simp),fun _=>rfl⟩
    show wpAny _ _ (storeInDict h.objs.size (.str name tk) name v) _ _ _
    unfold storeInDict newKeyGuard
    refine wpAny_bind (wpAny_pure (wpAny_bind (wpAny_nsSet1 (Heap.Ns1.of_empty hnd) fun h' hn' hs=>?_)))
    obtain⟨oD,esD,epD,hoD,hdD,hcD⟩:=hn'.count (PySem.Within.cons name v PySem.Within.nil)
    refine wpAny_bind (wpAny_lookBehind hoD (by rw[hdD];exact pastItsLine_dict (Nat.le_trans hcD (by rw[List.length_cons,List.length_nil,sizeLine_eq];omega))) ?_)
    wp_walk
    refine hq h' _ ?_ hn' (fun b ob hbx hb=>?_)
    · refine(hs.2 x hxs).trans (Heap.get?_update_self _ hx₁ ?_)
      have hfr:=(Heap.get?_some_iff.mp hx).2
      obtain⟨oc,od,odt,osl⟩:=o
      cases odt<;>first | rfl | exact hfr
    · exact(hs.2 b (Nat.ne_of_lt (Heap.lt_size hb))).trans ((Heap.get?_update_ne _ _ _ _ hbx).trans (Heap.get?_push_of_some _ hb))
theorem sa_later {tk:Tok} {Q:Fin->Shared->Prop} {dx:Addr} {ns:List Str} (hp:∀self:Value,refuseLoop self "__setattr__" bm=pure ())
    (hC:h.get? C=some (excClassObj nm q C N bs bm true sn sub ab col dd k0 k1 k2 k3 k5 newId)) (hL:Al h bmB name none (.ref C::bm)) (hx:h.get? x=some o) (hc:o.cls=.ref C) (hdx:o.dict=some dx) (hns:h.Ns1 dx mA)
    (hw:PySem.Within mA ns) (hsz:ns.length<=sizeLine)
    (hq:∀h' tk',h'.Ns1 dx (fun y=>if y=name then some v else mA y)->(∀b ob,b≠dx->h.get? b=some ob->h'.get? b=some ob)->Q (.done (.ret .none)) ⟨h',g,d,tk',os⟩) :
    wpAny (model prog w) A (Builtin.«object.__setattr__» ⟨[.ref x,.str name tk,v],[]⟩) Q E ⟨h,g,d,t,os⟩:=by
  have hpass:=hp (.ref x)
  unfold Builtin.«object.__setattr__»
  repeat (first | rw[refuse_eq] | (rw[refuseLoop_ref,hpass]) | (with_reducible refine wpAny_loadPart_at hx ?_;rw[hc]) | with_reducible refine wpAny_mroOf_exc hC ?_ | (with_reducible refine Al.look hC hL ?_) | wp_step)
  rw[hdx]
  refine wpAny_pure ?_
  show wpAny _ _ (storeInDict dx (.str name tk) name v) _ _ _
  unfold storeInDict newKeyGuard
  refine wpAny_bind (wpAny_pure (wpAny_bind (wpAny_nsSet1 hns fun h' hn' hs=>?_)))
  obtain⟨oD,esD,epD,hoD,hdD,hcD⟩:=hn'.count (PySem.Within.cons name v hw)
  refine wpAny_bind (wpAny_lookBehind hoD (by rw[hdD];exact pastItsLine_dict (Nat.le_trans hcD (by rw[List.length_cons];omega))) ?_)
  wp_walk
  exact hq h' _ hn' fun b ob hbd hb=>(hs.2 b hbd).trans hb
theorem sa_attr {Q:Unit->Shared->Prop}(SF:StoreFacts B bmB sa owner)(T:Hs bmB bm)
    (hC:h.get? C=some (excClassObj nm q C N bs bm true sn sub ab col dd k0 k1 k2 k3 k5 newId)) (hS:Al h bmB "__setattr__" (some (.builtin sa)) (.ref C::bm)) (hx:h.get? x=some o) (hc:o.cls=.ref C)
    (hq:∀(tk:Tok) (t':Nat) (A':Around),wpAny (model prog w) A' (Builtin.«object.__setattr__» ⟨[.ref x,.str name tk,v],[]⟩) (fun r s'=>r=.done (.ret .none)/\Q () s') (fun _ _=>False) ⟨h,g,d,t',os⟩) :
    wpAny (model prog w) A (setAttr (.ref x) name v) Q E ⟨h,g,d,t,os⟩:=by
  have f3:=SF.slot.bind (.ref x)
  unfold setAttr callSpecial? specialOf
  repeat (any_goals (first | assumption | (with_reducible refine wpAny_loadPart_at hx ?_;rw[hc]) | (with_reducible refine Al.look hC hS ?_) | wp_step))
  refine codeAny_call_builtin SF.slot.plain SF.entry (sa_check SF T hC hx hc ?_)
  refine wpAny_mono (hq _ _ _) (fun r s' hr=>?_) fun _ _ z=>z.elim
  obtain⟨rfl,hr⟩:=hr
  repeat (any_goals (first | assumption | wp_step))
end
def XSet (K:PySem.W.Frag)(C:Addr)(f:Str): Prop:=∃bm N nm qn bs sn sub ab col dd k0 k1 k2 k3 k5 nid,K.lookup C=some (excClassObj nm qn C N bs bm true sn sub ab col dd k0 k1 k2 k3 k5 nid)/\Hs bmV bm ∧
  (∀self:Value,refuseLoop self "__setattr__" bm=pure ())/\(∀h:Heap,K.In h->Al h bmV "__setattr__" (some (.builtin "object.__setattr__")) (.ref C::bm))/\∀h:Heap,K.In h->Al h bmV f none (.ref C::bm)
theorem xdW_ok {P:Program}{w:World}{H:Hp}{h:Heap}{d:Addr}{fs:List (Str×V)}{mA:Str->Option Value}(n:h.Ns1 d mA)(r:∀f,RelO (fs.lookup f) (mA f))(wi:PySem.Within mA (fs.map (·.1))): ObjOk P w H h d (xdW d fs):=by
  obtain⟨od,es,ep,e,c⟩:=id n
  exact⟨⟨mA,n,r,wi⟩,⟨_,e⟩,fun h1 h2 ⟨m,⟨od,es,ep,e,c⟩,q⟩ k=>⟨m,⟨od,es,ep,k _ e,c⟩,q⟩⟩
section
variable {X:Cx}{pins:List (Addr×Obj)}{σ:St}{H:Hp}{s:Shared}{a d C:Addr}{f:Str}{A:Around}{E:Value->Shared->Prop}
theorem Inv.two {o1 o2:HO}{φ:Heap->Prop}{s':Shared}(I:Inv X pins σ H s)(ha:H a=some (.ext φ))(hd:(H d=none/\s.heap.get? d=none)\/∃ψ,H d=some (.ext ψ))(ne:d≠a)(hos:s'.os=s.os)(hg:s'.gens=s.gens)
    (kp:∀b ob,b≠a->b≠d->s.heap.get? b=some ob->s'.heap.get? b=some ob) (ka:∃o,s'.heap.get? a=some o) (kd:∃o,s'.heap.get? d=some o)
    (n1:ObjOk X.prog X.w (upd (upd H d o1) a o2) s'.heap d o1) (n2:ObjOk X.prog X.w (upd (upd H d o1) a o2) s'.heap a o2):Inv X pins σ (upd (upd H d o1) a o2) s':=by
  have off:∀b ob,s.heap.get? b=some ob->H b=none->b≠a/\b≠d:=fun b ob e n=>⟨fun z=>(by rw[z,ha] at n;cases n),fun z=>by
    rcases hd with ⟨_,q⟩ | ⟨ψ,q⟩
    · rw[z,q] at e;cases e
    · rw[z,q] at n;cases n⟩
  have tr:∀b u,H b=some u->(∀ψ,u≠.ext ψ)->b≠a/\b≠d:=fun b u e n=>⟨fun z=>(by rw[z,ha] at e;cases e;exact n _ rfl),fun z=>by
    rcases hd with ⟨q,_⟩ | ⟨ψ,q⟩
    · rw[z,q] at e;cases e
    · rw[z,q] at e;cases e;exact n _ rfl⟩
  have up:∀b,b≠a/\b≠d->upd (upd H d o1) a o2 b=H b:=fun b n=>by rw[upd_ne n.1,upd_ne n.2]
  refine I.call' (ch:=[]) hos ⟨fun b ob e n _ _=>kp b ob (off b ob e n).1 (off b ob e n).2 e,fun b ob e n _ _=>⟨ob.slots,kp b ob (off b ob e n).1 (off b ob e n).2 e⟩,fun b ob e n _=>?_,fun b ob e _=>?_,fun b xs e=>?_,fun b ob u e=>?_,fun b ps e=>⟨#[],?_⟩⟩ (fun b u e=>?_) (by rw[hg];exact I.bare) fun b z=>absurd z (by simp)
  · rw[up b (off b ob e n)];exact n
  · by_cases za:b=a
    · rw[za];exact ka
    · by_cases zd:b=d
      · rw[zd];exact kd
      · exact⟨ob,kp b ob za zd e⟩
  · rw[up b (tr _ _ e (by intro ψ z;cases z))];exact e
  · rw[up b (tr _ _ e (by intro ψ z;cases z))];exact e
  · rw[up b (tr _ _ e (by intro ψ z;cases z)),e];simp
  · by_cases za:b=a
    · subst za
      rw[upd_same] at e;cases e
      exact n2
    · rw[upd_ne za] at e
      by_cases zd:b=d
      · subst zd
        rw[upd_same] at e;cases e
        exact n1
      · rw[upd_ne zd] at e
        refine(I.hok b u e).stay (fun c v hc q=>?_) (fun c q=>?_) fun c xs q=>?_
        · rcases hc with rfl | hc
          · exact kp _ _ za zd q
          · have n:=tr c _ hc (by intro ψ z;cases z)
            exact kp _ _ n.1 n.2 q
        · rw[up c (tr _ _ q (by intro ψ z;cases z))];exact q
        · rw[up c (tr _ _ q (by intro ψ z;cases z))];exact q
theorem setx1 {y:V}{u:Value}{Q:Unit->Shared->Prop}(I:Inv X pins σ H s)(e:H a=some (exM a (.ref C) none))(c:XSet X.K C f)(ry:RelV y u)
    (h:∀d s',H d=none->d≠a->Inv X pins σ (upd (upd H d (xdW d [(f,y)])) a (exM a (.ref C) (some d))) s'->Q () s'):wpAny (model X.prog X.w) A (setAttr (.ref a) f u) Q E s:=by
  obtain⟨bm,N,nm,qn,bs,sn,sub,ab,col,dd,k0,k1,k2,k3,k5,nid,c1,c2,c3,c4,c5⟩:=c
  obtain⟨oe,vs,g1,g2,g3,g4,g5⟩:=(I.hok a _ e).1
  have kin:=I.kIn
  have I0:=I
  obtain⟨hp,g,dr,tk,os⟩:=s
  refine sa_attr PySem.F.store_ValueError c2 (kin _ _ c1) (c4 _ kin) g1 g2 fun tk t' A'=>sa_first c3 (kin _ _ c1) (c5 _ kin) g1 g2 (fun z=>by rw[g4];intro q;cases q) g3 fun h' tk' q1 q2 q3=>⟨rfl,?_⟩
  have hd:H hp.objs.size=none:=I0.hok.fresh (Nat.le_refl _)
  have na:hp.objs.size≠a:=fun z=>by rw[z,e] at hd;cases hd
  refine h _ _ hd na (Inv.two I0 e (.inl ⟨hd,Heap.get?_none_of_le (Nat.le_refl _)⟩) na rfl rfl (fun b ob n1 _ q=>q3 b ob n1 q) ⟨_,q1⟩ (let ⟨o,_,_,e',_⟩:=q2;⟨o,e'⟩) (xdW_ok q2 (fun g=>?_) fun g hg=>?_) (exM_ok q1 g2 rfl g4 g5))
  · show RelO (List.lookup g [(f,y)]) (if g=f then some u else none)
    by_cases z:g=f
    · rw[if_pos z,z];simp only [List.lookup,beq_self_eq_true];exact ry
    · rw[if_neg z]
      have:(g==f)=false:=by simpa using z
      simp only [List.lookup,this]
      exact True.intro
  · by_cases z:g=f
    · rw[z];exact .head _
    · exact absurd (if_neg z) hg
theorem setx2 {y:V}{u:Value}{fs:List (Str×V)}{Q:Unit->Shared->Prop}(I:Inv X pins σ H s)(e:H a=some (exM a (.ref C) (some d)))(ed:H d=some (xdW d fs))(ne:d≠a)(c:XSet X.K C f)(hl:fs.length < 1000)(ry:RelV y u)
    (h:∀s',Inv X pins σ (upd (upd H d (xdW d (putF f y fs))) a (exM a (.ref C) (some d))) s'->Q () s'):wpAny (model X.prog X.w) A (setAttr (.ref a) f u) Q E s:=by
  obtain⟨bm,N,nm,qn,bs,sn,sub,ab,col,dd,k0,k1,k2,k3,k5,nid,c1,c2,c3,c4,c5⟩:=c
  obtain⟨oe,vs,g1,g2,g3,g4,g5⟩:=(I.hok a _ e).1
  obtain⟨mA,n1,r,wi⟩:=(I.hok d _ ed).1
  have kin:=I.kIn
  have I0:=I
  obtain⟨hp,g,dr,tk,os⟩:=s
  have hz:(fs.map (·.1)).length<=sizeLine:=by rw[List.length_map,sizeLine_eq];omega
  refine sa_attr PySem.F.store_ValueError c2 (kin _ _ c1) (c4 _ kin) g1 g2 fun tk t' A'=>sa_later c3 (kin _ _ c1) (c5 _ kin) g1 g2 g3 n1 wi hz fun h' tk' q2 q3=>⟨rfl,?_⟩
  refine h _ (Inv.two I0 e (.inr ⟨_,ed⟩) ne rfl rfl (fun b ob _ n2 q=>q3 b ob n2 q) ⟨_,q3 _ _ (Ne.symm ne) g1⟩ (let ⟨o,_,_,e',_⟩:=q2;⟨o,e'⟩) (xdW_ok q2 (fun g=>?_) fun g hg=>?_) (exM_ok (q3 _ _ (Ne.symm ne) g1) g2 g3 g4 g5))
  · show RelO ((putF f y fs).lookup g) (if g=f then some u else mA g)
    rw[lookup_putF]
    by_cases q:g=f
    · rw[if_pos q,if_pos q];exact ry
    · rw[if_neg q,if_neg q];exact r g
  · by_cases q:g=f
    · rw[q];exact(keys_putF f y fs).1
    · refine(keys_putF f y fs).2 g (wi g fun z=>hg ?_)
      show (if g=f then some u else mA g)=none
      rw[if_neg q];exact z
end
def sXFld1 (K:PySem.W.Frag)(ta tv:TE)(f:Str): TS:=fun D σ H=>tv σ H fun y H1=>ta σ H1 fun x H2=>∃a C,x=.ref a/\H2 a=some (exM a (.ref C) none)/\XSet K C f ∧
  ∀d,H2 d=none->d≠a->D.nx σ (upd (upd H2 d (xdW d [(f,y)])) a (exM a (.ref C) (some d)))
def sXFld2 (K:PySem.W.Frag)(ta tv:TE)(f:Str): TS:=fun D σ H=>tv σ H fun y H1=>ta σ H1 fun x H2=>∃a C d fs,x=.ref a/\H2 a=some (exM a (.ref C) (some d))/\H2 d=some (xdW d fs)/\d≠a/\XSet K C f/\fs.length < 1000 ∧
  D.nx σ (upd (upd H2 d (xdW d (putF f y fs))) a (exM a (.ref C) (some d)))
section
variable {X:Cx}{o value:Expr}{f:Str}{pos pos':Pos}{ta tv:TE}
theorem ps_xfld1 (ha:PE X o ta)(hv:PE X value tv)(hs:swapsWith value (some (.Attribute o f pos')) pos.line X.env=pure false): PS X (.Assign [.Attribute o f pos'] value pos) (sXFld1 X.K ta tv f):=by
  intro pins s σ H D I h
  refine plainObj_wpAny_Assign_Attribute (thn (hv pins s σ H _ I h) fun u s1 ⟨y,H1,I1,ry,q⟩=>thn (ha pins s1 σ H1 _ I1 q) fun ov s2 ⟨x,H2,I2,rx,a,C,ex,ea,c,q2⟩=>?_) hs
  subst ex
  obtain rfl:ov=Value.ref a:=rx
  exact setx1 I2 ea c ry fun d s3 n1 n2 I3=>⟨σ,_,I3,q2 d n1 n2⟩
theorem ps_xfld2 (ha:PE X o ta)(hv:PE X value tv)(hs:swapsWith value (some (.Attribute o f pos')) pos.line X.env=pure false): PS X (.Assign [.Attribute o f pos'] value pos) (sXFld2 X.K ta tv f):=by
  intro pins s σ H D I h
  refine plainObj_wpAny_Assign_Attribute (thn (hv pins s σ H _ I h) fun u s1 ⟨y,H1,I1,ry,q⟩=>thn (ha pins s1 σ H1 _ I1 q) fun ov s2 ⟨x,H2,I2,rx,a,C,d,fs,ex,ea,ed,ne,c,l,q2⟩=>?_) hs
  subst ex
  obtain rfl:ov=Value.ref a:=rx
  exact setx2 I2 ea ed ne c l ry fun s3 I3=>⟨σ,_,I3,q2⟩
end
end L2

set_option maxHeartbeats 4000000
namespace L2
open PySem PySem.Spec PyProof.Rows
section
variable {prog:Program}{w:World}{A:Around}{E:Value->Shared->Prop}{h:Heap}{g:Array GenState}{d:Drawn}{t:Nat}{os:OsState}{a dx:Addr}{o:Obj}{vs:Array Value}{v:Value}{name:Str}{mA:Str->Option Value}
  {nm q:Str} {C N:Addr} {bs bm bmB:List Value} {sn:List Str} {sub:List Value} {ab:Bool} {col:Option Bool} {dd:Option Addr} {k0 k1 k2 k3 k5:Option Value} {B newId:String}
theorem ga_check {M:Model} {nameV:Value} {Q:Unit->Shared->Prop} (hC:h.get? C=some (excClassObj nm q C N bs bm true sn sub ab col dd k0 k1 k2 k3 k5 newId)) (hB:bm.contains (.type "BaseException")=true)
    (hx:h.get? a=some o) (hc:o.cls=.ref C) (hq:Q () ⟨h,g,d,t,os⟩):wpAny M A (checkBuiltinCall "BaseException.__getattribute__" ⟨[.ref a,nameV],[]⟩) Q E ⟨h,g,d,t,os⟩:=by
  have hk:builtinKind "BaseException.__getattribute__" = some .slot:=by decide +kernel
  have hsplit:splitId "BaseException.__getattribute__" = some ("BaseException", "__getattribute__"):=by decide +kernel
  have hcB:(Value.ref C::bm).contains (.type "BaseException")=true:=by rw[List.contains_cons,hB,Bool.or_true]
  have ha:=PySem.F.args_bexc_ga (.ref a) nameV
  simp only [checkBuiltinCall,hk,hsplit]
  refine wpAny_bind ?_
  · unfold isInstance
    repeat (first | (with_reducible refine wpAny_loadPart_at hx ?_;rw[hc]) | (with_reducible refine wpAny_isSubtype_exc hC ?_;rw[hcB]) | wp_step)
    exact hq
theorem xl_entry {tk:Tok}{Q:Fin->Shared->Prop}(hC:h.get? C=some (excClassObj nm q C N bs bm true sn sub ab col dd k0 k1 k2 k3 k5 newId))(hL:Al h bmB name none (.ref C::bm))
    (hx:h.get? a=some o) (hc:o.cls=.ref C) (hd:o.data=.fields vs) (hdx:o.dict=some dx) (hns:h.Ns1 dx mA) (hv:mA name=some v) (hq:Q (.done (.ret v)) ⟨h,g,d,t,os⟩) :
    wpAny (model prog w) A (Builtin.«object.__getattribute__» ⟨[.ref a,.str name tk],[]⟩) Q E ⟨h,g,d,t,os⟩:=by
  unfold Builtin.«object.__getattribute__»
  repeat (first | (with_reducible refine wpAny_loadPart_at hx ?_;rw[hc]) | (with_reducible refine Al.look hC hL ?_) | wp_step)
  split
  · rename_i c hcd
    rw[hd] at hcd;cases hcd
  unfold instanceDict
  repeat (first | (with_reducible refine wpAny_loadPart_at hx ?_;rw[hc]) | with_reducible refine wpAny_loadPart_at hC ?_ | wp_step)
  rw[hdx]
  repeat (first | (with_reducible refine wpAny_nsGet hns.ns ?_;rw[hv]) | wp_step)
  exact hq
theorem xl_by {tk:Tok} {fill expr:Bool} {Q:Value->Shared->Prop} (FB:ExcAttrFacts B) (hC:h.get? C=some (excClassObj nm q C N bs bm true sn sub ab col dd k0 k1 k2 k3 k5 newId)) (hB:bm.contains (.type "BaseException")=true)
    (hG:Al h bmB "__getattribute__" (some (.builtin "BaseException.__getattribute__")) (.ref C::bm)) (hH:Al h bmB "__getattr__" none (.ref C::bm)) (hL:Al h bmB name none (.ref C::bm))
    (hx:h.get? a=some o) (hc:o.cls=.ref C) (hd:o.data=.fields vs) (hdx:o.dict=some dx) (hns:h.Ns1 dx mA) (hv:mA name=some v) (hh:handedOut v=pure v) (hq:Q v ⟨h,g,d,t,os⟩) :
    wpAny (model prog w) A (getAttrBy (.ref a) (.str name tk) fill expr) Q E ⟨h,g,d,t,os⟩:=by
  have f3:=FB.ga.bind (.ref a)
  have hx0:(expr&&onTheHeap (Value.builtin "BaseException.__getattribute__"))=false:=by cases expr<;>rfl
  have hx2:(Value.builtin "BaseException.__getattribute__" == Value.builtin "object.__getattribute__")=false:=by decide +kernel
  have hx1:(onTheHeap (Value.ref C)&&Value.builtin "BaseException.__getattribute__" == Value.builtin "object.__getattribute__")=false:=by rw[hx2];rfl
  unfold getAttrBy
  repeat (any_goals (first | assumption | (with_reducible refine wpAny_loadPart_at hx ?_;rw[hc]) | with_reducible refine Al.look hC hG ?_ | with_reducible refine Al.look hC hH ?_ | wp_step))
  refine codeAny_call_builtin FB.ga.plain PySem.F.entry_bexc_ga (ga_check hC hB hx hc (xl_entry hC hL hx hc hd hdx hns hv ?_))
  repeat (any_goals (first | assumption | wp_step))
theorem xl_attr {expr:Bool} {Q:Value->Shared->Prop} (FB:ExcAttrFacts B) (hC:h.get? C=some (excClassObj nm q C N bs bm true sn sub ab col dd k0 k1 k2 k3 k5 newId)) (hB:bm.contains (.type "BaseException")=true)
    (hG:Al h bmB "__getattribute__" (some (.builtin "BaseException.__getattribute__")) (.ref C::bm)) (hH:Al h bmB "__getattr__" none (.ref C::bm)) (hL:Al h bmB name none (.ref C::bm))
    (hx:h.get? a=some o) (hc:o.cls=.ref C) (hd:o.data=.fields vs) (hdx:o.dict=some dx) (hns:h.Ns1 dx mA) (hv:mA name=some v) (hh:handedOut v=pure v) (hq:Q v ⟨h,g,d,t+1,os⟩) :
    wpAny (model prog w) A (getAttr (.ref a) name expr) Q E ⟨h,g,d,t,os⟩:=by
  unfold getAttr
  repeat (any_goals (first | assumption | with_reducible apply xl_by FB hC hB hG hH hL hx hc hd hdx hns hv hh | wp_step))
end
def XGet (K:PySem.W.Frag)(C:Addr)(f:Str): Prop:=∃bm N nm qn bs sn sub ab col dd k0 k1 k2 k3 k5 nid,K.lookup C=some (excClassObj nm qn C N bs bm true sn sub ab col dd k0 k1 k2 k3 k5 nid)/\Hs bmV bm ∧
  (∀h:Heap,K.In h->Al h bmV "__getattribute__" (some (.builtin "BaseException.__getattribute__")) (.ref C::bm))/\(∀h:Heap,K.In h->Al h bmV "__getattr__" none (.ref C::bm))/\∀h:Heap,K.In h->Al h bmV f none (.ref C::bm)
def tXFld (K:PySem.W.Frag)(ta:TE)(f:Str): TE:=fun σ H Q=>ta σ H fun x H1=>∃a C d fs v,x=.ref a/\H1 a=some (exO a (.ref C) (some d))/\H1 d=some (xdW d fs)/\XGet K C f/\fs.lookup f=some v/\Q v H1
section
variable {X:Cx}{e:Expr}{f:Str}{pos:Pos}{ta:TE}
theorem pe_xfld (he:PE X e ta)(hb:attributeBase e f X.env (eval e X.env)=eval e X.env): PE X (.Attribute e f pos) (tXFld X.K ta f):=by
  intro pins s σ H Q I h
  refine attr_of hb (thn (he pins s σ H _ I h) fun u s1 ⟨x,H1,I1,rx,a,C,d,fs,v,ex,ea,ed,c,l,q⟩=>?_)
  subst ex
  obtain rfl:u=Value.ref a:=rx
  obtain⟨bm,N,nm,qn,bs,sn,sub,ab,col,dd,k0,k1,k2,k3,k5,nid,c1,c2,c3,c4,c5⟩:=c
  obtain⟨oe,vs,g1,g2,g3,g4⟩:=(I1.hok a _ ea).1
  obtain⟨mA,n1,r,wi⟩:=(I1.hok d _ ed).1
  obtain⟨u,hu,ru⟩:=RelO.some_of (v:=v) (o:=mA f) (by rw[<-l];exact r f)
  have kin:=I1.kIn
  have I2:=I1.tok (s1.toks+1)
  obtain⟨hp,g,dr,tk,os⟩:=s1
  exact xl_attr PySem.F.excAttr_ValueError (kin _ _ c1) (c2.has (by decide +kernel)) (c3 _ kin) (c4 _ kin) (c5 _ kin) g1 g2 g4 g3 n1 hu (PySem.W.handedOut_of (handed_of ru)) ⟨v,H1,I2,ru,q⟩
end
end L2

set_option maxHeartbeats 4000000
namespace L2
open PySem PySem.Spec PyProof.Rows
section
variable {A:Around}{E:Value->Shared->Prop}{h:Heap}{g:Array GenState}{d:Drawn}{t:Nat}{os:OsState}
variable {nm q:Str}{C N:Addr}{bs bm bmB:List Value}{hdct:Bool}{sn:List Str}{sub:List Value}{ab:Bool}{col:Option Bool}{dd:Option Addr}{k0 k1 k2 k3 k5:Option Value}{B newId initId:String}
theorem init_check (F:ExcBaseFacts B newId initId bmB)(T:Hs bmB bm){M:Model}{e:Addr}{oe:Obj}{rest:List Value}{Q:Unit->Shared->Prop}
    (hC:h.get? C=some (excClassObj nm q C N bs bm hdct sn sub ab col dd k0 k1 k2 k3 k5 newId)) (he:h.get? e=some oe) (hcls:oe.cls=.ref C) (hq:Q () ⟨h,g,d,t,os⟩) :
    wpAny M A (checkBuiltinCall initId ⟨.ref e::rest,[]⟩) Q E ⟨h,g,d,t,os⟩:=by
  have hcB:(Value.ref C::bm).contains (.type B)=true:=by rw[List.contains_cons,T.has F.hasB,Bool.or_true]
  have hshort:=F.noStar
  simp only [checkBuiltinCall,F.initKind,F.initSplit,F.initRow]
  repeat (first | (with_reducible refine wpAny_loadPart_at he ?_;rw[hcls]) | with_reducible refine wpAny_loadPart_at hC ?_ | (with_reducible refine wpAny_isSubtype_exc hC ?_;rw[hcB]) | wp_step)
  refine wpAny_onRaise ?_
  rw[show ∀(a b:String) (n:Nat),Bind.check ⟨.positional, "*",B,.self,[⟨"args",.varPos,false⟩]⟩ a b n (List.map (fun x=>x.fst) ({ pos:=Value.ref e::rest }:Args).kw)=pure () from
    fun a b n=>check_star_args _ _ _ _ _ _]
  exact wpAny_pure hq
end
def XO (K:PySem.W.Frag)(C:Addr): Prop:=∃bm N nm qn bs hdct sn sub ab col dd k0 k1 k2 k3 k5,K.lookup C=some (excClassObj nm qn C N bs bm hdct sn sub ab col dd k0 k1 k2 k3 k5 "ValueError.__new__")/\Hs bmV bm
section
variable {X:Cx}
theorem call_binit:CallR X (.builtin "ValueError.__init__") (fun xs H Q=>∃a C dct rest,xs=V.ref a::rest/\H a=some (exM a (.ref C) dct)/\XO X.K C/\rest.length<=sizeLine/\Q .non (upd H a (exM a (.ref C) dct))):=by
  intro pins s σ H xs us Q I r h
  obtain⟨a,C,dct,rest,rfl,ea,⟨bm,N,nm,qn,bs,hdct,sn,sub,ab,col,dd,k0,k1,k2,k3,k5,c1,c2⟩,z,q⟩:=h
  obtain⟨w1,u1,rfl,a1,rv⟩:=vals_cons r
  obtain rfl:w1=Value.ref a:=a1
  obtain⟨oe,vs,g1,g2,g3,g4,g5⟩:=(I.hok a _ ea).1
  have kin:=I.kIn
  have I0:=I
  have z':u1.length<=sizeLine:=by rw[<-rv.length];exact z
  obtain⟨hp,g,dr,tk,os⟩:=s
  refine wpAny_call (codeAny_call_builtin PySem.F.excBase_ValueError.init.plain PySem.F.excBase_ValueError.initEntry (init_check PySem.F.excBase_ValueError c2 (kin _ _ c1) g1 g2 ?_))
  obtain⟨v0,h0⟩:∃v0,vs[0]?=some v0:=⟨_,Array.getElem?_eq_getElem (by have:=(Array.getElem?_eq_some_iff.mp g5).1;omega)⟩
  have g1':∀tp,(hp.push tp).get? a=some oe:=fun tp=>Heap.get?_push_of_some _ g1
  repeat (any_goals (first | assumption | with_reducible refine wpAny_field (g1' _) g4 h0 ?_ | with_reducible refine wpAny_setField (g1' _) g4 (by omega) ?_ | wp_step))
  have z0:0 < vs.size:=by have:=(Array.getElem?_eq_some_iff.mp g5).1;omega
  rw[g4]
  dsimp only
  rw[if_pos z0]
  refine wpAny_update' (g1' _) ?_
  have lg:∀(Q':Unit->Shared->Prop) (E':Value->Shared->Prop) (s':Shared),Q' () s'->wpAny (model X.prog X.w) X.A.in1 (match v0 with | Value.ref a=>letGo [v0] | x=>pure ()) Q' E' s':=fun Q' E' s' hq=>by
    cases v0<;>first | exact wpAny_letGo hq | exact wpAny_pure hq
  refine lg _ _ _ ?_
  refine wpAny_pure ?_
  show EP X pins σ Q .none _
  have d3:=Obj.data_mapFields g4 (·.setIfInBounds 0 (Value.ref hp.objs.size))
  have e3:=Heap.get?_update_self (Obj.mapFields (·.setIfInBounds 0 (Value.ref hp.objs.size))) (g1' { cls:=.type "tuple",data:=.seq u1.toArray }) (Obj.isFreed_of_fields d3)
  refine⟨.non,_,?_,rfl,q⟩
  refine I0.write (x:=a) (e:=a) (by rw[ea];exact True.intro) (.inl rfl) (fun b o nb e=>?_) ⟨_,e3⟩ (exM_ok e3 ((Obj.cls_mapFields oe _).trans g2) ((dict_mapF oe _).trans g3) d3 ?_)
  · rw[Heap.get?_update_other _ _ (Ne.symm nb)]
    exact Heap.get?_push_of_some _ e
  · rw[Array.getElem?_setIfInBounds_ne (by decide)]
    exact g5
structure BInit (K:PySem.W.Frag)(C:Addr): Prop where
  sp:PySem.W.specialIn K (.ref C) "__getattribute__" = some (some (.builtin "type.__getattribute__"))
  fi:∃mc,PySem.W.readsIn K C mc=true/\PySem.W.findCls K (.ref C) mc "__init__" = some (.val (.builtin "ValueError.__init__"))
variable {C:Addr}{x:Str}{p pos apos:Pos}{e:Expr}{es:List Expr}{t:TA}
theorem pe_binit {pl:Sem Bool}(hc:BInit X.K C)(hg:Gl X x)(hm:X.mg x=some (.ref C))(ha:PA X (e::es) t)
    (hdb:(x==("__debug__" : Str))=false:=by decide)
    (hst:starEach (e::es) X.env=(false,eval e X.env)::starEach es X.env:=by rfl) (hpl:(backTo pos (starEach es X.env)).any (·.1)=false:=by rfl)
    (ht:eval (.Call (.Attribute (.Name x p) "__init__" apos) (e::es) [] pos) X.env=(do
      let ov <-eval (.Name x p) X.env
      standAt apos.atName
      let (f,first) <-holding [ov] (getMethod ov "__init__" pl)
      callWith pos f first (backTo pos (starEach (e::es) X.env)) (backToKw pos (keywordEach [] X.env))):=by rfl) :
    PE X (.Call (.Attribute (.Name x p) "__init__" apos) (e::es) [] pos) (tCB (fun xs H Q=>∃a C dct rest,xs=V.ref a::rest/\H a=some (exM a (.ref C) dct)/\XO X.K C/\rest.length<=sizeLine/\Q .non (upd H a (exM a (.ref C) dct))) t):=by
  obtain⟨mc,h1,h2⟩:=hc.fi
  intro pins s σ H Q I h
  refine PySem.W.methodCall_KW (pl:=pl) (ld_glob I hg hm ?_ hdb) ht
  refine PySem.W.method_cls I.kIn hc.sp (PySem.W.cls_value I.kIn h1 h2 rfl ?_)
  have I':Inv X pins σ H { s with toks:=s.toks+1 }:=I.tok _
  exact PyProof.Rows.callWith_builtin1 (thn (ha pos pins _ σ H _ I' h) fun us s1 ⟨vs,H1,I1,r1,q1⟩=>call_binit pins s1 σ H1 vs us Q I1 r1 q1) hst hpl
end
end L2

set_option maxHeartbeats 4000000
namespace L2
open PySem PySem.Spec PyProof.Rows
def xrow:List Value->Bool
  | []=>bmV==[]
  | v::r=>(v::r)==bmV || match v with
    | .ref _=>xrow r
    | _=>false
theorem xrow_hs:∀{l:List Value},xrow l=true->Hs bmV l
  | [],e=>by rw[<-beq_iff_eq.mp e];exact fun _=>rfl
  | v::r,e=>by
    unfold xrow at e
    rcases Bool.or_eq_true_iff.mp e with q | q
    · rw[beq_iff_eq.mp q];exact fun _=>rfl
    · split at q
      · intro X
        rw[List.contains_cons,xrow_hs q X]
        rfl
      · cases q
theorem xrow_pass:∀{l:List Value},xrow l=true->∀self:Value,refuseLoop self "__setattr__" l=pure ()
  | [],e=>by have:=beq_iff_eq.mp e;cases this
  | v::r,e=>by
    unfold xrow at e
    rcases Bool.or_eq_true_iff.mp e with q | q
    · rw[beq_iff_eq.mp q];exact PySem.F.store_ValueError.passes
    · split at q
      · intro self
        rw[refuseLoop_ref]
        exact xrow_pass q self
      · cases q
def XL (K:PySem.W.Frag)(C:Addr): Prop:=∃bm N nm qn bs sn sub ab col dd k0 k1 k2 k3 k5,K.lookup C=some (excClassObj nm qn C N bs bm true sn sub ab col dd k0 k1 k2 k3 k5 "ValueError.__new__")/\xrow bm=true
section
variable {K:PySem.W.Frag}{C f:Addr}{n:Str}
theorem XInit.of (q:XL K C) (e:PySem.W.findIn K (.ref C) "__init__" = some (some (.ref f))) (hf:PySem.W.isFn K (.ref f)=true):XInit K C f:=by
  obtain⟨bm,N,nm,qn,bs,sn,sub,ab,col,dd,k0,k1,k2,k3,k5,lk,r⟩:=q
  have hf:=beq_iff_eq.mp hf
  obtain⟨o,ho,hc⟩:=Option.map_eq_some_iff.mp hf
  exact⟨bm,N,nm,qn,bs,true,sn,sub,ab,col,dd,k0,k1,k2,k3,k5,lk,xrow_hs r,al_of e,o,ho,hc⟩
theorem XSet.of (q:XL K C) (e1:PySem.W.findIn K (.ref C) "__setattr__" = some (some (.builtin "object.__setattr__"))) (e2:PySem.W.findIn K (.ref C) n=some none):XSet K C n:=by
  obtain⟨bm,N,nm,qn,bs,sn,sub,ab,col,dd,k0,k1,k2,k3,k5,lk,r⟩:=q
  exact⟨bm,N,nm,qn,bs,sn,sub,ab,col,dd,k0,k1,k2,k3,k5,_,lk,xrow_hs r,xrow_pass r,al_of e1,al_of e2⟩
theorem XGet.of (q:XL K C) (e1:PySem.W.findIn K (.ref C) "__getattribute__" = some (some (.builtin "BaseException.__getattribute__"))) (e2:PySem.W.findIn K (.ref C) "__getattr__" = some none) (e3:PySem.W.findIn K (.ref C) n=some none):XGet K C n:=by
  obtain⟨bm,N,nm,qn,bs,sn,sub,ab,col,dd,k0,k1,k2,k3,k5,lk,r⟩:=q
  exact⟨bm,N,nm,qn,bs,sn,sub,ab,col,dd,k0,k1,k2,k3,k5,_,lk,xrow_hs r,al_of e1,al_of e2,al_of e3⟩
theorem XO.of (q:XL K C): XO K C:=by
  obtain⟨bm,N,nm,qn,bs,sn,sub,ab,col,dd,k0,k1,k2,k3,k5,lk,r⟩:=q
  exact⟨bm,N,nm,qn,bs,true,sn,sub,ab,col,dd,k0,k1,k2,k3,k5,lk,xrow_hs r⟩
end
def HasXi (P:Program)(w:World)(K:PySem.W.Frag)(mg:Str->Option Value)(base:Heap)(C:Addr)(k:Nat)(ps:List Str)(sp:Sp)(dvs:List V): Prop :=
  ∃f fd ds,FnOk P w K mg base (CXE P w) k f fd ps sp/\XInit K C f/\Binds K fd ps ds/\Vals dvs ds
section
variable {P:Program}{w:World}{K:PySem.W.Frag}{mg:Str->Option Value}{base:Heap}{C:Addr}{qual:Str}{st:Stmt}{N ps:List Str}{dvs:List V}{k:Nat}{sp:Sp}
end
section
variable {X:Cx}{E:St->XK}{x:Str}{C:Addr}{e₀:Expr}{es:List Expr}{t:TA}{np cpos pos:Pos}{k:Nat}{ps:List Str}{sp:Sp}{dvs:List V}
theorem hasXi {P:Program}{w:World}{K:PySem.W.Frag}{mg:Str->Option Value}{base:Heap}{f:Addr}{fd:FuncData}{ds:List Value}(F:FnOk P w K mg base (CXE P w) k f fd ps sp)(h:XInit K C f)(hb:Binds K fd ps ds)(hd:Vals dvs ds): HasXi P w K mg base C k ps sp dvs:=⟨f,fd,ds,F,h,hb,hd⟩
theorem ps_raiseX (h:HasXi X.prog X.w X.K X.mg X.base C k ps sp dvs) (hr:Room (k+1) X.A) (hc:X.calm=true) (hg:Gl X x) (hm:X.mg x=some (.ref C)) (hx:PassesX (CXE X.prog X.w) X E) (ha:PA X (e₀::es) t) (hdb:(x==("__debug__" : Str))=false:=by decide)
    (he:starEach (e₀::es) X.env=(false,eval e₀ X.env)::starEach es X.env:=by rfl) (hpl:(backTo cpos (starEach es X.env)).any (·.1)=false:=by rfl) :
    PS X (.Raise (some (.Call (.Name x np) (e₀::es) [] cpos)) none pos) (tRaiseI C sp dvs E t):=by
  obtain⟨f,fd,ds,F,hi,hb,hd⟩:=h
  exact ps_raiseI hi F hr hb hd hc hg hm hx ha hdb he hpl
end
end L2

set_option maxHeartbeats 4000000
namespace L2
open PySem PySem.Spec PyProof.Rows
end L2

set_option maxHeartbeats 4000000
local macro_rules | `(tactic| walk_at "lk") => `(tactic| first | exact L2.lk_eq | (apply L2.lk_next; (first | done | decide +kernel); walk_at "lk") | exact rfl)
local macro_rules | `(tactic| walk_at "hp") => `(tactic| first | assumption | exact L2.upd_same | (apply L2.up_old; (first | done | assumption); walk_at "hp") | (apply L2.up_ne; (first | done | assumption); walk_at "hp"))
local macro_rules | `(tactic| walk_at "ty") => `(tactic| first | assumption | exact L2.TyE.of (L2.TyOf.int _) | exact L2.TyE.of (L2.TyOf.bl _) | exact L2.TyE.of L2.TyOf.non | exact L2.TyE.of (L2.TyOf.str _) | (apply L2.TyE.of; apply L2.TyOf.lst; walk_at "hp") | (apply L2.TyE.of; apply L2.TyOf.tup; walk_at "hp") | (apply L2.TyE.of; apply L2.TyOf.dK; walk_at "hp"))
local macro_rules | `(tactic| walk_at "cl") => `(tactic| first | (with_reducible show (_ : Int) ≤ _; omega) | (with_reducible show (_ : Int) < _; omega) | (with_reducible show (_ : Nat) ≤ _; omega) | (with_reducible show (_ : Nat) < _; omega) | (with_reducible assumption) | exact rfl | assumption | (with_reducible apply L2.SqL.of; walk_at "hp") | (with_reducible apply L2.SqT.of; walk_at "hp") | walk_at "hp" | ((with_reducible apply Or.inl); assumption) | ((with_reducible apply Or.inr); assumption) | (with_reducible apply Or.inl; with_reducible apply L2.SqL.of; walk_at "hp") | (with_reducible apply Or.inr; with_reducible apply L2.SqT.of; walk_at "hp") | (apply Or.inl; refine And.intro rfl ?_; apply Exists.intro; apply L2.SqL.of; walk_at "hp") | walk_at "lk" | walk_at "ty" | exact L2.kit_self _ _ | exact L2.kit_ib _ | exact L2.one_line | exact L2.small_line (Nat.le_of_ble_eq_true rfl) | (show List.length _ < _; exact Nat.le_of_ble_eq_true rfl) | omega | (apply Exists.intro; with_reducible apply L2.SqL.of; walk_at "hp") | (apply Exists.intro; with_reducible apply L2.SqT.of; walk_at "hp") | (apply Or.inr; refine ⟨?_, ?_⟩ <;> omega) | (apply Or.inl; refine ⟨?_, ?_⟩ <;> omega) | decide | (show (0 : Int) < _; first | decide | omega | assumption) | (refine ⟨?_, ?_⟩ <;> decide) | (refine ⟨?_, ?_, ?_⟩ <;> decide) )
local macro_rules | `(tactic| walk_at "sm") => `(tactic| first | assumption | exact L2.Same.refl _ | (apply L2.sm_upd; (first | done | assumption); walk_at "sm"))
local macro_rules | `(tactic| walk_at "ex") => `(tactic| ((fail_if_success (refine L2.exW ?_ ?_)); (fail_if_success (refine L2.exW2 ?_ ?_)); (fail_if_success (refine L2.exN ?_ ?_)); (fail_if_success (refine L2.exD ?_ ?_)); apply Exists.intro))
local macro_rules | `(tactic| walk_at "go") => `(tactic| repeat (first | (apply And.intro; (walk_at "cl")) | walk_at "ex"))
local macro_rules | `(tactic| walk_at "gi") => `(tactic| repeat (first | (apply And.intro; (walk_at "cl")) | walk_at "ex" | intro))
namespace K18
open PySem L2
def top (i:Nat): Stmt:=PySem.Challenge.pw_leafframe_k18_lift_and_change.main.body.getD i (.Pass ⟨0,0,0,0⟩)
abbrev s_check_shape:Stmt:=top 30
abbrev s_check_inside:Stmt:=top 31
abbrev s_Shape___init__:Stmt:=inClass (top 32) 0
abbrev s_Shape_pages:Stmt:=inClass (top 32) 1
abbrev s_Shape_size:Stmt:=inClass (top 32) 2
abbrev s_Shape_part_widths:Stmt:=inClass (top 32) 3
abbrev s_Shape_check_address:Stmt:=inClass (top 32) 4
abbrev s_Shape_cut:Stmt:=inClass (top 32) 5
abbrev s_Shape_address_of:Stmt:=inClass (top 32) 9
abbrev s_Shape_stretch:Stmt:=inClass (top 32) 10
abbrev s_check_rights:Stmt:=top 13
abbrev s_Leaf___init__:Stmt:=inClass (top 15) 0
abbrev s_Fresh_row:Stmt:=inClass (top 16) 0
abbrev s_Fresh_righted:Stmt:=inClass (top 16) 1
abbrev s_Held___init__:Stmt:=inClass (top 17) 0
abbrev s_Held_row:Stmt:=inClass (top 17) 1
abbrev s_Held_righted:Stmt:=inClass (top 17) 2
abbrev s_Out___init__:Stmt:=inClass (top 18) 0
abbrev s_Out_row:Stmt:=inClass (top 18) 1
abbrev s_Out_righted:Stmt:=inClass (top 18) 2
abbrev s_Named___init__:Stmt:=inClass (top 19) 0
abbrev s_Named_row:Stmt:=inClass (top 19) 1
abbrev s_Named_righted:Stmt:=inClass (top 19) 2
abbrev s_Taken___init__:Stmt:=inClass (top 7) 0
abbrev s_Fault___init__:Stmt:=inClass (top 8) 0
abbrev s_one_level_down:Stmt:=top 21
abbrev s_prune:Stmt:=top 22
abbrev s_Tree___init__:Stmt:=inClass (top 23) 0
abbrev s_Tree_indexes:Stmt:=inClass (top 23) 1
abbrev s_Tree_path_to:Stmt:=inClass (top 23) 2
abbrev s_Tree_leaf:Stmt:=inClass (top 23) 3
abbrev s_Tree_put:Stmt:=inClass (top 23) 4
abbrev s_Tree_drop:Stmt:=inClass (top 23) 5
abbrev s_Tree_rows:Stmt:=inClass (top 23) 6
abbrev s_Space___init__:Stmt:=inClass (top 25) 0
abbrev s_Space_leaf:Stmt:=inClass (top 25) 6
abbrev s_Space_put:Stmt:=inClass (top 25) 7
abbrev s_Space_rows:Stmt:=inClass (top 25) 8
abbrev s_Space_check_mapped:Stmt:=inClass (top 25) 4
abbrev s_Space_lay:Stmt:=inClass (top 25) 1
abbrev s_Space_lift:Stmt:=inClass (top 25) 2
abbrev s_Space_change:Stmt:=inClass (top 25) 3
abbrev s__law_cell_at:Stmt:=top 34
abbrev s__law_whole:Stmt:=top 35
abbrev s__law_drawn:Stmt:=top 36
abbrev s__law_widths:Stmt:=top 37
abbrev s__law_name:Stmt:=top 38
abbrev s__law_row:Stmt:=top 39
abbrev s__law_leaf:Stmt:=top 40
abbrev s__law_like:Stmt:=top 41
abbrev s__law_all:Stmt:=top 42
abbrev s__law_done:Stmt:=top 43
abbrev s__law_code:Stmt:=top 44
abbrev s__law_lifted:Stmt:=top 45
abbrev s__law_step:Stmt:=top 46
abbrev s__law_lay_refused:Stmt:=top 47
abbrev s__law_outside:Stmt:=top 48
abbrev s__law_edges:Stmt:=top 49
abbrev s__law_filled:Stmt:=top 50
abbrev s_law:Stmt:=top 51
abbrev n_check_shape:List Str:=["widths", "low", "width"]
theorem sc_check_shape:FnScope n_check_shape ["widths", "low"] (defScope s_check_shape):=⟨rfl,rfl,rfl,by decide +kernel,rfl,by decide +kernel,by decide +kernel⟩
abbrev n_check_inside:List Str:=["number", "bound"]
theorem sc_check_inside:FnScope n_check_inside ["number", "bound"] (defScope s_check_inside):=⟨rfl,rfl,rfl,by decide +kernel,rfl,by decide +kernel,by decide +kernel⟩
abbrev n_Shape___init__:List Str:=["self", "widths", "low"]
theorem sc_Shape___init__:FnScope n_Shape___init__ ["self", "widths", "low"] (defScope s_Shape___init__):=⟨rfl,rfl,rfl,by decide +kernel,rfl,by decide +kernel,by decide +kernel⟩
abbrev n_Shape_pages:List Str:=["self"]
theorem sc_Shape_pages:FnScope n_Shape_pages ["self"] (defScope s_Shape_pages):=⟨rfl,rfl,rfl,by decide +kernel,rfl,by decide +kernel,by decide +kernel⟩
abbrev n_Shape_size:List Str:=["self"]
theorem sc_Shape_size:FnScope n_Shape_size ["self"] (defScope s_Shape_size):=⟨rfl,rfl,rfl,by decide +kernel,rfl,by decide +kernel,by decide +kernel⟩
abbrev n_Shape_part_widths:List Str:=["self"]
theorem sc_Shape_part_widths:FnScope n_Shape_part_widths ["self"] (defScope s_Shape_part_widths):=⟨rfl,rfl,rfl,by decide +kernel,rfl,by decide +kernel,by decide +kernel⟩
abbrev n_Shape_check_address:List Str:=["self", "address"]
theorem sc_Shape_check_address:FnScope n_Shape_check_address ["self", "address"] (defScope s_Shape_check_address):=⟨rfl,rfl,rfl,by decide +kernel,rfl,by decide +kernel,by decide +kernel⟩
abbrev n_Shape_cut:List Str:=["self", "address", "rest", "parts", "width"]
theorem sc_Shape_cut:FnScope n_Shape_cut ["self", "address"] (defScope s_Shape_cut):=⟨rfl,rfl,rfl,by decide +kernel,rfl,by decide +kernel,by decide +kernel⟩
abbrev n_Shape_address_of:List Str:=["self", "page", "place"]
theorem sc_Shape_address_of:FnScope n_Shape_address_of ["self", "page", "place"] (defScope s_Shape_address_of):=⟨rfl,rfl,rfl,by decide +kernel,rfl,by decide +kernel,by decide +kernel⟩
abbrev n_Shape_stretch:List Str:=["self", "first", "many"]
theorem sc_Shape_stretch:FnScope n_Shape_stretch ["self", "first", "many"] (defScope s_Shape_stretch):=⟨rfl,rfl,rfl,by decide +kernel,rfl,by decide +kernel,by decide +kernel⟩
abbrev n_check_rights:List Str:=["rights"]
theorem sc_check_rights:FnScope n_check_rights ["rights"] (defScope s_check_rights):=⟨rfl,rfl,rfl,by decide +kernel,rfl,by decide +kernel,by decide +kernel⟩
abbrev n_Leaf___init__:List Str:=["self", "rights"]
theorem sc_Leaf___init__:FnScope n_Leaf___init__ ["self", "rights"] (defScope s_Leaf___init__):=⟨rfl,rfl,rfl,by decide +kernel,rfl,by decide +kernel,by decide +kernel⟩
abbrev n_Fresh_row:List Str:=["self"]
theorem sc_Fresh_row:FnScope n_Fresh_row ["self"] (defScope s_Fresh_row):=⟨rfl,rfl,rfl,by decide +kernel,rfl,by decide +kernel,by decide +kernel⟩
abbrev n_Fresh_righted:List Str:=["self", "rights"]
theorem sc_Fresh_righted:FnScope n_Fresh_righted ["self", "rights"] (defScope s_Fresh_righted):=⟨rfl,rfl,rfl,by decide +kernel,rfl,by decide +kernel,by decide +kernel⟩
abbrev n_Held___init__:List Str:=["self", "rights", "frame"]
theorem sc_Held___init__:FnScope n_Held___init__ ["self", "rights", "frame"] (defScope s_Held___init__):=⟨rfl,rfl,rfl,by decide +kernel,rfl,by decide +kernel,by decide +kernel⟩
abbrev n_Held_row:List Str:=["self"]
theorem sc_Held_row:FnScope n_Held_row ["self"] (defScope s_Held_row):=⟨rfl,rfl,rfl,by decide +kernel,rfl,by decide +kernel,by decide +kernel⟩
abbrev n_Held_righted:List Str:=["self", "rights"]
theorem sc_Held_righted:FnScope n_Held_righted ["self", "rights"] (defScope s_Held_righted):=⟨rfl,rfl,rfl,by decide +kernel,rfl,by decide +kernel,by decide +kernel⟩
abbrev n_Out___init__:List Str:=["self", "rights", "slot"]
theorem sc_Out___init__:FnScope n_Out___init__ ["self", "rights", "slot"] (defScope s_Out___init__):=⟨rfl,rfl,rfl,by decide +kernel,rfl,by decide +kernel,by decide +kernel⟩
abbrev n_Out_row:List Str:=["self"]
theorem sc_Out_row:FnScope n_Out_row ["self"] (defScope s_Out_row):=⟨rfl,rfl,rfl,by decide +kernel,rfl,by decide +kernel,by decide +kernel⟩
abbrev n_Out_righted:List Str:=["self", "rights"]
theorem sc_Out_righted:FnScope n_Out_righted ["self", "rights"] (defScope s_Out_righted):=⟨rfl,rfl,rfl,by decide +kernel,rfl,by decide +kernel,by decide +kernel⟩
abbrev n_Named___init__:List Str:=["self", "rights", "name", "part"]
theorem sc_Named___init__:FnScope n_Named___init__ ["self", "rights", "name", "part"] (defScope s_Named___init__):=⟨rfl,rfl,rfl,by decide +kernel,rfl,by decide +kernel,by decide +kernel⟩
abbrev n_Named_row:List Str:=["self"]
theorem sc_Named_row:FnScope n_Named_row ["self"] (defScope s_Named_row):=⟨rfl,rfl,rfl,by decide +kernel,rfl,by decide +kernel,by decide +kernel⟩
abbrev n_Named_righted:List Str:=["self", "rights"]
theorem sc_Named_righted:FnScope n_Named_righted ["self", "rights"] (defScope s_Named_righted):=⟨rfl,rfl,rfl,by decide +kernel,rfl,by decide +kernel,by decide +kernel⟩
abbrev n_Taken___init__:List Str:=["self", "page"]
theorem sc_Taken___init__:FnScope n_Taken___init__ ["self", "page"] (defScope s_Taken___init__):=⟨rfl,rfl,rfl,by decide +kernel,rfl,by decide +kernel,by decide +kernel⟩
abbrev n_Fault___init__:List Str:=["self", "task", "address", "deed"]
theorem sc_Fault___init__:FnScope n_Fault___init__ ["self", "task", "address", "deed"] (defScope s_Fault___init__):=⟨rfl,rfl,rfl,by decide +kernel,rfl,by decide +kernel,by decide +kernel⟩
abbrev n_one_level_down:List Str:=["nodes", "width", "below", "number", "table", "index"]
theorem sc_one_level_down:FnScope n_one_level_down ["nodes", "width"] (defScope s_one_level_down):=⟨rfl,rfl,rfl,by decide +kernel,rfl,by decide +kernel,by decide +kernel⟩
abbrev n_prune:List Str:=["path", "indexes", "level"]
theorem sc_prune:FnScope n_prune ["path", "indexes"] (defScope s_prune):=⟨rfl,rfl,rfl,by decide +kernel,rfl,by decide +kernel,by decide +kernel⟩
abbrev n_Tree___init__:List Str:=["self", "shape"]
theorem sc_Tree___init__:FnScope n_Tree___init__ ["self", "shape"] (defScope s_Tree___init__):=⟨rfl,rfl,rfl,by decide +kernel,rfl,by decide +kernel,by decide +kernel⟩
abbrev n_Tree_indexes:List Str:=["self", "page"]
theorem sc_Tree_indexes:FnScope n_Tree_indexes ["self", "page"] (defScope s_Tree_indexes):=⟨rfl,rfl,rfl,by decide +kernel,rfl,by decide +kernel,by decide +kernel⟩
abbrev n_Tree_path_to:List Str:=["self", "indexes", "path", "index"]
theorem sc_Tree_path_to:FnScope n_Tree_path_to ["self", "indexes"] (defScope s_Tree_path_to):=⟨rfl,rfl,rfl,by decide +kernel,rfl,by decide +kernel,by decide +kernel⟩
abbrev n_Tree_leaf:List Str:=["self", "page", "node", "index"]
theorem sc_Tree_leaf:FnScope n_Tree_leaf ["self", "page"] (defScope s_Tree_leaf):=⟨rfl,rfl,rfl,by decide +kernel,rfl,by decide +kernel,by decide +kernel⟩
abbrev n_Tree_put:List Str:=["self", "page", "leaf", "indexes", "table", "index"]
theorem sc_Tree_put:FnScope n_Tree_put ["self", "page", "leaf"] (defScope s_Tree_put):=⟨rfl,rfl,rfl,by decide +kernel,rfl,by decide +kernel,by decide +kernel⟩
abbrev n_Tree_drop:List Str:=["self", "page", "indexes", "path", "leaf"]
theorem sc_Tree_drop:FnScope n_Tree_drop ["self", "page"] (defScope s_Tree_drop):=⟨rfl,rfl,rfl,by decide +kernel,rfl,by decide +kernel,by decide +kernel⟩
abbrev n_Tree_rows:List Str:=["self", "nodes", "width"]
theorem sc_Tree_rows:FnScope n_Tree_rows ["self"] (defScope s_Tree_rows):=⟨rfl,rfl,rfl,by decide +kernel,rfl,by decide +kernel,by decide +kernel⟩
abbrev n_Space___init__:List Str:=["self", "shape", "task"]
theorem sc_Space___init__:FnScope n_Space___init__ ["self", "shape", "task"] (defScope s_Space___init__):=⟨rfl,rfl,rfl,by decide +kernel,rfl,by decide +kernel,by decide +kernel⟩
abbrev n_Space_leaf:List Str:=["self", "page"]
theorem sc_Space_leaf:FnScope n_Space_leaf ["self", "page"] (defScope s_Space_leaf):=⟨rfl,rfl,rfl,by decide +kernel,rfl,by decide +kernel,by decide +kernel⟩
abbrev n_Space_put:List Str:=["self", "page", "leaf"]
theorem sc_Space_put:FnScope n_Space_put ["self", "page", "leaf"] (defScope s_Space_put):=⟨rfl,rfl,rfl,by decide +kernel,rfl,by decide +kernel,by decide +kernel⟩
abbrev n_Space_rows:List Str:=["self"]
theorem sc_Space_rows:FnScope n_Space_rows ["self"] (defScope s_Space_rows):=⟨rfl,rfl,rfl,by decide +kernel,rfl,by decide +kernel,by decide +kernel⟩
abbrev n_Space_check_mapped:List Str:=["self", "pages", "deed", "page"]
theorem sc_Space_check_mapped:FnScope n_Space_check_mapped ["self", "pages", "deed"] (defScope s_Space_check_mapped):=⟨rfl,rfl,rfl,by decide +kernel,rfl,by decide +kernel,by decide +kernel⟩
abbrev n_Space_lay:List Str:=["self", "first", "leaves", "pages", "page", "leaf"]
theorem sc_Space_lay:FnScope n_Space_lay ["self", "first", "leaves"] (defScope s_Space_lay):=⟨rfl,rfl,rfl,by decide +kernel,rfl,by decide +kernel,by decide +kernel⟩
abbrev n_Space_lift:List Str:=["self", "first", "many", "pages"]
theorem sc_Space_lift:FnScope n_Space_lift ["self", "first", "many"] (defScope s_Space_lift):=⟨rfl,rfl,rfl,by decide +kernel,rfl,by decide +kernel,by decide +kernel⟩
abbrev n_Space_change:List Str:=["self", "first", "many", "rights", "pages", "page"]
theorem sc_Space_change:FnScope n_Space_change ["self", "first", "many", "rights"] (defScope s_Space_change):=⟨rfl,rfl,rfl,by decide +kernel,rfl,by decide +kernel,by decide +kernel⟩
abbrev n__law_cell_at:List Str:=["_law_script", "_law_k"]
theorem sc__law_cell_at:FnScope n__law_cell_at ["_law_script", "_law_k"] (defScope s__law_cell_at):=⟨rfl,rfl,rfl,by decide +kernel,rfl,by decide +kernel,by decide +kernel⟩
abbrev n__law_whole:List Str:=["_law_found"]
theorem sc__law_whole:FnScope n__law_whole ["_law_found"] (defScope s__law_whole):=⟨rfl,rfl,rfl,by decide +kernel,rfl,by decide +kernel,by decide +kernel⟩
abbrev n__law_drawn:List Str:=["_law_cell", "_law_by", "_law_prime", "_law_many"]
theorem sc__law_drawn:FnScope n__law_drawn ["_law_cell", "_law_by", "_law_prime", "_law_many"] (defScope s__law_drawn):=⟨rfl,rfl,rfl,by decide +kernel,rfl,by decide +kernel,by decide +kernel⟩
abbrev n__law_widths:List Str:=["_law_cell", "_law_most", "_law_bys"]
theorem sc__law_widths:FnScope n__law_widths ["_law_cell"] (defScope s__law_widths):=⟨rfl,rfl,rfl,by decide +kernel,rfl,by decide +kernel,by decide +kernel⟩
abbrev n__law_name:List Str:=["_law_number"]
theorem sc__law_name:FnScope n__law_name ["_law_number"] (defScope s__law_name):=⟨rfl,rfl,rfl,by decide +kernel,rfl,by decide +kernel,by decide +kernel⟩
abbrev n__law_row:List Str:=["_law_cell", "_law_kind", "_law_number", "_law_rights"]
theorem sc__law_row:FnScope n__law_row ["_law_cell"] (defScope s__law_row):=⟨rfl,rfl,rfl,by decide +kernel,rfl,by decide +kernel,by decide +kernel⟩
abbrev n__law_leaf:List Str:=["_law_row_here"]
theorem sc__law_leaf:FnScope n__law_leaf ["_law_row_here"] (defScope s__law_leaf):=⟨rfl,rfl,rfl,by decide +kernel,rfl,by decide +kernel,by decide +kernel⟩
abbrev n__law_like:List Str:=["_law_found", "_law_due", "_law_k"]
theorem sc__law_like:FnScope n__law_like ["_law_found", "_law_due"] (defScope s__law_like):=⟨rfl,rfl,rfl,by decide +kernel,rfl,by decide +kernel,by decide +kernel⟩
abbrev n__law_all:List Str:=["_law_space", "_law_own", "_law_told", "_law_pages", "_law_k"]
theorem sc__law_all:FnScope n__law_all ["_law_space", "_law_own"] (defScope s__law_all):=⟨rfl,rfl,rfl,by decide +kernel,rfl,by decide +kernel,by decide +kernel⟩
abbrev n__law_done:List Str:=["_law_space", "_law_way", "_law_first", "_law_many", "_law_rights", "_law_found", "_law_refusal", "e"]
theorem sc__law_done:FnScope n__law_done ["_law_space", "_law_way", "_law_first", "_law_many", "_law_rights"] (defScope s__law_done):=⟨rfl,rfl,rfl,by decide +kernel,rfl,by decide +kernel,by decide +kernel⟩
abbrev n__law_code:List Str:=["_law_refusal", "_law_found"]
theorem sc__law_code:FnScope n__law_code ["_law_refusal"] (defScope s__law_code):=⟨rfl,rfl,rfl,by decide +kernel,rfl,by decide +kernel,by decide +kernel⟩
abbrev n__law_lifted:List Str:=["_law_found", "_law_own", "_law_first", "_law_many", "_law_held", "_law_rows"]
theorem sc__law_lifted:FnScope n__law_lifted ["_law_found", "_law_own", "_law_first", "_law_many", "_law_held"] (defScope s__law_lifted):=⟨rfl,rfl,rfl,by decide +kernel,rfl,by decide +kernel,by decide +kernel⟩
abbrev n__law_step:List Str:=["_law_space", "_law_own", "_law_size", "_law_way", "_law_first", "_law_many", "_law_rights", "_law_task", "_law_low", "_law_total", "_law_held", "_law_found", "_law_refusal", "_law_code_here", "_law_k", "_law_row_here"]
theorem sc__law_step:FnScope n__law_step ["_law_space", "_law_own", "_law_size", "_law_way", "_law_first", "_law_many", "_law_rights"] (defScope s__law_step):=⟨rfl,rfl,rfl,by decide +kernel,rfl,by decide +kernel,by decide +kernel⟩
abbrev n__law_lay_refused:List Str:=["_law_space", "_law_first", "_law_many", "_law_refusal", "e"]
theorem sc__law_lay_refused:FnScope n__law_lay_refused ["_law_space", "_law_first", "_law_many"] (defScope s__law_lay_refused):=⟨rfl,rfl,rfl,by decide +kernel,rfl,by decide +kernel,by decide +kernel⟩
abbrev n__law_outside:List Str:=["_law_space", "_law_asks", "_law_page", "_law_refusal", "e"]
theorem sc__law_outside:FnScope n__law_outside ["_law_space", "_law_asks", "_law_page"] (defScope s__law_outside):=⟨rfl,rfl,rfl,by decide +kernel,rfl,by decide +kernel,by decide +kernel⟩
abbrev n__law_edges:List Str:=["_law_space", "_law_own", "_law_base", "_law_total", "_law_far", "_law_first", "_law_many", "_law_page"]
theorem sc__law_edges:FnScope n__law_edges ["_law_space", "_law_own", "_law_base", "_law_total", "_law_far"] (defScope s__law_edges):=⟨rfl,rfl,rfl,by decide +kernel,rfl,by decide +kernel,by decide +kernel⟩
abbrev n__law_filled:List Str:=["_law_space", "_law_script", "_law_total", "_law_cells", "_law_base", "_law_holes", "_law_own", "_law_k"]
theorem sc__law_filled:FnScope n__law_filled ["_law_space", "_law_script", "_law_total"] (defScope s__law_filled):=⟨rfl,rfl,rfl,by decide +kernel,rfl,by decide +kernel,by decide +kernel⟩
abbrev n_law:List Str:=["_law_script", "_law_widths_here", "_law_low", "_law_total", "_law_task", "_law_space", "_law_base", "_law_long", "_law_own", "_law_cell", "_law_first", "_law_many", "_law_rights", "_law_far", "_law_held", "_law_size", "_law_at", "_law_count", "_law_new", "_law_way", "_law_k"]
theorem sc_law:FnScope n_law ["_law_script"] (defScope s_law):=⟨rfl,rfl,rfl,by decide +kernel,rfl,by decide +kernel,by decide +kernel⟩
structure Adr where
 (c_LeafError c_NoShape c_NoAddress c_NoStretch c_NoRights c_Taken c_Fault c_Unmapped c_Barred c_Leaf c_Fresh c_Held c_Out c_Named c_Tree c_Space c_Shape d_NEEDED:Addr)
structure Txt (w:World)(K:PySem.W.Frag)(mg:Str->Option Value)(a:Adr): Prop where
 cl_Leaf:Cls K a.c_Leaf
 cl_Fresh:Cls K a.c_Fresh
 cl_Held:Cls K a.c_Held
 cl_Out:Cls K a.c_Out
 cl_Named:Cls K a.c_Named
 cl_Tree:Cls K a.c_Tree
 cl_Space:Cls K a.c_Space
 cl_Shape:Cls K a.c_Shape
 n_Fresh_rights:NoAttr K a.c_Fresh "rights"
 n_Held_frame:NoAttr K a.c_Held "frame"
 n_Held_rights:NoAttr K a.c_Held "rights"
 n_Leaf_rights:NoAttr K a.c_Leaf "rights"
 n_Named_name:NoAttr K a.c_Named "name"
 n_Named_part:NoAttr K a.c_Named "part"
 n_Named_rights:NoAttr K a.c_Named "rights"
 n_Out_rights:NoAttr K a.c_Out "rights"
 n_Out_slot:NoAttr K a.c_Out "slot"
 n_Shape_low:NoAttr K a.c_Shape "low"
 n_Shape_widths:NoAttr K a.c_Shape "widths"
 n_Space_shape:NoAttr K a.c_Space "shape"
 n_Space_task:NoAttr K a.c_Space "task"
 n_Space_tree:NoAttr K a.c_Space "tree"
 n_Tree_shape:NoAttr K a.c_Tree "shape"
 n_Tree_top:NoAttr K a.c_Tree "top"
 x_LeafError:XCls K a.c_LeafError
 m_LeafError:mg "LeafError" = some (.ref a.c_LeafError)
 x_NoShape:XCls K a.c_NoShape
 m_NoShape:mg "NoShape" = some (.ref a.c_NoShape)
 x_NoAddress:XCls K a.c_NoAddress
 m_NoAddress:mg "NoAddress" = some (.ref a.c_NoAddress)
 x_NoStretch:XCls K a.c_NoStretch
 m_NoStretch:mg "NoStretch" = some (.ref a.c_NoStretch)
 x_NoRights:XCls K a.c_NoRights
 m_NoRights:mg "NoRights" = some (.ref a.c_NoRights)
 m_Taken:mg "Taken" = some (.ref a.c_Taken)
 m_Fault:mg "Fault" = some (.ref a.c_Fault)
 m_Unmapped:mg "Unmapped" = some (.ref a.c_Unmapped)
 m_Barred:mg "Barred" = some (.ref a.c_Barred)
 m_Leaf:mg "Leaf" = some (.ref a.c_Leaf)
 m_Fresh:mg "Fresh" = some (.ref a.c_Fresh)
 m_Held:mg "Held" = some (.ref a.c_Held)
 m_Out:mg "Out" = some (.ref a.c_Out)
 m_Named:mg "Named" = some (.ref a.c_Named)
 m_Tree:mg "Tree" = some (.ref a.c_Tree)
 m_Space:mg "Space" = some (.ref a.c_Space)
 m_Shape:mg "Shape" = some (.ref a.c_Shape)
 xl_Unmapped:XL K a.c_Unmapped
 xs_Unmapped_address:XSet K a.c_Unmapped "address"
 xs_Unmapped_deed:XSet K a.c_Unmapped "deed"
 xs_Unmapped_task:XSet K a.c_Unmapped "task"
 xg_Unmapped_address:XGet K a.c_Unmapped "address"
 xg_Unmapped_deed:XGet K a.c_Unmapped "deed"
 xg_Unmapped_task:XGet K a.c_Unmapped "task"
 xl_Taken:XL K a.c_Taken
 xs_Taken_page:XSet K a.c_Taken "page"
 bi_LeafError:BInit K a.c_LeafError
 m_NEEDED:mg "NEEDED" = some (.ref a.d_NEEDED)
 d_NEEDED:TopD w.params K a.d_NEEDED
 v_NEEDED_read:∃t,PySem.W.nsIn K a.d_NEEDED "read" = some (some (.int 1 t))
 v_NEEDED_write:∃t,PySem.W.nsIn K a.d_NEEDED "write" = some (some (.int 2 t))
 g_MOST_WIDTH:∃t,mg "MOST_WIDTH" = some (.int 24 t)
 g_MOST_LOW:∃t,mg "MOST_LOW" = some (.int 6 t)
 g_MOST_PAGES:∃t,mg "MOST_PAGES" = some (.int 64 t)
 b_ValueError:mg "ValueError" = none
 b_all:mg "all" = none
 b_bool:mg "bool" = none
 b_int:mg "int" = none
 b_isinstance:mg "isinstance" = none
 b_len:mg "len" = none
 b_list:mg "list" = none
 b_min:mg "min" = none
 b_range:mg "range" = none
 b_reversed:mg "reversed" = none
 b_sorted:mg "sorted" = none
 b_str:mg "str" = none
 b_sum:mg "sum" = none
 b_tuple:mg "tuple" = none
 b_zip:mg "zip" = none
 i_Taken:XIs K a.c_Taken
 i_Unmapped:XIs K a.c_Unmapped
 i_NoAddress:XIs K a.c_NoAddress
 i_NoStretch:XIs K a.c_NoStretch
 i_NoRights:XIs K a.c_NoRights
 isk:IsK K
 s_NoAddress:PySem.W.mroIn K a.c_NoAddress (.ref a.c_LeafError)=some true
 s_Unmapped:PySem.W.mroIn K a.c_Unmapped (.ref a.c_LeafError)=some true
 s_NoStretch:PySem.W.mroIn K a.c_NoStretch (.ref a.c_LeafError)=some true
 s_NoRights:PySem.W.mroIn K a.c_NoRights (.ref a.c_LeafError)=some true
 k_SS:PySem.W.kitOne K (.ref a.c_NoStretch) (.ref a.c_NoStretch)=some true
 k_SR:PySem.W.kitOne K (.ref a.c_NoStretch) (.ref a.c_NoRights)=some false
 k_SU:PySem.W.kitOne K (.ref a.c_NoStretch) (.ref a.c_Unmapped)=some false
 k_SV:PySem.W.kitOne K (.ref a.c_NoStretch) (.type "ValueError")=some true
 k_SN:PySem.W.kitAny K (.ref a.c_NoStretch) [.ref a.c_Barred,.ref a.c_NoAddress,.ref a.c_Taken]=some false
 k_RS:PySem.W.kitOne K (.ref a.c_NoRights) (.ref a.c_NoStretch)=some false
 k_RR:PySem.W.kitOne K (.ref a.c_NoRights) (.ref a.c_NoRights)=some true
 k_RU:PySem.W.kitOne K (.ref a.c_NoRights) (.ref a.c_Unmapped)=some false
 k_RV:PySem.W.kitOne K (.ref a.c_NoRights) (.type "ValueError")=some true
 k_RN:PySem.W.kitAny K (.ref a.c_NoRights) [.ref a.c_Barred,.ref a.c_NoAddress,.ref a.c_Taken]=some false
 k_US:PySem.W.kitOne K (.ref a.c_Unmapped) (.ref a.c_NoStretch)=some false
 k_UR:PySem.W.kitOne K (.ref a.c_Unmapped) (.ref a.c_NoRights)=some false
 k_UU:PySem.W.kitOne K (.ref a.c_Unmapped) (.ref a.c_Unmapped)=some true
 k_UV:PySem.W.kitOne K (.ref a.c_Unmapped) (.type "ValueError")=some true
 k_UN:PySem.W.kitAny K (.ref a.c_Unmapped) [.ref a.c_Barred,.ref a.c_NoAddress,.ref a.c_Taken]=some false
 k_AA:PySem.W.kitOne K (.ref a.c_NoAddress) (.ref a.c_NoAddress)=some true
 k_AV:PySem.W.kitOne K (.ref a.c_NoAddress) (.type "ValueError")=some true
 k_AN:PySem.W.kitAny K (.ref a.c_NoAddress) [.ref a.c_NoStretch,.ref a.c_NoRights,.ref a.c_Taken,.ref a.c_Barred,.ref a.c_Unmapped]=some false
def fldS (t:Addr)(low:Int): List (Str×V):=putF "low" (.int low) (putF "widths" (.ref t) [])
theorem fldS_widths (t:Addr)(low:Int): (fldS t low).lookup ("widths" : Str)=some (.ref t):=by
 unfold fldS
 rw[lookup_putF,if_neg (by decide +kernel),lookup_putF,if_pos rfl]
theorem fldS_low (t:Addr)(low:Int): (fldS t low).lookup ("low" : Str)=some (.int low):=by
 unfold fldS
 rw[lookup_putF,if_pos rfl]
theorem fldS_no (t:Addr) (low:Int) {m:Str} (h1:¬m = "widths") (h2:¬m = "low"):(fldS t low).lookup m=none:=by
 unfold fldS
 rw[lookup_putF,if_neg h2,lookup_putF,if_neg h1]
 rfl
structure Good (ns:List Int)(low:Int): Prop where
 len:ns.length=2\/ns.length=3
 all:∀x∈ns,1<=x/\x<=24
 low0:0<=low
 low6:low<=6
theorem sum_le {B:Int}: ∀{ns:List Int},(∀x∈ns,1<=x/\x<=B)->(ns.length:Int)<=ns.sum/\ns.sum<=B*ns.length
 | [],_=>by simp
 | n::r,h=>by
  have h1:=h n List.mem_cons_self
  have h2:=sum_le (ns:=r) fun x hx=>h x (List.mem_cons_of_mem _ hx)
  rw[List.sum_cons,List.length_cons]
  have e:B*((r.length+1:Nat):Int)=B*(r.length:Int)+B:=by rw[Int.natCast_add,Int.mul_add];simp
  rw[e]
  have e2:((r.length+1:Nat):Int)=(r.length:Int)+1:=by simp
  rw[e2]
  omega
theorem Good.sum {ns:List Int}{low:Int}(g:Good ns low): 2<=ns.sum/\ns.sum<=72:=by
 have h:=sum_le g.all
 have:=g.len
 omega
def ShAt (C:Addr)(H:Hp)(p:Addr)(ns:List Int)(low:Int): Prop:=∃dx t,H p=some (.ins C dx (fldS t low))/\H t=some (.tup (ns.map V.int))
theorem ShAt.same {C:Addr}{H H':Hp}{p:Addr}{ns:List Int}{low:Int}(S:ShAt C H p ns low)(sm:Same H H'): ShAt C H' p ns low:=by
 obtain⟨dx,t,h1,h2⟩:=S
 exact⟨dx,t,sm _ _ h1,sm _ _ h2⟩
def spCheckShape (a:Adr): Sp:=fun vs H Q E=>∃(p:Addr) (ns:List Int) (low:Int),vs=[.ref p,.int low]/\H p=some (.lst (ns.map V.int))/\ns.length<=64 ∧
 (Good ns low->∀H',Same H H'->Q .non H')/\(¬Good ns low->∀H',Same H H'->E (.ref a.c_NoShape) none H')
def spShInit (a:Adr): Sp:=fun vs H Q E=>∃(p w dx:Addr) (ns:List Int) (low:Int),vs=[.ref p,.ref w,.int low]/\H p=some (.ins a.c_Shape dx [])/\H w=some (.lst (ns.map V.int))/\ns.length<=64 ∧
 (Good ns low->∀H',ShAt a.c_Shape H' p ns low->(∀b o,H b=some o->b≠p->H' b=some o)->Q .non H')/\(¬Good ns low->∀H',Same H H'->E (.ref a.c_NoShape) none H')
def spPages (a:Adr): Sp:=fun vs H Q _=>∃(p:Addr) (ns:List Int) (low:Int),vs=[.ref p]/\ShAt a.c_Shape H p ns low/\Good ns low/\Q (.int (2^ns.sum.toNat)) H
def spSize (a:Adr): Sp:=fun vs H Q _=>∃(p:Addr) (ns:List Int) (low:Int),vs=[.ref p]/\ShAt a.c_Shape H p ns low/\Good ns low/\Q (.int (2^low.toNat)) H
theorem in23 (n:Nat): inV (.int n) [V.int 2,V.int 3]=decide (n=2\/n=3):=by
 have:=inV_ints (n:Int) [2,3]
 rw[show [V.int 2,V.int 3]=([2,3]:List Int).map V.int from rfl,this]
 rw[decide_eq_decide]
 simp only [List.mem_cons,List.not_mem_nil,or_false]
 omega
section
variable {P:Program}{w:World}{K:PySem.W.Frag}{mg:Str->Option Value}{base:Heap}{a:Adr}
theorem ok_check_shape {dvs:List V} (R:RawF K mg "check_shape" s_check_shape ["widths", "low"] dvs) (T:Txt w K mg a) :
  HasFn P w K mg base 1 "check_shape" ["widths", "low"] (spCheckShape a) dvs:=by
 refine R.ok sc_check_shape (fun vs H Q E h=>?_) (fun f cdv A outer s H vs Q E hr h=>?_)
 ·obtain⟨p,ns,low,rfl,_⟩:=h
  rfl
 obtain⟨p,ns,low,rfl,hp,hl,k1,k2⟩:=h
 refine⟨_,(@pss_cons _ _ _ _ _ (ps_if (pt_cmpR op_notIn_seq (pe_callB call_len_seq (by rfl) T.b_len PySem.boot_len (@pa_cn _ _ _ _ _ (pv 0) pa_nil rfl)) (@pe_tup _ _ _ _ _ (@pa_cn _ _ _ _ _ pe_int (@pa_cn _ _ _ _ _ pe_int pa_nil rfl) rfl)) (by with_unfolding_all rfl)) (@pss_one _ _ _ (ps_raise T.x_NoShape rfl (by rfl) T.m_NoShape pass_def (@pa_cn _ _ _ _ _ pe_str pa_nil rfl))) pss_nil)
   (@pss_cons _ _ _ _ _ (ps_for own_def rfl (pi_list (pv 0)) (pg_name (i:=2) sc_check_shape.nd rfl (by first | exact Or.inl rfl | exact Or.inr rfl))
   (@pss_one _ _ _ (ps_if (pt_not (pt_chain op_le op_le pe_int (pv 2) (pe_globI (by rfl) T.g_MOST_WIDTH))) (@pss_one _ _ _ (ps_raise T.x_NoShape rfl (by rfl) T.m_NoShape pass_def (@pa_cn _ _ _ _ _ pe_str pa_nil rfl))) pss_nil)))
   (@pss_one _ _ _ (ps_if (pt_not (pt_chain op_le op_le pe_int (pv 1) (pe_globI (by rfl) T.g_MOST_LOW))) (@pss_one _ _ _ (ps_raise T.x_NoShape rfl (by rfl) T.m_NoShape pass_def (@pa_cn _ _ _ _ _ pe_str pa_nil rfl))) pss_nil)))),?_⟩
 refine⟨_,rfl,p,_,rfl,.inl (SqL.of hp),small_line (by show 2<=1000;decide),fun t ht=>⟨t,_,rfl,.inr (SqT.of upd_same),rfl,rfl,_,rfl,?_⟩⟩
 have sm:Same H (upd H t (.tup [V.int 2,V.int 3])):=same_upd ht
 generalize upd H t (.tup [V.int 2,V.int 3])=H1 at sm
 show if (!inV (.int ((ns.map V.int).length:Nat)) [V.int 2,V.int 3])=true then _ else _
 rw[in23,List.length_map]
 refine iteN (fun c=>?_) (fun c=>?_)
 ·exact⟨one_line,k2 (fun g=>c g.len) _ sm⟩
 ·refine⟨_,rfl,p,rfl,⟨_,SqL.of (sm _ _ hp)⟩,for_list (xs:=ns.map V.int) (fun i σ H'=>(∃v,σ=[some (.ref p),some (.int low),v])/\H'=H1/\∀(j:Nat) (x:Int),j < i->ns[j]?=some x->1<=x/\x<=24) ⟨⟨none,rfl⟩,rfl,fun j x hj=>by omega⟩ (fun i σ H' _ z=>by rw[z.2.1];exact SqL.of (sm _ _ hp)) ?_ ?_⟩
  ·rintro i v σ H' hi ⟨⟨w,rfl⟩,rfl,al⟩
   obtain⟨x,rfl,hx⟩:=mem_ints hi
   have bad:¬(1<=x/\x<=24)->¬Good ns low:=fun z g=>z (g.all x (List.mem_of_getElem? hx))
   refine⟨_,rfl,_,_,rfl,rfl,_,rfl,iteD (fun c0=>?_) (fun c0=>?_)⟩
   ·refine⟨_,_,rfl,rfl,_,rfl,iteN (fun c1=>?_) (fun c1=>?_)⟩
    ·exact⟨one_line,k2 (bad fun z=>c1 z.2) _ sm⟩
    ·refine⟨⟨_,rfl⟩,rfl,fun j y hj hy=>?_⟩
     by_cases e:j=i
     ·subst e
      rw[hx] at hy
      cases hy
      exact⟨c0,c1⟩
     ·exact al j y (by omega) hy
   ·exact⟨_,rfl,iteT ⟨one_line,k2 (bad fun z=>c0 z.1) _ sm⟩⟩
  ·rintro σ H' ⟨⟨w,rfl⟩,rfl,al⟩
   have al':∀x∈ns,1<=x/\x<=24:=fun x hx=>by
    obtain⟨j,hj,e⟩:=List.getElem_of_mem hx
    exact al j x (by rw[List.length_map];exact hj) (by rw[List.getElem?_eq_getElem hj,e])
   refine⟨_,rfl,_,_,rfl,rfl,_,rfl,iteD (fun c0=>?_) (fun c0=>?_)⟩
   ·refine⟨_,_,rfl,rfl,_,rfl,iteN (fun c1=>?_) (fun c1=>?_)⟩
    ·exact⟨one_line,k2 (fun g=>c1 g.low6) _ sm⟩
    ·exact k1 ⟨c,al',c0,c1⟩ _ sm
   ·exact⟨_,rfl,iteT ⟨one_line,k2 (fun g=>c0 g.low0) _ sm⟩⟩
theorem ok_Shape___init__ {dvs:List V} (R:RawI K a.c_Shape "Shape.__init__" s_Shape___init__ ["self", "widths", "low"] dvs) (T:Txt w K mg a)
  (h_check_shape:HasFn P w K mg base 1 "check_shape" ["widths", "low"] (spCheckShape a) []) :
  HasMk P w K mg base a.c_Shape 2 ["self", "widths", "low"] (spShInit a) dvs:=by
 refine R.ok sc_Shape___init__ (fun vs H Q E h=>?_) (fun f cdv A outer s H vs Q E hr h=>?_)
 ·obtain⟨p,w',dx,ns,low,rfl,_⟩:=h
  rfl
 obtain⟨p,w',dx,ns,low,rfl,hp,hw,hl,k1,k2⟩:=h
 refine⟨_,(@pss_cons _ _ _ _ _ (ps_expr (pe_fn h_check_shape (hr.mono (by decide)) (by rfl) pass_def (@pa_cn _ _ _ _ _ (pv 1) (@pa_cn _ _ _ _ _ (pv 2) pa_nil rfl) rfl)))
   (@pss_cons _ _ _ _ _ (ps_fld (pv 0) (pe_callTy call_tuple_of (by rfl) T.b_tuple PyProof.Rows.Boot.«tuple» (@pa_cn _ _ _ _ _ (pv 1) pa_nil rfl)) rfl)
   (@pss_one _ _ _ (ps_fld (pv 0) (pv 2) rfl)))),?_⟩
 refine⟨_,rfl,_,rfl,w',ns,low,rfl,hw,hl,fun g H1 sm=>?_,fun g H1 sm=>k2 g H1 sm⟩
 refine⟨_,rfl,w',_,rfl,.inl ⟨SqL.of (sm _ _ hw),fun t ht=>⟨_,rfl,p,a.c_Shape,dx,[],rfl,same_upd ht _ _ (sm _ _ hp),T.cl_Shape,T.n_Shape_widths,(by show 0 < 1000;decide),?_⟩⟩⟩
 refine⟨_,rfl,_,rfl,p,a.c_Shape,dx,_,rfl,upd_same,T.cl_Shape,T.n_Shape_low,(by show 1 < 1000;decide),?_⟩
 have npt:=ne_of_none (sm _ _ hp) ht
 refine k1 g _ ⟨dx,t,upd_same,?_⟩ fun b o hb nb=>?_
 ·rw[upd_ne npt.symm,upd_ne npt.symm,upd_same]
 ·rw[upd_ne nb,upd_ne nb]
  exact same_upd ht _ _ (sm _ _ hb)
theorem ok_Shape_pages {dvs:List V} (R:RawM K a.c_Shape "pages" "Shape.pages" s_Shape_pages ["self"] dvs) (T:Txt w K mg a) :
  HasMe P w K mg base a.c_Shape 1 "pages" ["self"] (spPages a) dvs:=by
 refine R.ok sc_Shape_pages (fun vs H Q E h=>?_) (fun f cdv A outer s H vs Q E hr h=>?_)
 ·obtain⟨p,ns,low,rfl,_⟩:=h
  rfl
 obtain⟨p,ns,low,rfl,S,g,k⟩:=h
 refine⟨_,(@pss_one _ _ _ (@ps_ret _ _ _ _ (pe_op op_shl pe_int (pe_callB (call_sumT rfl) (by rfl) T.b_sum PyProof.Rows.Boot.«sum» (@pa_cn _ _ _ _ _ (pe_fld (pv 0) rfl) pa_nil rfl))))),?_⟩
 obtain⟨dx,t,h1,h2⟩:=id S
 have hs:=g.sum
 refine⟨_,rfl,p,a.c_Shape,dx,_,_,rfl,h1,T.cl_Shape,T.n_Shape_widths,fldS_widths t low,t,ns,rfl,SqT.of h2,_,_,rfl,rfl,⟨by omega,by omega,by decide⟩,?_⟩
 show Q (.int (1*2^ns.sum.toNat)) H
 rw[Int.one_mul]
 exact k
theorem ok_Shape_size {dvs:List V} (R:RawM K a.c_Shape "size" "Shape.size" s_Shape_size ["self"] dvs) (T:Txt w K mg a) :
  HasMe P w K mg base a.c_Shape 1 "size" ["self"] (spSize a) dvs:=by
 refine R.ok sc_Shape_size (fun vs H Q E h=>?_) (fun f cdv A outer s H vs Q E hr h=>?_)
 ·obtain⟨p,ns,low,rfl,_⟩:=h
  rfl
 obtain⟨p,ns,low,rfl,S,g,k⟩:=h
 refine⟨_,(@pss_one _ _ _ (@ps_ret _ _ _ _ (pe_op op_shl pe_int (pe_fld (pv 0) rfl)))),?_⟩
 obtain⟨dx,t,h1,h2⟩:=id S
 have h6:=g.low6
 have h0:=g.low0
 refine⟨_,rfl,p,a.c_Shape,dx,_,_,rfl,h1,T.cl_Shape,T.n_Shape_low,fldS_low t low,_,_,rfl,rfl,⟨by omega,by omega,by decide⟩,?_⟩
 show Q (.int (1*2^low.toNat)) H
 rw[Int.one_mul]
 exact k
end
def spInside (a:Adr): Sp:=fun vs H Q E=>∃n b:Int,vs=[.int n,.int b]/\(0<=n/\n < b->Q .non H)/\(¬(0<=n/\n < b)->E (.ref a.c_NoAddress) none H)
def pgs (ns:List Int): Int:=2^ns.sum.toNat
def plc (low:Int): Int:=2^low.toNat
theorem two_pos (k:Nat): (0:Int) < 2^k:=Int.pow_pos (by decide)
theorem pgs_pos (ns:List Int): 0 < pgs ns:=two_pos _
theorem plc_pos (low:Int): 0 < plc low:=two_pos _
theorem pow_le_pow {a b:Nat}(h:a<=b): (2:Int)^a<=2^b:=by
 have:=Nat.pow_le_pow_right (show 0 < 2 by decide) h
 have e:∀k:Nat,((2^k:Nat):Int)=(2:Int)^k:=fun k=>by
  rw[Int.natCast_pow]
  rfl
 rw[<-e,<-e]
 omega
theorem Good.pgs_le {ns:List Int}{low:Int}(g:Good ns low): pgs ns<=2^72:=pow_le_pow (by have:=g.sum;omega)
theorem Good.plc_le {ns:List Int}{low:Int}(g:Good ns low): plc low<=64:=by
 have:plc low<=2^6:=pow_le_pow (by have:=g.low6;omega)
 have e:(2:Int)^6=64:=by decide
 omega
def spAddr (a:Adr): Sp:=fun vs H Q E=>∃(p:Addr) (ns:List Int) (low n:Int),vs=[.ref p,.int n]/\ShAt a.c_Shape H p ns low/\Good ns low/\(0<=n/\n < pgs ns*plc low->Q .non H)/\(¬(0<=n/\n < pgs ns*plc low)->E (.ref a.c_NoAddress) none H)
section
variable {P:Program}{w:World}{K:PySem.W.Frag}{mg:Str->Option Value}{base:Heap}{a:Adr}
theorem ok_check_inside {dvs:List V} (R:RawF K mg "check_inside" s_check_inside ["number", "bound"] dvs) (T:Txt w K mg a) :
  HasFn P w K mg base 1 "check_inside" ["number", "bound"] (spInside a) dvs:=by
 refine R.ok sc_check_inside (fun vs H Q E h=>?_) (fun f cdv A outer s H vs Q E hr h=>?_)
 ·obtain⟨n,b,rfl,_⟩:=h
  rfl
 obtain⟨n,b,rfl,k1,k2⟩:=h
 refine⟨_,(@pss_one _ _ _ (ps_if (pt_not (pt_chain op_le op_lt pe_int (pv 0) (pv 1))) (@pss_one _ _ _ (ps_raise T.x_NoAddress rfl (by rfl) T.m_NoAddress pass_def (@pa_cn _ _ _ _ _ pe_str pa_nil rfl))) pss_nil)),?_⟩
 refine⟨_,rfl,_,_,rfl,rfl,_,rfl,iteD (fun c0=>?_) (fun c0=>?_)⟩
 ·refine⟨_,rfl,_,_,rfl,rfl,_,rfl,iteN (fun c1=>?_) (fun c1=>?_)⟩
  ·exact⟨one_line,k2 fun z=>c1 z.2⟩
  ·exact k1 ⟨c0,c1⟩
 ·exact⟨_,rfl,iteT ⟨one_line,k2 fun z=>c0 z.1⟩⟩
theorem ok_Shape_check_address {dvs:List V} (R:RawM K a.c_Shape "check_address" "Shape.check_address" s_Shape_check_address ["self", "address"] dvs) (T:Txt w K mg a)
  (h_check_inside:HasFn P w K mg base 1 "check_inside" ["number", "bound"] (spInside a) [])
  (h_Shape_pages:HasMe P w K mg base a.c_Shape 1 "pages" ["self"] (spPages a) [])
  (h_Shape_size:HasMe P w K mg base a.c_Shape 1 "size" ["self"] (spSize a) []) :
  HasMe P w K mg base a.c_Shape 2 "check_address" ["self", "address"] (spAddr a) dvs:=by
 refine R.ok sc_Shape_check_address (fun vs H Q E h=>?_) (fun f cdv A outer s H vs Q E hr h=>?_)
 ·obtain⟨p,ns,low,n,rfl,_⟩:=h
  rfl
 obtain⟨p,ns,low,n,rfl,S,g,k1,k2⟩:=h
 refine⟨_,(@pss_one _ _ _ (ps_expr (pe_fn h_check_inside (hr.mono (by decide)) (by rfl) pass_def (@pa_cn _ _ _ _ _ (pv 1) (@pa_cn _ _ _ _ _ (pe_op op_mul (pe_me0 (pv 0) T.cl_Shape h_Shape_pages (hr.mono (by decide)) pass_def) (pe_me0 (pv 0) T.cl_Shape h_Shape_size (hr.mono (by decide)) pass_def)) pa_nil rfl) rfl)))),?_⟩
 obtain⟨dx,t,h1,h2⟩:=id S
 have hp:=pgs_pos ns
 have h6:=g.plc_le
 have h0:=plc_pos low
 exact⟨_,rfl,_,rfl,p,dx,_,rfl,h1,fldS_no t low (by decide +kernel) (by decide +kernel),p,ns,low,rfl,S,g,_,rfl,p,dx,_,rfl,h1,fldS_no t low (by decide +kernel) (by decide +kernel),p,ns,low,rfl,S,g,_,_,rfl,rfl,
  .inr (by show -(2^64) < plc low/\plc low < 2^64;omega),n,_,rfl,fun c=>k1 c,fun c=>k2 c⟩
end
def spAddrOf (a:Adr): Sp:=fun vs H Q E=>∃(p:Addr) (ns:List Int) (low n m:Int),vs=[.ref p,.int n,.int m]/\ShAt a.c_Shape H p ns low/\Good ns low/\((0<=n/\n < pgs ns)/\0<=m/\m < plc low->Q (.int (n*plc low+m)) H)/\(¬((0<=n/\n < pgs ns)/\0<=m/\m < plc low)->E (.ref a.c_NoAddress) none H)
def Strt (ns:List Int)(first many:Int): Prop:=(1<=many/\many<=64)/\0<=first/\first+many<=pgs ns
def spStretch (a:Adr): Sp:=fun vs H Q E=>∃(p:Addr) (ns:List Int) (low n m:Int),vs=[.ref p,.int n,.int m]/\ShAt a.c_Shape H p ns low/\Good ns low ∧
 (Strt ns n m->∀q H',Same H H'->H' q=some (.lst ((runL n m.toNat).map V.int))->H q=none->Q (.ref q) H')/\(¬Strt ns n m->E (.ref a.c_NoStretch) none H)
section
variable {P:Program}{w:World}{K:PySem.W.Frag}{mg:Str->Option Value}{base:Heap}{a:Adr}
theorem ok_Shape_address_of {dvs:List V} (R:RawM K a.c_Shape "address_of" "Shape.address_of" s_Shape_address_of ["self", "page", "place"] dvs) (T:Txt w K mg a)
  (h_check_inside:HasFn P w K mg base 1 "check_inside" ["number", "bound"] (spInside a) [])
  (h_Shape_pages:HasMe P w K mg base a.c_Shape 1 "pages" ["self"] (spPages a) [])
  (h_Shape_size:HasMe P w K mg base a.c_Shape 1 "size" ["self"] (spSize a) []) :
  HasMe P w K mg base a.c_Shape 2 "address_of" ["self", "page", "place"] (spAddrOf a) dvs:=by
 refine R.ok sc_Shape_address_of (fun vs H Q E h=>?_) (fun f cdv A outer s H vs Q E hr h=>?_)
 ·obtain⟨p,ns,low,n,m,rfl,_⟩:=h
  rfl
 obtain⟨p,ns,low,n,m,rfl,S,g,k1,k2⟩:=h
 refine⟨_,(@pss_cons _ _ _ _ _ (ps_expr (pe_fn h_check_inside (hr.mono (by decide)) (by rfl) pass_def (@pa_cn _ _ _ _ _ (pv 1) (@pa_cn _ _ _ _ _ (pe_me0 (pv 0) T.cl_Shape h_Shape_pages (hr.mono (by decide)) pass_def) pa_nil rfl) rfl)))
   (@pss_cons _ _ _ _ _ (ps_expr (pe_fn h_check_inside (hr.mono (by decide)) (by rfl) pass_def (@pa_cn _ _ _ _ _ (pv 2) (@pa_cn _ _ _ _ _ (pe_me0 (pv 0) T.cl_Shape h_Shape_size (hr.mono (by decide)) pass_def) pa_nil rfl) rfl)))
   (@pss_one _ _ _ (@ps_ret _ _ _ _ (pe_op op_or (pe_op op_shlW (pv 1) (pe_fld (pv 0) rfl)) (pv 2)))))),?_⟩
 obtain⟨dx,t,h1,h2⟩:=id S
 refine⟨_,rfl,_,rfl,p,dx,_,rfl,h1,fldS_no t low (by decide +kernel) (by decide +kernel),p,ns,low,rfl,S,g,n,_,rfl,fun c=>?_,fun c=>k2 fun z=>c z.1⟩
 refine⟨_,rfl,_,rfl,p,dx,_,rfl,h1,fldS_no t low (by decide +kernel) (by decide +kernel),p,ns,low,rfl,S,g,m,_,rfl,fun c2=>?_,fun c2=>k2 fun z=>c2 z.2⟩
 refine⟨_,rfl,_,rfl,p,a.c_Shape,dx,_,_,rfl,h1,T.cl_Shape,T.n_Shape_low,fldS_low t low,_,_,rfl,rfl,⟨g.low0,by have:=g.low6;omega,?_⟩,_,rfl,_,_,rfl,rfl,?_⟩
 ·have h:=g.pgs_le
  have c1:n < pgs ns:=c.2
  have c0:0<=n:=c.1
  exact big_of c0 (by omega)
 ·show Q (.int (Builtin.bitOr (n*2^low.toNat) m)) H
  rw[or_place c.1 c2.1 c2.2]
  exact k1 ⟨c,c2⟩
theorem ok_Shape_stretch {dvs:List V} (R:RawM K a.c_Shape "stretch" "Shape.stretch" s_Shape_stretch ["self", "first", "many"] dvs) (T:Txt w K mg a)
  (h_Shape_pages:HasMe P w K mg base a.c_Shape 1 "pages" ["self"] (spPages a) []) :
  HasMe P w K mg base a.c_Shape 2 "stretch" ["self", "first", "many"] (spStretch a) dvs:=by
 refine R.ok sc_Shape_stretch (fun vs H Q E h=>?_) (fun f cdv A outer s H vs Q E hr h=>?_)
 ·obtain⟨p,ns,low,n,m,rfl,_⟩:=h
  rfl
 obtain⟨p,ns,low,n,m,rfl,S,g,k1,k2⟩:=h
 refine⟨_,(@pss_cons _ _ _ _ _ (ps_if (pt_not (pt_chain op_le op_le pe_int (pv 2) (pe_globI (by rfl) T.g_MOST_PAGES))) (@pss_one _ _ _ (ps_raise T.x_NoStretch rfl (by rfl) T.m_NoStretch pass_def (@pa_cn _ _ _ _ _ pe_str pa_nil rfl))) pss_nil)
   (@pss_cons _ _ _ _ _ (ps_if (pt_not (pt_chain op_le op_le pe_int (pv 1) (pe_op op_sub (pe_me0 (pv 0) T.cl_Shape h_Shape_pages (hr.mono (by decide)) pass_def) (pv 2)))) (@pss_one _ _ _ (ps_raise T.x_NoStretch rfl (by rfl) T.m_NoStretch pass_def (@pa_cn _ _ _ _ _ pe_str pa_nil rfl))) pss_nil)
   (@pss_one _ _ _ (@ps_ret _ _ _ _ (pe_callTy (call_list_rng rfl) (by rfl) T.b_list PyProof.Rows.Boot.«list» (@pa_cn _ _ _ _ _ (pe_range2 (by rfl) T.b_range (@pa_cn _ _ _ _ _ (pv 1) (@pa_cn _ _ _ _ _ (pe_op op_add (pv 1) (pv 2)) pa_nil rfl) rfl)) pa_nil rfl)))))),?_⟩
 obtain⟨dx,t,h1,h2⟩:=id S
 have hp:=g.pgs_le
 refine⟨_,rfl,_,_,rfl,rfl,_,rfl,iteD (fun c0=>?_) (fun c0=>?_)⟩
 ·refine⟨_,_,rfl,rfl,_,rfl,iteN (fun c1=>?_) (fun c1=>?_)⟩
  ·exact⟨one_line,k2 fun z=>c1 z.1.2⟩
  ·refine⟨_,rfl,_,_,rfl,rfl,_,rfl,iteD (fun c2=>?_) (fun c2=>?_)⟩
   ·refine⟨_,rfl,p,dx,_,rfl,h1,fldS_no t low (by decide +kernel) (by decide +kernel),p,ns,low,rfl,S,g,_,rfl,_,_,rfl,rfl,_,_,rfl,rfl,_,rfl,iteN (fun c3=>?_) (fun c3=>?_)⟩
    ·exact⟨one_line,k2 fun z=>c3 (by have:=z.2.2;show n<=pgs ns-m;omega)⟩
    ·have c3':n<=pgs ns-m:=c3
     refine⟨_,rfl,_,rfl,_,rfl,_,_,rfl,rfl,n,n+m,rfl,fun r hr'=>⟨r,n,n+m,rfl,upd_same,by omega,fun q hq=>?_⟩⟩
     have e:(n+m-n).toNat=m.toNat:=by omega
     rw[e]
     exact k1 ⟨⟨c0,c1⟩,c2,by omega⟩ q _ ((same_upd hr').trans (same_upd hq)) upd_same ((same_upd hr').free hq)
   ·exact⟨_,rfl,iteT ⟨one_line,k2 fun z=>c2 z.2.1⟩⟩
 ·exact⟨_,rfl,iteT ⟨one_line,k2 fun z=>c0 z.1.1⟩⟩
end
def spPartW (a:Adr): Sp:=fun vs H Q _=>∃(p:Addr) (ns:List Int) (low:Int),vs=[.ref p]/\ShAt a.c_Shape H p ns low/\Good ns low/\∀t H',Same H H'->H' t=some (.tup ((ns++[low]).map V.int))->Q (.ref t) H'
def spCut (a:Adr): Sp:=fun vs H Q E=>∃(p:Addr) (ns:List Int) (low n:Int),vs=[.ref p,.int n]/\ShAt a.c_Shape H p ns low/\Good ns low ∧
 (0<=n/\n < pgs ns*plc low->∀t H',Same H H'->H' t=some (.tup ((parts (ns++[low]) n).map V.int))->Q (.ref t) H')/\(¬(0<=n/\n < pgs ns*plc low)->E (.ref a.c_NoAddress) none H)
theorem Good.ws {ns:List Int}{low:Int}(g:Good ns low): ∀w∈ns++[low],0<=w/\w<=24:=fun w hw=>by
 rcases List.mem_append.mp hw with h | h
 ·have:=g.all w h;omega
 ·rw[List.mem_singleton] at h
  subst h
  have:=g.low0
  have:=g.low6
  omega
theorem cut_end {ws:List Int}{n:Int}{ps:List Int}(h:cutR ws.reverse n=ps): ps.reverse=parts ws n:=by
 unfold parts
 rw[h]
section
variable {P:Program}{w:World}{K:PySem.W.Frag}{mg:Str->Option Value}{base:Heap}{a:Adr}
theorem ok_Shape_part_widths {dvs:List V} (R:RawM K a.c_Shape "part_widths" "Shape.part_widths" s_Shape_part_widths ["self"] dvs) (T:Txt w K mg a) :
  HasMe P w K mg base a.c_Shape 1 "part_widths" ["self"] (spPartW a) dvs:=by
 refine R.ok sc_Shape_part_widths (fun vs H Q E h=>?_) (fun f cdv A outer s H vs Q E hr h=>?_)
 ·obtain⟨p,ns,low,rfl,_⟩:=h
  rfl
 obtain⟨p,ns,low,rfl,S,g,k⟩:=h
 refine⟨_,(@pss_one _ _ _ (@ps_ret _ _ _ _ (pe_op op_catT (pe_fld (pv 0) rfl) (@pe_tup _ _ _ _ _ (@pa_cn _ _ _ _ _ (pe_fld (pv 0) rfl) pa_nil rfl))))),?_⟩
 obtain⟨dx,t,h1,h2⟩:=id S
 have hlen:=g.len
 refine⟨_,rfl,p,a.c_Shape,dx,_,_,rfl,h1,T.cl_Shape,T.n_Shape_widths,fldS_widths t low,_,rfl,p,a.c_Shape,dx,_,_,rfl,h1,T.cl_Shape,T.n_Shape_low,fldS_low t low,one_line,fun q hq=>?_⟩
 refine⟨t,q,_,_,rfl,rfl,SqT.of (same_upd hq _ _ h2),SqT.of upd_same,?_,?_,⟨fun z=>(by cases z),fun _ r hr'=>?_⟩⟩
 ·intro z
  have:=congrArg List.length z
  rw[List.length_map] at this
  simp at this
  rw[this] at hlen
  simp at hlen
 ·rw[List.length_map,sizeLine_eq];show ns.length+1<=_;omega
 ·refine k r _ ((same_upd hq).trans (same_upd hr')) ?_
  rw[upd_same,List.map_append]
  rfl
theorem ok_Shape_cut {dvs:List V} (R:RawM K a.c_Shape "cut" "Shape.cut" s_Shape_cut ["self", "address"] dvs) (T:Txt w K mg a)
  (h_Shape_check_address:HasMe P w K mg base a.c_Shape 2 "check_address" ["self", "address"] (spAddr a) [])
  (h_Shape_part_widths:HasMe P w K mg base a.c_Shape 1 "part_widths" ["self"] (spPartW a) []) :
  HasMe P w K mg base a.c_Shape 3 "cut" ["self", "address"] (spCut a) dvs:=by
 refine R.ok sc_Shape_cut (fun vs H Q E h=>?_) (fun f cdv A outer s H vs Q E hr h=>?_)
 ·obtain⟨p,ns,low,n,rfl,_⟩:=h
  rfl
 obtain⟨p,ns,low,n,rfl,S,g,k1,k2⟩:=h
 refine⟨_,(@pss_cons _ _ _ _ _ (ps_expr (pe_me (pv 0) T.cl_Shape h_Shape_check_address (hr.mono (by decide)) pass_def (@pa_cn _ _ _ _ _ (pv 1) pa_nil rfl)))
   (@pss_cons _ _ _ _ _ (@ps_set _ _ 2 _ _ _ _ sc_Shape_cut.nd rfl (by first | exact Or.inl rfl | exact Or.inr rfl) (pv 1) (by rfl) (by first | exact Or.inl rfl | exact Or.inr rfl))
   (@pss_cons _ _ _ _ _ (@ps_set _ _ 3 _ _ _ _ sc_Shape_cut.nd rfl (by first | exact Or.inl rfl | exact Or.inr rfl) (@pe_lst _ _ _ _ pa_nil) (by rfl) (by first | exact Or.inl rfl | exact Or.inr rfl))
   (@pss_cons _ _ _ _ _ (ps_for own_def rfl (pi_revT (by rfl) T.b_reversed (pe_me0 (pv 0) T.cl_Shape h_Shape_part_widths (hr.mono (by decide)) pass_def)) (pg_name (i:=4) sc_Shape_cut.nd rfl (by first | exact Or.inl rfl | exact Or.inr rfl))
   (@pss_cons _ _ _ _ _ (ps_expr (pe_bm PySem.F.plainAttrs_list PySem.F.slot_list_append PySem.F.type_list_append mt_append (pv 3) (@pa_cn _ _ _ _ _ (pe_op op_and (pv 2) (pe_op op_sub (pe_op op_shl pe_int (pv 4)) pe_int)) pa_nil rfl)))
   (@pss_one _ _ _ (@ps_set _ _ 2 _ _ _ _ sc_Shape_cut.nd rfl (by first | exact Or.inl rfl | exact Or.inr rfl) (pe_op op_shr (pv 2) (pv 4)) (by rfl) (by first | exact Or.inl rfl | exact Or.inr rfl)))))
   (@pss_one _ _ _ (@ps_ret _ _ _ _ (pe_tuple_rev rfl (by rfl) T.b_tuple (by rfl) T.b_reversed (pv 3)))))))),?_⟩
 obtain⟨dx,t0,h1,h2⟩:=id S
 have hws:=g.ws
 have hlen:=g.len
 refine⟨_,rfl,p,dx,_,rfl,h1,fldS_no t0 low (by decide +kernel) (by decide +kernel),_,rfl,p,ns,low,n,rfl,S,g,fun c=>?_,fun c=>k2 c⟩
 refine⟨_,rfl,small_line (by show 0<=1000;decide),fun q hq=>?_⟩
 have s1:=same_upd (u:=.lst []) hq
 have q1:(upd H q (.lst [])) q=some (.lst []):=upd_same
 generalize upd H q (.lst [])=H1 at s1 q1
 refine⟨_,rfl,p,dx,_,rfl,s1 _ _ h1,fldS_no t0 low (by decide +kernel) (by decide +kernel),p,ns,low,rfl,S.same s1,g,fun t H2 s2 ht=>⟨t,_,rfl,SqT.of ht,?_⟩⟩
 generalize hW:ns++[low]=ws at hws ht k1
 have wl:ws.length<=4:=by rw[<-hW,List.length_append];show ns.length+1<=4;omega
 refine for_revT (xs:=ws.map V.int) (fun i σ H'=>∃(rest:Int) (ps:List Int) (v:Option V),σ=[some (.ref p),some (.int n),some (.int rest),some (.ref q),v]/\H' q=some (.lst (ps.map V.int))/\(∀b o,H2 b=some o->b≠q->H' b=some o)/\ps.length=i/\0<=rest/\cutR ws.reverse n=ps++cutR (ws.reverse.drop i) rest)
  ⟨n,[],none,rfl,s2 _ _ q1,fun b o hb _=>hb,rfl,c.1,rfl⟩ (fun i σ H' _ z=>?_) ?_ ?_
 ·obtain⟨_,_,_,_,hq',fr,_⟩:=z
  exact SqT.of (fr _ _ ht (L2.ne_of ht (s2 _ _ q1) (by intro z;cases z)))
 ·rintro i v σ H' hi ⟨rest,ps,u,rfl,hq',fr,hp,r0,e⟩
  rw[<-List.map_reverse] at hi
  obtain⟨w',rfl,hw⟩:=mem_ints hi
  have wm:w'∈ws:=List.mem_reverse.mp (List.mem_of_getElem? hw)
  have wb:=hws w' wm
  refine⟨_,rfl,.inl ⟨rfl,_,SqL.of hq'⟩,_,rfl,_,rfl,_,_,rfl,rfl,⟨by omega,by omega,by decide⟩,_,_,rfl,rfl,_,_,rfl,rfl,q,_,_,rfl,rfl,hq',?_,?_⟩
  ·have:=(List.getElem?_eq_some_iff.mp hw).1
   rw[List.length_reverse] at this
   rw[List.length_map,sizeLine_eq]
   omega
  refine⟨_,rfl,_,rfl,_,_,rfl,rfl,wb.1,rest / 2^w'.toNat,ps++[rest%2^w'.toNat],_,rfl,?_,fun b o hb nb=>?_,by rw[List.length_append,hp];rfl,div_nn r0,?_⟩
  ·rw[upd_same,List.map_append]
   show some (HO.lst (ps.map V.int++[V.int (Builtin.bitAnd rest (1*2^w'.toNat-1))]))=_
   rw[Int.one_mul,PySem.W.kbt_mask]
   rfl
  ·rw[upd_ne nb];exact fr b o hb nb
  ·have hd:ws.reverse.drop i=w'::ws.reverse.drop (i+1):=by
    have:=(List.getElem?_eq_some_iff.mp hw)
    obtain⟨hlt,he⟩:=this
    rw[List.drop_eq_getElem_cons hlt,he]
   rw[e,hd,cutR,List.append_assoc]
   rfl
 ·rintro σ H' ⟨rest,ps,v,rfl,hq',fr,hp,r0,e⟩
  rw[List.length_map] at e
  rw[List.drop_eq_nil_of_le (by rw[List.length_reverse];exact Nat.le_refl _)] at e
  refine⟨_,rfl,q,_,rfl,SqL.of hq',fun r hr'=>?_⟩
  have sm:Same H H':=fun b o hb=>fr b o (s2 _ _ (s1 _ _ hb)) (ne_of_none hb hq)
  refine k1 c r _ (sm.trans (same_upd hr')) ?_
  rw[upd_same,<-List.map_reverse]
  have e':cutR ws.reverse n=ps:=by rw[e];simp[cutR]
  rw[cut_end e']
end
end K18

set_option maxHeartbeats 4000000
namespace K18
open PySem L2
abbrev Ix:=List Int
structure TbAt (H:Hp)(d:Addr)(ch:Int->Option Addr)(cn:Nat): Prop where
 at':∃kvs,H d=some (.dK kvs)/\(∃ks:List Int,IKeys kvs ks)/\(kvs.map (·.1)).Nodup/\(∀i:Int,valV kvs (.inl i)=(ch i).map V.ref)/\kvs.length<=cn
structure TrIn (H:Hp)(n:Nat)(top:Addr)(nd:Ix->Option Addr)(fp:List Addr)(cn:Nat): Prop where
 tp:nd []=some top
 tb:∀π d,π.length < n->nd π=some d->TbAt H d (fun i=>nd (π++[i])) cn/\d∈fp
 inj:∀π ρ d,π.length < n->ρ.length < n->nd π=some d->nd ρ=some d->π=ρ
 up:∀π i x,nd (π++[i])=some x->∃d,nd π=some d
 lg:∀π x,nd π=some x->π.length<=n
 lv:∀b∈fp,∃kvs:List (Key×V),H b=some (.dK kvs)
def Full (n:Nat)(nd:Ix->Option Addr): Prop:=∀π d,nd π=some d->π≠[]->π.length < n->∃i x,nd (π++[i])=some x
theorem TbAt.keep {H H':Hp}{d:Addr}{ch:Int->Option Addr}{cn:Nat}(T:TbAt H d ch cn)(k:∀kvs:List (Key×V),H d=some (.dK kvs)->H' d=some (.dK kvs)): TbAt H' d ch cn:=by
 obtain⟨kvs,h,r⟩:=T
 exact⟨kvs,k _ h,r⟩
theorem TbAt.mono {H:Hp}{d:Addr}{ch:Int->Option Addr}{cn cn':Nat}(T:TbAt H d ch cn)(h:cn<=cn'): TbAt H d ch cn':=by
 obtain⟨kvs,h1,h2,h3,h4,h5⟩:=T
 exact⟨kvs,h1,h2,h3,h4,Nat.le_trans h5 h⟩
theorem TrIn.keep {H H':Hp}{n:Nat}{top:Addr}{nd:Ix->Option Addr}{fp:List Addr}{cn:Nat}(S:TrIn H n top nd fp cn)(k:∀b u,H b=some u->b∈fp->H' b=some u): TrIn H' n top nd fp cn :=
 { S with
  tb:=fun π d h1 h2=>by
   obtain⟨T,m⟩:=S.tb π d h1 h2
   exact⟨T.keep fun kvs e=>k _ _ e m,m⟩
  lv:=fun b hb=>by
   obtain⟨kvs,e⟩:=S.lv b hb
   exact⟨kvs,k _ _ e hb⟩ }
theorem TrIn.same {H H':Hp}{n:Nat}{top:Addr}{nd:Ix->Option Addr}{fp:List Addr}{cn:Nat}(S:TrIn H n top nd fp cn)(s:Same H H'): TrIn H' n top nd fp cn:=S.keep fun b u e _=>s _ _ e
theorem TrIn.mono {H:Hp}{n:Nat}{top:Addr}{nd:Ix->Option Addr}{fp:List Addr}{cn cn':Nat}(S:TrIn H n top nd fp cn)(h:cn<=cn'): TrIn H n top nd fp cn' :=
 { S with tb:=fun π d h1 h2=>⟨(S.tb π d h1 h2).1.mono h,(S.tb π d h1 h2).2⟩ }
theorem keys_putT {kvs:List (Key×V)}{k:Key}{v v0:V}(h:valV kvs k=some v0): (putK kvs k v).map (·.1)=kvs.map (·.1):=by
 unfold putK
 have e:(kvs.any fun kv=>decide (kv.1=k))=true:=by rw[valV_any,h];rfl
 rw[if_pos e,List.map_map]
 refine List.map_congr_left fun p _=>?_
 show (if p.1=k then (p.1,v) else p).1=p.1
 split<;>rfl
theorem put_keys {kvs:List (Key×V)}{ks:List Int}(i:Int)(v:V)(ek:IKeys kvs ks)(nd:(kvs.map (·.1)).Nodup): (∃ks':List Int,IKeys (putK kvs (.inl i) v) ks')/\((putK kvs (.inl i) v).map (·.1)).Nodup:=by
 cases e:valV kvs (.inl i) with
 | none=>exact⟨⟨ks++[i],by unfold IKeys;rw[putK_new _ e,List.map_append,List.map_append,ek];rfl⟩,nd_putK _ nd e⟩
 | some w=>exact⟨⟨ks,by unfold IKeys;rw[keys_putT e];exact ek⟩,by rw[keys_putT e];exact nd⟩
theorem valV_dropT (kvs:List (Key×V))(k j:Key): valV (dropK kvs k) j=if j=k then none else valV kvs j:=by
 induction kvs with
 | nil=>unfold valV dropK;simp
 | cons p r ih =>
  by_cases e:p.1=k
  ·rw[dropK_pos e,ih]
   by_cases q:j=k
   ·rw[if_pos q,if_pos q]
   ·rw[if_neg q,if_neg q]
    unfold valV
    rw[List.find?_cons_of_neg]
    simpa using fun z:p.1=j=>q (z.symm.trans e)
  ·rw[dropK_neg e]
   by_cases z:p.1=j
   ·subst z
    rw[if_neg e]
    unfold valV
    rw[List.find?_cons_of_pos (by simp),List.find?_cons_of_pos (by simp)]
   ·have e1:valV (p::dropK r k) j=valV (dropK r k) j:=by
     unfold valV;rw[List.find?_cons_of_neg (by simpa using z)]
    have e2:valV (p::r) j=valV r j:=by
     unfold valV;rw[List.find?_cons_of_neg (by simpa using z)]
    rw[e1,e2,ih]
theorem drop_keys {k:Int}: ∀{kvs:List (Key×V)} {ks:List Int},IKeys kvs ks->IKeys (dropK kvs (.inl k)) (ks.filter fun j=>decide (j≠k))
 | [],[],_=>rfl
 | [],k'::ks,h=>by cases h
 | p::r,[],h=>by cases h
 | p::r,j::ks,h=>by
  have h':=List.cons.inj h
  have ih:=drop_keys (k:=k) h'.2
  have hp:p.1=.inl j:=h'.1
  by_cases e:j=k
  ·rw[dropK_pos (by rw[hp,e]),List.filter_cons_of_neg (by simpa using e)];exact ih
  ·rw[dropK_neg (fun w=>e (Sum.inl.inj (hp.symm.trans w))),List.filter_cons_of_pos (by simpa using e)]
   unfold IKeys at ih ⊢
   rw[List.map_cons,List.map_cons,ih,hp]
theorem snoc_ne {π ρ:Ix}{i j:Int}(h:¬(π=ρ/\i=j)): π++[i]≠ρ++[j]:=fun z=>by
 have:=List.append_inj' z rfl
 exact h ⟨this.1,by simpa using this.2⟩
section
variable {H:Hp}{n:Nat}{top:Addr}{nd:Ix->Option Addr}{fp:List Addr}{cn:Nat}
def putNd (nd:Ix->Option Addr)(ι:Ix)(v:Option Addr): Ix->Option Addr:=fun ρ=>if ρ=ι then v else nd ρ
theorem TrIn.at1 (S:TrIn H n top nd fp cn){H':Hp}{π:Ix}{d:Addr}{i:Int}{v:Option Addr}{kvs':List (Key×V)}{fp':List Addr}{cn':Nat}(cc:cn<=cn')(hl:π.length < n)(hd:nd π=some d)(h':H' d=some (.dK kvs'))(ik:∃ks:List Int,IKeys kvs' ks)(nk:(kvs'.map (·.1)).Nodup)
  (vi:valV kvs' (.inl i)=v.map V.ref) (vo:∀j:Int,j≠i->valV kvs' (.inl j)=(nd (π++[j])).map V.ref) (ln:kvs'.length<=cn') (no:∀j,nd (π++[i]++[j])=none)
  (kp:∀b u,H b=some u->b∈fp->b≠d->H' b=some u) (sub:∀b∈fp,b∈fp')
  (new:∀e,v=some e->π.length+1 < n->H' e=some (.dK [])/\e∉fp/\e∈fp') (lv':∀b∈fp',∃kvs:List (Key×V),H' b=some (.dK kvs)):TrIn H' n top (putNd nd (π++[i]) v) fp' cn':=by
 have ne0:([]:Ix)≠π++[i]:=fun z=>by have:=congrArg List.length z;simp at this
 have pp:putNd nd (π++[i]) v π=some d:=by
  unfold putNd;rw[if_neg fun z=>by have:=congrArg List.length z;simp at this];exact hd
 have lpi:(π++[i]).length=π.length+1:=by simp
 refine⟨by unfold putNd;rw[if_neg ne0];exact S.tp,fun ρ e h1 h2=>?_,fun ρ τ e h1 h2 h3 h4=>?_,fun ρ j x h=>?_,fun ρ x h=>?_,lv'⟩
 ·by_cases c:ρ=π++[i]
  ·subst c
   unfold putNd at h2
   rw[if_pos rfl] at h2
   rw[lpi] at h1
   obtain⟨q1,q2,q3⟩:=new e h2 h1
   refine⟨⟨[],q1,⟨[],rfl⟩,List.nodup_nil,fun j=>?_,Nat.zero_le _⟩,q3⟩
   unfold putNd
   rw[if_neg fun z=>by have:=congrArg List.length z;simp at this,no j]
   rfl
  ·have h2':nd ρ=some e:=by unfold putNd at h2;rw[if_neg c] at h2;exact h2
   by_cases c2:ρ=π
   ·subst c2
    rw[hd] at h2'
    cases h2'
    refine⟨⟨kvs',h',ik,nk,fun j=>?_,ln⟩,sub _ (S.tb ρ d hl hd).2⟩
    unfold putNd
    by_cases c3:j=i
    ·subst c3;rw[if_pos rfl];exact vi
    ·rw[if_neg (snoc_ne fun w=>c3 w.2)];exact vo j c3
   ·obtain⟨T,m⟩:=S.tb ρ e h1 h2'
    have ed:e≠d:=fun z=>c2 (S.inj ρ π d h1 hl (by rw[<-z];exact h2') hd)
    have T':=(T.keep fun kvs q=>kp _ _ q m ed).mono cc
    obtain⟨kvs,t1,t2,t3,t4,t5⟩:=T'
    refine⟨⟨kvs,t1,t2,t3,fun j=>?_,t5⟩,sub _ m⟩
    unfold putNd
    rw[if_neg (snoc_ne fun w=>c2 w.1)]
    exact t4 j
 ·unfold putNd at h3 h4
  by_cases c1:ρ=π++[i]
  ·rw[if_pos c1] at h3
   by_cases c2:τ=π++[i]
   ·rw[c1,c2]
   ·rw[if_neg c2] at h4
    have:π.length+1 < n:=by rw[c1,lpi] at h1;exact h1
    exact absurd (S.tb τ e h2 h4).2 (new e h3 this).2.1
  ·rw[if_neg c1] at h3
   by_cases c2:τ=π++[i]
   ·rw[if_pos c2] at h4
    have:π.length+1 < n:=by rw[c2,lpi] at h2;exact h2
    exact absurd (S.tb ρ e h1 h3).2 (new e h4 this).2.1
   ·rw[if_neg c2] at h4
    exact S.inj ρ τ e h1 h2 h3 h4
 ·unfold putNd at h
  by_cases c:ρ++[j]=π++[i]
  ·have:=List.append_inj' c rfl
   rw[this.1]
   exact⟨d,pp⟩
  ·rw[if_neg c] at h
   obtain⟨e,q⟩:=S.up ρ j x h
   unfold putNd
   by_cases c2:ρ=π++[i]
   ·rw[c2,no j] at h;cases h
   ·exact⟨e,by rw[if_neg c2];exact q⟩
 ·unfold putNd at h
  by_cases c:ρ=π++[i]
  ·rw[c,lpi];exact hl
  ·rw[if_neg c] at h;exact S.lg ρ x h
theorem TrIn.above (S:TrIn H n top nd fp cn){π:Ix}(h:nd π=none): ∀j,nd (π++[j])=none:=fun j=>by
 cases e:nd (π++[j]) with
 | none=>rfl
 | some x=>obtain⟨d,q⟩:=S.up π j x e;rw[h] at q;cases q
end
end K18

set_option maxHeartbeats 4000000
namespace K18
open PySem L2
structure TrAt (a:Adr)(H:Hp)(p:Addr)(ns:List Int)(low:Int)(nd:Ix->Option Addr)(fp:List Addr)(cn:Nat): Prop where
 ob:∃dx sh top,H p=some (.ins a.c_Tree dx [("shape",.ref sh),("top",.ref top)])/\ShAt a.c_Shape H sh ns low/\TrIn H ns.length top nd fp cn
 g:Good ns low
 fu:Full ns.length nd
 ib:∀π x,nd π=some x->Fit (ns.take π.length) π
theorem TrAt.same {a:Adr}{H H':Hp}{p:Addr}{ns:List Int}{low:Int}{nd:Ix->Option Addr}{fp:List Addr}{cn:Nat}(S:TrAt a H p ns low nd fp cn)(s:Same H H'): TrAt a H' p ns low nd fp cn:=by
 obtain⟨⟨dx,sh,top,h1,h2,h3⟩,g,fu,ib⟩:=S
 exact⟨⟨dx,sh,top,s _ _ h1,h2.same s,h3.same s⟩,g,fu,ib⟩
theorem parts_len (ns:List Int)(n:Int): (parts ns n).length=ns.length:=by
 unfold parts
 rw[List.length_reverse]
 have:∀(ws:List Int) (n:Int),(cutR ws n).length=ws.length:=by
  intro ws
  induction ws with
  | nil=>intro n;rfl
  | cons w ws ih=>intro n;show (cutR ws _).length+1=_;rw[ih];rfl
 rw[this,List.length_reverse]
theorem cut_last (ws:List Int)(h:1<=ws.length): cutV (ws.map V.int) none (some (-1))=(ws.take (ws.length-1)).map V.int:=by
 unfold cutV
 rw[HT.sIx_none,List.length_map,List.drop_zero,List.map_take]
 have e:HT.sIx ws.length ws.length (some (-1))=ws.length-1:=by
  show (if (-1:Int) < 0 then ((-1:Int)+(ws.length:Int)).toNat else min (-1:Int).toNat ws.length)=_
  rw[if_pos (by decide)]
  omega
 rw[e,Nat.sub_zero]
theorem cut_lastT (ws:List Int)(x:Int): cutV ((ws++[x]).map V.int) none (some (-1))=ws.map V.int:=by
 rw[cut_last _ (by rw[List.length_append];show 1<=ws.length+1;omega),List.length_append]
 show ((ws++[x]).take (ws.length+1-1)).map V.int=_
 rw[Nat.add_sub_cancel,List.take_left' rfl]
theorem TrIn.pre {H:Hp}{n:Nat}{top:Addr}{nd:Ix->Option Addr}{fp:List Addr}{cn:Nat}(S:TrIn H n top nd fp cn): ∀(k:Nat) {ι:Ix} {x:Addr},ι.length=k->nd ι=some x->∀j,∃d,nd (ι.take j)=some d:=by
 intro k
 induction k with
 | zero =>
  intro ι x hk h j
  have:ι=[]:=List.eq_nil_of_length_eq_zero hk
  subst this
  rw[List.take_nil];exact⟨x,h⟩
 | succ k ih =>
  intro ι x hk h j
  by_cases c:ι.length<=j
  ·rw[List.take_of_length_le c];exact⟨x,h⟩
  ·have ne:ι≠[]:=fun z=>by rw[z] at hk;cases hk
   have e:=List.dropLast_concat_getLast ne
   rw[<-e] at h
   obtain⟨d,q⟩:=S.up _ _ _ h
   have l:ι.dropLast.length=k:=by rw[List.length_dropLast,hk];rfl
   obtain⟨d',q'⟩:=ih l q j
   refine⟨d',?_⟩
   rw[<-q']
   congr 1
   rw[List.dropLast_eq_take,List.take_take]
   congr 1
   omega
def spTInit (a:Adr): Sp:=fun vs H Q _=>∃(p sh dx:Addr) (ns:List Int) (low:Int),vs=[.ref p,.ref sh]/\H p=some (.ins a.c_Tree dx [])/\ShAt a.c_Shape H sh ns low/\Good ns low ∧
 ∀top H',H top=none->TrAt a H' p ns low (fun π=>if π=[] then some top else none) [top] 0->(∀b u,H b=some u->b≠p->H' b=some u)->Q .non H'
def spTIx (a:Adr): Sp:=fun vs H Q E=>∃(p:Addr) (ns:List Int) (low n:Int) (nd:Ix->Option Addr) (fp:List Addr) (cn:Nat),vs=[.ref p,.int n]/\TrAt a H p ns low nd fp cn ∧
 (0<=n/\n < pgs ns->∀t H',Same H H'->H' t=some (.tup ((parts ns n).map V.int))->Q (.ref t) H')/\(¬(0<=n/\n < pgs ns)->E (.ref a.c_NoAddress) none H)
def ndV:Option Addr->V
 | some x=>.ref x
 | none=>.non
def spTLeaf (a:Adr): Sp:=fun vs H Q E=>∃(p:Addr) (ns:List Int) (low n:Int) (nd:Ix->Option Addr) (fp:List Addr) (cn:Nat),vs=[.ref p,.int n]/\TrAt a H p ns low nd fp cn ∧
 (0<=n/\n < pgs ns->∀H',Same H H'->Q (ndV (nd (parts ns n))) H')/\(¬(0<=n/\n < pgs ns)->E (.ref a.c_NoAddress) none H)
section
variable {P:Program}{w:World}{K:PySem.W.Frag}{mg:Str->Option Value}{base:Heap}{a:Adr}
theorem ok_Tree___init__ {dvs:List V} (R:RawI K a.c_Tree "Tree.__init__" s_Tree___init__ ["self", "shape"] dvs) (T:Txt w K mg a) :
  HasMk P w K mg base a.c_Tree 1 ["self", "shape"] (spTInit a) dvs:=by
 refine R.ok sc_Tree___init__ (fun vs H Q E h=>?_) (fun f cdv A outer s H vs Q E hr h=>?_)
 ·obtain⟨p,sh,dx,ns,low,rfl,_⟩:=h
  rfl
 obtain⟨p,sh,dx,ns,low,rfl,hp,S,g,k⟩:=h
 refine⟨_,(@pss_cons _ _ _ _ _ (ps_fld (pv 0) (pv 1) rfl)
   (@pss_one _ _ _ (ps_fld (pv 0) pe_dnewK rfl))),?_⟩
 have t1:=T.cl_Tree;have t2:=T.n_Tree_shape;have t3:=T.n_Tree_top
 walk_at "go"
 intro d hd
 have hdp:d≠p:=fun z=>by rw[z,upd_same] at hd;cases hd
 have hd0:H d=none:=by rw[upd_ne hdp] at hd;exact hd
 walk_at "go"
 rw[pf_nil,pf_ne (by decide +kernel),pf_nil]
 obtain⟨dxs,ts,hs,hw⟩:=id S
 have nps:p≠sh:=fun z=>by
  rw[z,hs] at hp
  injection hp with hp
  injection hp with _ _ hf
  have:=fldS_low ts low
  rw[hf] at this
  cases this
 have npt:p≠ts:=ne_of hp hw (by intro z;cases z)
 have kp:∀b u,H b=some u->b≠p->upd (upd (upd H p (.ins a.c_Tree dx [("shape",.ref sh)])) d (.dK [])) p (.ins a.c_Tree dx [("shape",.ref sh),("top",.ref d)]) b=some u:=fun b u e nb=>by
  rw[upd_ne nb,upd_ne (ne_of_none e hd0),upd_ne nb];exact e
 have hd3:upd (upd (upd H p (.ins a.c_Tree dx [("shape",.ref sh)])) d (.dK [])) p (.ins a.c_Tree dx [("shape",.ref sh),("top",.ref d)]) d=some (.dK []):=by rw[upd_ne hdp];exact upd_same
 refine k d _ hd0 ⟨⟨dx,sh,d,upd_same,⟨dxs,ts,kp _ _ hs nps.symm,kp _ _ hw npt.symm⟩,?_⟩,g,fun π e h hn _=>(by rw[if_neg hn] at h;cases h),fun π x h=>?_⟩ kp
 case refine_2 =>
  by_cases c:π=[]
  ·rw[c];exact trivial
  ·rw[if_neg c] at h;cases h
 refine⟨if_pos rfl,fun π e h1 h2=>?_,fun π ρ e h1 h2 h3 h4=>?_,fun π i x h=>?_,fun π x h=>?_,fun b hb=>?_⟩
 ·by_cases c:π=[]
  ·rw[if_pos c] at h2
   cases h2
   refine⟨⟨[],hd3,⟨[],rfl⟩,List.nodup_nil,fun i=>?_,Nat.le_refl _⟩,by simp⟩
   rw[if_neg (by simp)];rfl
  ·rw[if_neg c] at h2;cases h2
 ·by_cases c:π=[]
  ·by_cases c2:ρ=[]
   ·rw[c,c2]
   ·rw[if_neg c2] at h4;cases h4
  ·rw[if_neg c] at h3;cases h3
 ·rw[if_neg (by simp)] at h;cases h
 ·by_cases c:π=[]
  ·rw[c];exact Nat.zero_le _
  ·rw[if_neg c] at h;cases h
 ·rw[List.mem_singleton] at hb;rw[hb];exact⟨[],hd3⟩
theorem ok_Tree_indexes {dvs:List V} (R:RawM K a.c_Tree "indexes" "Tree.indexes" s_Tree_indexes ["self", "page"] dvs) (T:Txt w K mg a)
  (h_Shape_cut:HasMe P w K mg base a.c_Shape 3 "cut" ["self", "address"] (spCut a) [])
  (h_Shape_address_of:HasMe P w K mg base a.c_Shape 2 "address_of" ["self", "page", "place"] (spAddrOf a) []) :
  HasMe P w K mg base a.c_Tree 4 "indexes" ["self", "page"] (spTIx a) dvs:=by
 refine R.ok sc_Tree_indexes (fun vs H Q E h=>?_) (fun f cdv A outer s H vs Q E hr h=>?_)
 ·obtain⟨p,ns,low,n,nd,fp,cn,rfl,_⟩:=h
  rfl
 obtain⟨p,ns,low,n,nd,fp,cn,rfl,S,k1,k2⟩:=h
 refine⟨_,(@pss_one _ _ _ (@ps_ret _ _ _ _ (pe_slice sl_tup (pe_me (pe_fld (pv 0) rfl) T.cl_Shape h_Shape_cut (hr.mono (by decide)) pass_def (@pa_cn _ _ _ _ _ (pe_me (pe_fld (pv 0) rfl) T.cl_Shape h_Shape_address_of (hr.mono (by decide)) pass_def (@pa_cn _ _ _ _ _ (pv 1) (@pa_cn _ _ _ _ _ pe_int pa_nil rfl) rfl)) pa_nil rfl)) po_none (po_some (pe_un un_neg pe_int))))),?_⟩
 have t1:=T.cl_Tree;have t2:=T.n_Tree_shape;have t3:=T.n_Tree_top;have t4:=T.cl_Shape
 obtain⟨⟨dx,sh,top,h1,h2,h3⟩,g,fu,ib⟩:=S
 obtain⟨dxs,ts,hs,_⟩:=id h2
 have pl:=plc_pos low
 have f1:=fldS_no ts low (m := "cut") (by decide +kernel) (by decide +kernel)
 have f2:=fldS_no ts low (m := "address_of") (by decide +kernel) (by decide +kernel)
 have e0:0<=n/\n < pgs ns->(n*plc low+0) / 2^low.toNat=n:=fun _=>by
  rw[Int.add_zero]
  exact Int.mul_ediv_cancel n (Int.ne_of_gt pl)
 walk_at "go"
 refine⟨fun c=>?_,fun c=>k2 fun z=>c ⟨z,by decide,pl⟩⟩
 have inn:0<=n*plc low+0/\n*plc low+0 < pgs ns*plc low:=by
  rw[Int.add_zero]
  exact⟨Int.mul_nonneg c.1.1 (Int.le_of_lt pl),Int.mul_lt_mul_of_pos_right c.1.2 pl⟩
 walk_at "go"
 refine⟨fun _ t H1 s1 ht=>?_,fun z=>absurd inn z⟩
 rw[parts_snoc,e0 c.1] at ht
 have pl2:=parts_len ns n
 have gl:=g.len
 walk_at "go"
 refine⟨fun z=>?_,fun q hq=>?_⟩
 ·have z2:=z.2
  rw[List.length_map,List.length_append] at z2
  have e:HT.sIx ((parts ns n).length+1) ((parts ns n).length+1) (some (-1))=(parts ns n).length:=by
   show (if (-1:Int) < 0 then ((-1:Int)+((((parts ns n).length+1:Nat)):Int)).toNat else min (-1:Int).toNat ((parts ns n).length+1))=_
   rw[if_pos (by decide)]
   omega
  have z3:HT.sIx ((parts ns n).length+1) ((parts ns n).length+1) (some (-1))=(parts ns n).length+1:=z2
  rw[e] at z3
  omega
 ·rw[cut_lastT]
  exact k1 c.1 q _ (s1.trans (same_upd hq)) upd_same
theorem ok_Tree_leaf {dvs:List V} (R:RawM K a.c_Tree "leaf" "Tree.leaf" s_Tree_leaf ["self", "page"] dvs) (T:Txt w K mg a)
  (h_Tree_indexes:HasMe P w K mg base a.c_Tree 4 "indexes" ["self", "page"] (spTIx a) []) :
  HasMe P w K mg base a.c_Tree 5 "leaf" ["self", "page"] (spTLeaf a) dvs:=by
 refine R.ok sc_Tree_leaf (fun vs H Q E h=>?_) (fun f cdv A outer s H vs Q E hr h=>?_)
 ·obtain⟨p,ns,low,n,nd,fp,cn,rfl,_⟩:=h
  rfl
 obtain⟨p,ns,low,n,nd,fp,cn,rfl,S,k1,k2⟩:=h
 refine⟨_,(@pss_cons _ _ _ _ _ (@ps_set _ _ 2 _ _ _ _ sc_Tree_leaf.nd rfl (by first | exact Or.inl rfl | exact Or.inr rfl) (pe_fld (pv 0) rfl) (by rfl) (by first | exact Or.inl rfl | exact Or.inr rfl))
   (@pss_cons _ _ _ _ _ (ps_for own_def rfl (pi_tup (pe_me (pv 0) T.cl_Tree h_Tree_indexes (hr.mono (by decide)) pass_def (@pa_cn _ _ _ _ _ (pv 1) pa_nil rfl))) (pg_name (i:=3) sc_Tree_leaf.nd rfl (by first | exact Or.inl rfl | exact Or.inr rfl))
   (@pss_cons _ _ _ _ _ (ps_if (pt_cmpR (op_notInD hr.u1) (pv 3) (pv 2) (by with_unfolding_all rfl)) (@pss_one _ _ _ (@ps_ret _ _ _ _ pe_non)) pss_nil)
   (@pss_one _ _ _ (@ps_set _ _ 2 _ _ _ _ sc_Tree_leaf.nd rfl (by first | exact Or.inl rfl | exact Or.inr rfl) (pe_dget hr.u1 (pv 2) (pv 3) (fun _ _=>rfl)) (by rfl) (by first | exact Or.inl rfl | exact Or.inr rfl)))))
   (@pss_one _ _ _ (@ps_ret _ _ _ _ (pv 2))))),?_⟩
 have t1:=T.cl_Tree;have t2:=T.n_Tree_shape;have t3:=T.n_Tree_top
 have SA:=S
 obtain⟨⟨dx,sh,top,h1,h2,h3⟩,g,fu,ib⟩:=S
 walk_at "go"
 refine⟨fun c t H1 s1 ht=>?_,fun c=>k2 c⟩
 have I1:=h3.same s1
 have pl2:=parts_len ns n
 walk_at "go"
 refine for_tup (xs:=(parts ns n).map V.int) (fun i σ H'=>(∃(x:Addr) (v:Option V),σ=[some (.ref p),some (.int n),some (.ref x),v]/\nd ((parts ns n).take i)=some x)/\H'=H1) ⟨⟨top,_,rfl,by rw[List.take_zero];exact h3.tp⟩,rfl⟩ (fun i σ H' _ z=>by rw[z.2];exact SqT.of ht) ?_ ?_
 ·rintro i v σ H' hi ⟨⟨x,v3,rfl,hx⟩,rfl⟩
  obtain⟨ix,rfl,hix⟩:=mem_ints hi
  have il:i < (parts ns n).length:=(List.getElem?_eq_some_iff.mp hix).1
  have tk:(parts ns n).take (i+1)=(parts ns n).take i++[ix]:=by rw[List.take_add_one,hix];rfl
  have li:((parts ns n).take i).length < ns.length:=by rw[List.length_take];omega
  obtain⟨⟨kvs,q1,q2,q3,q4,q5⟩,_⟩:=I1.tb _ x li hx
  have gg:=DGet.k (k:=Sum.inl ix) q1
  rw[q4 ix,<-tk] at gg
  cases e:nd ((parts ns n).take (i+1)) with
  | none =>
   rw[e] at gg
   walk_at "go"
   have nn:nd (parts ns n)=none:=by
    cases e2:nd (parts ns n) with
    | none=>rfl
    | some y=>obtain⟨d,q⟩:=h3.pre _ rfl e2 (i+1);rw[e] at q;cases q
   have:=k1 c _ s1
   rw[nn] at this
   exact this
  | some y =>
   rw[e] at gg
   walk_at "go"
   exact⟨⟨y,_,rfl,rfl⟩,rfl⟩
 ·rintro σ H' ⟨⟨x,v3,rfl,hx⟩,rfl⟩
  rw[List.length_map,List.take_of_length_le (Nat.le_refl _)] at hx
  walk_at "go"
  have:=k1 c _ s1
  rw[hx] at this
  exact this
end
end K18

set_option maxHeartbeats 4000000
namespace K18
open PySem L2
structure Put (nd:Ix->Option Addr)(ι:Ix)(x:Addr)(nd':Ix->Option Addr): Prop where
 at':nd' ι=some x
 old:∀π d,nd π=some d->π≠ι->nd' π=some d
 oth:∀π,(∀j,π≠ι.take j)->nd' π=nd π
def spTPut (a:Adr): Sp:=fun vs H Q E=>∃(p x:Addr) (ns:List Int) (low n:Int) (nd:Ix->Option Addr) (fp:List Addr) (cn:Nat),vs=[.ref p,.int n,.ref x]/\TrAt a H p ns low nd fp cn/\cn < 100000/\(∃u,H x=some u) ∧
 (0<=n/\n < pgs ns->∀nd' fp' H',TrAt a H' p ns low nd' fp' (cn+1)->Put nd (parts ns n) x nd'->Fr fp fp' H H'->(∀b∈fp,b∈fp')->Q .non H')/\(¬(0<=n/\n < pgs ns)->E (.ref a.c_NoAddress) none H)
theorem atI_last (κ:List Int)(z:Int): atI ((κ++[z]).map V.int) (-1)=some (.int z):=by
 have l:((κ++[z]).map V.int).length=κ.length+1:=by rw[List.length_map,List.length_append];rfl
 unfold atI ixN
 rw[if_neg (by decide),l,if_pos (by omega)]
 have e:((-1:Int)+((κ.length+1:Nat):Int)).toNat=κ.length:=by omega
 rw[e]
 show ((κ++[z]).map V.int)[κ.length]?=_
 rw[List.getElem?_map,List.getElem?_append_right (Nat.le_refl _),Nat.sub_self]
 rfl
theorem fit_take:∀{ws ps:List Int} (j:Nat),Fit ws ps->Fit (ws.take j) (ps.take j)
 | [],[],j,_=>by rw[List.take_nil];exact trivial
 | _::_,_::_,0,_=>trivial
 | _::_,_::_,j+1,h=>⟨h.1,fit_take j h.2⟩
 | [],_::_,_,h=>h.elim
 | _::_,[],_,h=>h.elim
theorem Put.ib {ns:List Int}{nd nd':Ix->Option Addr}{ι:Ix}{x:Addr}(P:Put nd ι x nd')(ib:∀π x,nd π=some x->Fit (ns.take π.length) π)(f:Fit ns ι): ∀π x,nd' π=some x->Fit (ns.take π.length) π:=fun π x h=>by
 by_cases c:∃j,π=ι.take j
 ·obtain⟨j,rfl⟩:=c
  have hl:=f.length
  by_cases c2:j<=ι.length
  ·rw[List.length_take,Nat.min_eq_left c2];exact fit_take j f
  ·have e:ι.take j=ι:=List.take_of_length_le (by omega)
   rw[e,<-hl,List.take_length];exact f
 ·exact ib π x (by rw[<-P.oth π fun j z=>c ⟨j,z⟩];exact h)
def Cov (N:Nat)(nd:Ix->Option Addr)(L:List Ix): Prop:=∀π x,nd π=some x->π.length=N->π∈L
structure Down (H0 H:Hp)(N:Nat)(top:Addr)(nd nd':Ix->Option Addr)(fp fp':List Addr)(cn:Nat)(ι:Ix)(i:Nat)(d:Addr): Prop where
 tr:TrIn H N top nd' fp' (cn+1)
 at':nd' (ι.take i)=some d
 old:∀π e,nd π=some e->nd' π=some e
 oth:∀π,(∀j,j<=i->π≠ι.take j)->nd' π=nd π
 fre:∀j,i<=j->j < N->∀e,nd' (ι.take j)=some e->TbAt H e (fun k=>nd' (ι.take j++[k])) cn
 fr:Fr fp fp' H0 H
 sub:∀b∈fp,b∈fp'
 ful:∀π e,nd' π=some e->π≠[]->π.length < N->π≠ι.take i->∃k y,nd' (π++[k])=some y
theorem Down.same {H0 H H':Hp}{N:Nat}{top:Addr}{nd nd':Ix->Option Addr}{fp fp':List Addr}{cn:Nat}{ι:Ix}{i:Nat}{d:Addr}(D:Down H0 H N top nd nd' fp fp' cn ι i d)(s:Same H H'): Down H0 H' N top nd nd' fp fp' cn ι i d :=
 { D with tr:=D.tr.same s,fre:=fun j h1 h2 e h=>(D.fre j h1 h2 e h).keep fun kvs q=>s _ _ q,fr:=D.fr.trans (Fr.same s) }
theorem Down.go {H0 H:Hp}{N:Nat}{top:Addr}{nd nd':Ix->Option Addr}{fp fp':List Addr}{cn:Nat}{ι:Ix}{i:Nat}{d e:Addr}(D:Down H0 H N top nd nd' fp fp' cn ι i d)(hi:i < ι.length)(h:nd' (ι.take (i+1))=some e): Down H0 H N top nd nd' fp fp' cn ι (i+1) e :=
 { D with
  at':=h
  oth:=fun π hp=>D.oth π fun j hj=>hp j (by omega)
  fre:=fun j h1 h2=>D.fre j (by omega) h2
  ful:=fun π x q1 q2 q3 q4=>by
   by_cases c:π=ι.take i
   ·have e1:ι.take (i+1)=ι.take i++[ι[i]]:=by rw[List.take_add_one,List.getElem?_eq_getElem hi];rfl
    exact⟨ι[i],e,by rw[c,<-e1];exact h⟩
   ·exact D.ful π x q1 q2 q3 c }
theorem Down.new {H0 H H':Hp}{N:Nat}{top:Addr}{nd nd':Ix->Option Addr}{fp fp':List Addr}{cn:Nat}{ι:Ix}{i:Nat}{d e:Addr}{ix:Int}{kvs:List (Key×V)}(D:Down H0 H N top nd nd' fp fp' cn ι i d)(hN:ι.length=N)(hi:i+1 < N)(hx:ι[i]?=some ix)(h:nd' (ι.take (i+1))=none)(hd:H d=some (.dK kvs))(he:H e=none)
  (eH:H'=upd (upd H e (.dK [])) d (.dK (putK kvs (.inl ix) (.ref e)))):Down H0 H' N top nd (putNd nd' (ι.take (i+1)) (some e)) fp (e::fp') cn ι (i+1) e:=by
 have tk:ι.take (i+1)=ι.take i++[ix]:=by rw[List.take_add_one,hx];rfl
 obtain⟨kvs0,q1,⟨ks,q2⟩,q3,q4,q5⟩:=D.fre i (Nat.le_refl _) (by omega) d D.at'
 rw[hd] at q1
 cases q1
 have li:(ι.take i).length < N:=by rw[List.length_take];omega
 obtain⟨ik,nk⟩:=put_keys ix (.ref e) q2 q3
 have ned:d≠e:=ne_of_none hd he
 have dm:d∈fp':=(D.tr.tb _ d li D.at').2
 have Hd:H' d=some (.dK (putK kvs (.inl ix) (.ref e))):=by rw[eH];exact upd_same
 have He:H' e=some (.dK []):=by rw[eH,upd_ne ned.symm];exact upd_same
 have kpb:∀b u,H b=some u->b≠d->H' b=some u:=fun b u q nb=>by rw[eH,upd_ne nb,upd_ne (ne_of_none q he)];exact q
 have nef:e∉fp':=fun w=>by obtain⟨kv,q⟩:=D.tr.lv e w;rw[he] at q;cases q
 have no:∀j,nd' (ι.take (i+1)++[j])=none:=D.tr.above h
 have lp:=length_putK kvs (.inl ix) (V.ref e)
 have TR:=D.tr.at1 (H':=H') (π:=ι.take i) (i:=ix) (v:=some e) (fp':=e::fp') (cn':=cn+1) (Nat.le_refl _) li D.at' Hd ik nk (by rw[valV_put,if_pos rfl];rfl) (fun j hj=>by rw[valV_put,if_neg (fun w=>hj (Sum.inl.inj w))];exact q4 j) (by omega) (fun j=>by rw[<-tk];exact no j) (fun b u q _ nb=>kpb b u q nb) (fun b hb=>List.mem_cons_of_mem _ hb)
  (fun e' w _=>by cases w;exact⟨He,nef,List.mem_cons_self⟩) (fun b hb=>by
   by_cases c:b=d
   ·rw[c];exact⟨_,Hd⟩
   ·rcases List.mem_cons.mp hb with w | w
    ·rw[w];exact⟨_,He⟩
    ·obtain⟨kv,q⟩:=D.tr.lv b w
     exact⟨kv,kpb _ _ q c⟩)
 rw[<-tk] at TR
 refine { tr:=TR,at':=if_pos rfl,old:=fun π x w=>?_,oth:=fun π w=>?_,fre:=fun j h1 h2 x w=>?_,fr:=?_,sub:=fun b hb=>List.mem_cons_of_mem _ (D.sub b hb),ful:=fun π x w1 w2 w3 w4=>?_ }
 ·have q:=D.old π x w
  unfold putNd
  rw[if_neg fun z=>by rw[z,h] at q;cases q]
  exact q
 ·unfold putNd
  rw[if_neg (w (i+1) (Nat.le_refl _))]
  exact D.oth π fun j hj=>w j (by omega)
 ·unfold putNd at w
  by_cases c:ι.take j=ι.take (i+1)
  ·rw[if_pos c] at w
   cases w
   refine⟨[],He,⟨[],rfl⟩,List.nodup_nil,fun k=>?_,Nat.zero_le _⟩
   unfold putNd
   rw[c,if_neg fun z=>by have:=congrArg List.length z;simp at this,no k]
   rfl
  ·rw[if_neg c] at w
   obtain⟨d',q⟩:=D.tr.pre _ rfl w (i+1)
   rw[List.take_take,Nat.min_eq_left h1,h] at q
   cases q
 ·rw[eH]
  exact D.fr.trans ((Fr.new he).trans (Fr.put (List.mem_cons_of_mem _ dm)))
 ·unfold putNd at w1
  rw[if_neg w4] at w1
  by_cases c:π=ι.take i
  ·exact⟨ix,e,by unfold putNd;rw[c,<-tk,if_pos rfl]⟩
  ·obtain⟨k,y,q⟩:=D.ful π x w1 w2 w3 c
   refine⟨k,y,?_⟩
   unfold putNd
   rw[if_neg fun z=>by rw[z,h] at q;cases q]
   exact q
section
variable {P:Program}{w:World}{K:PySem.W.Frag}{mg:Str->Option Value}{base:Heap}{a:Adr}
theorem ok_Tree_put {dvs:List V} (R:RawM K a.c_Tree "put" "Tree.put" s_Tree_put ["self", "page", "leaf"] dvs) (T:Txt w K mg a)
  (h_Tree_indexes:HasMe P w K mg base a.c_Tree 4 "indexes" ["self", "page"] (spTIx a) []) :
  HasMe P w K mg base a.c_Tree 5 "put" ["self", "page", "leaf"] (spTPut a) dvs:=by
 refine R.ok sc_Tree_put (fun vs H Q E h=>?_) (fun f cdv A outer s H vs Q E hr h=>?_)
 ·obtain⟨p,x,ns,low,n,nd,fp,cn,rfl,_⟩:=h
  rfl
 obtain⟨p,x,ns,low,n,nd,fp,cn,rfl,S,c1000,xl,k1,k2⟩:=h
 refine⟨_,(@pss_cons _ _ _ _ _ (@ps_set _ _ 3 _ _ _ _ sc_Tree_put.nd rfl (by first | exact Or.inl rfl | exact Or.inr rfl) (pe_me (pv 0) T.cl_Tree h_Tree_indexes (hr.mono (by decide)) pass_def (@pa_cn _ _ _ _ _ (pv 1) pa_nil rfl)) (by rfl) (by first | exact Or.inl rfl | exact Or.inr rfl))
   (@pss_cons _ _ _ _ _ (@ps_set _ _ 4 _ _ _ _ sc_Tree_put.nd rfl (by first | exact Or.inl rfl | exact Or.inr rfl) (pe_fld (pv 0) rfl) (by rfl) (by first | exact Or.inl rfl | exact Or.inr rfl))
   (@pss_cons _ _ _ _ _ (ps_for own_def rfl (pi_tup (pe_slice sl_tup (pv 3) po_none (po_some (pe_un un_neg pe_int)))) (pg_name (i:=5) sc_Tree_put.nd rfl (by first | exact Or.inl rfl | exact Or.inr rfl))
   (@pss_one _ _ _ (@ps_set _ _ 4 _ _ _ _ sc_Tree_put.nd rfl (by first | exact Or.inl rfl | exact Or.inr rfl) (pe_dsetdefault2 (pv 4) (pv 5) pe_dnewK ⟨rfl,rfl,rfl,rfl⟩) (by rfl) (by first | exact Or.inl rfl | exact Or.inr rfl))))
   (@pss_one _ _ _ (@ps_dput _ _ _ _ _ _ _ _ _ hr.u1 (pv 4) (@pe_ix _ _ _ _ _ _ _ ix_tup (pv 3) (pe_un un_neg pe_int) (fun _ _=>rfl)) (pv 2) (by rfl)))))),?_⟩
 have t1:=T.cl_Tree;have t2:=T.n_Tree_shape;have t3:=T.n_Tree_top
 have SA:=S
 obtain⟨⟨dx,sh,top,h1,h2,h3⟩,g,fu,ib⟩:=S
 walk_at "go"
 refine⟨fun c t H1 s1 ht=>?_,fun c=>k2 c⟩
 have I1:=h3.same s1
 have pl2:=parts_len ns n
 have gl:=g.len
 have h11:=s1 _ _ h1
 obtain⟨κ,z,ek⟩:∃κ z,parts ns n=κ++[z]:=by
  have ne:parts ns n≠[]:=fun w=>by rw[w] at pl2;simp at pl2;omega
  exact⟨_,_,(List.dropLast_concat_getLast ne).symm⟩
 have kl:κ.length+1=ns.length:=by rw[ek,List.length_append] at pl2;exact pl2
 rw[ek] at ht
 walk_at "go"
 refine⟨fun w=>?_,fun q hq=>?_⟩
 ·have z2:=w.2
  rw[List.length_map,List.length_append] at z2
  have e:HT.sIx (κ.length+1) (κ.length+1) (some (-1))=κ.length:=by
   show (if (-1:Int) < 0 then ((-1:Int)+(((κ.length+1:Nat)):Int)).toNat else min (-1:Int).toNat (κ.length+1))=_
   rw[if_pos (by decide)]
   omega
  have z3:HT.sIx (κ.length+1) (κ.length+1) (some (-1))=κ.length+1:=z2
  rw[e] at z3
  omega
 rw[cut_lastT]
 have s2:Same H1 (upd H1 q (.tup (κ.map V.int))):=same_upd hq
 have e2:upd H1 q (.tup (κ.map V.int)) q=some (.tup (κ.map V.int)):=upd_same
 generalize upd H1 q (.tup (κ.map V.int))=H2 at s2 e2
 have ht2:=s2 _ _ ht
 have I2:=I1.same s2
 have D0:Down H2 H2 ns.length top nd nd fp fp cn (κ++[z]) 0 top:={
  tr:=I2.mono (Nat.le_succ _),at':=by rw[List.take_zero];exact I2.tp,old:=fun _ _ e=>e,oth:=fun _ _=>rfl
  fre:=fun j _ h2 e h=>(I2.tb _ e (by rw[List.length_take];omega) h).1,fr:=Fr.refl _ _,sub:=fun _ h=>h
  ful:=fun π e q1 q2 q3 _=>fu π e q1 q2 q3 }
 walk_at "go"
 refine for_tup (xs:=κ.map V.int) (fun i σ H'=>∃(nd':Ix->Option Addr) (fp':List Addr) (d:Addr) (v:Option V),σ=[some (.ref p),some (.int n),some (.ref x),some (.ref t),some (.ref d),v]/\Down H2 H' ns.length top nd nd' fp fp' cn (κ++[z]) i d) ⟨nd,fp,top,_,rfl,D0⟩ (fun i σ H' _ w=>?_) ?_ ?_
 ·obtain⟨nd',fp',d,v,_,D⟩:=w
  have nq:q∉fp:=fun w=>by obtain⟨kv,e⟩:=I2.lv q w;rw[e2] at e;cases e
  exact SqT.of (D.fr.1 _ _ e2 nq)
 ·rintro i v σ H3 hi ⟨nd',fp',d,v5,rfl,D⟩
  obtain⟨ix,rfl,hix⟩:=mem_ints hi
  have il:i < κ.length:=(List.getElem?_eq_some_iff.mp hix).1
  have hx:(κ++[z])[i]?=some ix:=by rw[List.getElem?_append_left il];exact hix
  have tk:(κ++[z]).take (i+1)=(κ++[z]).take i++[ix]:=by rw[List.take_add_one,hx];rfl
  obtain⟨kvs,q1,q2,q3,q4,q5⟩:=D.fre i (Nat.le_refl _) (by omega) d D.at'
  have id1:IsD H3 d:=.inl ⟨kvs,Rd.of q1⟩
  have zz:kvs.length < sizeLine:=by rw[sizeLine_eq];omega
  have kn:V.int ix=kV (Sum.inl ix:Key):=rfl
  walk_at "go"
  intro e he
  have q1':=same_upd (u:=.dK []) he _ _ q1
  walk_at "go"
  refine⟨fun v hv=>?_,fun hn=>?_⟩
  ·rw[q4 ix,<-tk] at hv
   cases e':nd' ((κ++[z]).take (i+1)) with
   | none=>rw[e'] at hv;cases hv
   | some y =>
    rw[e'] at hv
    cases hv
    exact⟨nd',fp',y,_,rfl,(D.same (same_upd he)).go (by rw[List.length_append];show i < κ.length+1;omega) e'⟩
  ·rw[q4 ix,<-tk] at hn
   have hn':nd' ((κ++[z]).take (i+1))=none:=by
    cases e':nd' ((κ++[z]).take (i+1)) with
    | none=>rfl
    | some y=>rw[e'] at hn;cases hn
   exact⟨_,e::fp',e,_,rfl,D.new (by rw[List.length_append];exact kl) (by omega) hx hn' q1 he rfl⟩
 ·rintro σ H3 ⟨nd',fp',d,v5,rfl,D⟩
  rw[List.length_map] at D
  have tkk:(κ++[z]).take κ.length=κ:=List.take_left' rfl
  obtain⟨kvs,q1,⟨ks,q2⟩,q3,q4,q5⟩:=D.fre κ.length (Nat.le_refl _) (by omega) d D.at'
  rw[tkk] at q4
  have hat:=D.at'
  rw[tkk] at hat
  have ntf:t∉fp:=fun w=>by obtain⟨kv,e⟩:=I2.lv t w;rw[ht2] at e;cases e
  have ht3:=D.fr.1 _ _ ht2 ntf
  have al:=atI_last κ z
  have dp:=DPut.k (k:=Sum.inl z) (v:=V.ref x) q1 (by rw[sizeLine_eq];omega)
  walk_at "go"
  have lk:κ.length < ns.length:=by omega
  have dm:d∈fp':=(D.tr.tb _ d lk hat).2
  obtain⟨ik,nk⟩:=put_keys z (.ref x) q2 q3
  have lp:=length_putK kvs (.inl z) (V.ref x)
  have kpb:∀b u,H3 b=some u->b≠d->upd H3 d (.dK (putK kvs (.inl z) (.ref x))) b=some u:=fun b u e nb=>by rw[upd_ne nb];exact e
  have TR:=D.tr.at1 (H':=upd H3 d (.dK (putK kvs (.inl z) (.ref x)))) (π:=κ) (i:=z) (v:=some x) (fp':=fp') (cn':=cn+1) (Nat.le_refl _) lk hat upd_same ik nk (by rw[valV_put,if_pos rfl];rfl) (fun j hj=>by rw[valV_put,if_neg (fun w=>hj (Sum.inl.inj w))];exact q4 j) (by omega)
   (fun j=>by
    cases e:nd' (κ++[z]++[j]) with
    | none=>rfl
    | some y=>have:=D.tr.lg _ _ e;rw[List.length_append,List.length_append] at this;simp at this;omega)
   (fun b u e _ nb=>kpb b u e nb) (fun b hb=>hb) (fun e _ w=>by omega) (fun b hb=>by
    by_cases c:b=d
    ·rw[c];exact⟨_,upd_same⟩
    ·obtain⟨kv,e⟩:=D.tr.lv b hb
     exact⟨kv,kpb _ _ e c⟩)
  have kO:∀b u,H2 b=some u->(∀kv,u≠.dK kv)->upd H3 d (.dK (putK kvs (.inl z) (.ref x))) b=some u:=fun b u e h=>by
   have n1:b∉fp:=fun w=>by obtain⟨kv,e'⟩:=I2.lv b w;rw[e'] at e;cases e;exact h _ rfl
   have e3:=D.fr.1 _ _ e n1
   exact kpb _ _ e3 fun w=>by rw[w,q1] at e3;cases e3;exact h _ rfl
  have s12:=s1.trans s2
  obtain⟨dxs,ts,hs,hw⟩:=id h2
  have PU:Put nd (parts ns n) x (putNd nd' (κ++[z]) (some x)):=by
   rw[ek]
   refine⟨if_pos rfl,fun π e w1 w2=>?_,fun π w=>?_⟩
   ·unfold putNd
    rw[if_neg w2]
    exact D.old π e w1
   ·unfold putNd
    rw[if_neg (by have:=w (κ++[z]).length;rw[List.take_length] at this;exact this)]
    exact D.oth π fun j _=>w j
  refine k1 c (putNd nd' (κ++[z]) (some x)) fp' _ ⟨⟨dx,sh,top,kO _ _ (s12 _ _ h1) (fun _ w=>by cases w),⟨dxs,ts,kO _ _ (s12 _ _ hs) (fun _ w=>by cases w),kO _ _ (s12 _ _ hw) (fun _ w=>by cases w)⟩,TR⟩,g,fun π e w1 w2 w3=>?_,PU.ib ib (parts_fit ns n)⟩ PU (((Fr.same s12).trans D.fr).trans (Fr.put dm)) D.sub
  ·unfold putNd at w1
   rw[if_neg fun w=>by rw[w,List.length_append] at w3;simp at w3;omega] at w1
   by_cases c2:π=κ
   ·exact⟨z,x,by unfold putNd;rw[c2,if_pos rfl]⟩
   ·obtain⟨k,y,q⟩:=D.ful π e w1 w2 w3 (by rw[tkk];exact c2)
    unfold putNd
    by_cases c3:π++[k]=κ++[z]
    ·exact⟨k,x,by rw[if_pos c3]⟩
    ·exact⟨k,y,by rw[if_neg c3];exact q⟩
end
end K18

set_option maxHeartbeats 4000000
namespace K18
open PySem L2
theorem iKeys_mem:∀{kvs:List (Key×V)} {ks:List Int} {k:Int},IKeys kvs ks->(k∈ks↔(valV kvs (.inl k)).isSome=true)
 | [],[],k,_=>by unfold valV;simp
 | [],_::_,_,h=>by cases h
 | _::_,[],_,h=>by cases h
 | p::r,j::ks,k,h=>by
  have h':=List.cons.inj h
  have hp:p.1=.inl j:=h'.1
  have ih:=iKeys_mem (k:=k) h'.2
  by_cases e:k=j
  ·subst e
   unfold valV
   rw[List.find?_cons_of_pos (by simpa using hp)]
   simp
  ·have e1:valV (p::r) (.inl k)=valV r (.inl k):=by
    unfold valV;rw[List.find?_cons_of_neg (by rw[hp];simpa using fun z=>e z.symm)]
   rw[e1,<-ih,List.mem_cons]
   simp[e]
def FullEx (N:Nat)(nd:Ix->Option Addr)(ex:Ix): Prop:=∀π d,nd π=some d->π≠[]->π.length < N->π≠ex->∃k y,nd (π++[k])=some y
structure Cut (nd:Ix->Option Addr)(ι:Ix)(nd':Ix->Option Addr): Prop where
 sub:∀π x,nd' π=some x->nd π=some x
 oth:∀π,(∀j,π≠ι.take j)->nd' π=nd π
theorem atI_lastV (xs:List V)(y:V): atI (xs++[y]) (-1)=some y:=by
 have l:(xs++[y]).length=xs.length+1:=by rw[List.length_append];rfl
 unfold atI ixN
 rw[if_neg (by decide),l,if_pos (by omega)]
 have e:((-1:Int)+((xs.length+1:Nat):Int)).toNat=xs.length:=by omega
 rw[e]
 show (xs++[y])[xs.length]?=_
 rw[List.getElem?_append_right (Nat.le_refl _),Nat.sub_self]
 rfl
structure Way (nd:Ix->Option Addr)(ι:Ix)(ds:List Addr): Prop where
 at':∀(j:Nat) (d:Addr),ds[j]?=some d->nd (ι.take j)=some d
def spTPath (a:Adr): Sp:=fun vs H Q _=>∃(p t:Addr) (ns:List Int) (low:Int) (nd:Ix->Option Addr) (fp:List Addr) (cn:Nat) (ι:Ix),vs=[.ref p,.ref t]/\TrAt a H p ns low nd fp cn/\H t=some (.tup (ι.map V.int))/\ι.length=ns.length ∧
 ∀q ds H',H' q=some (.lst (ds.map V.ref))->Way nd ι ds->1<=ds.length->ds.length<=ns.length->(ds.length < ns.length->nd (ι.take ds.length)=none)->Same H H'->H q=none->Q (.ref q) H'
def spPrune:Sp:=fun vs H Q _=>∃(q t:Addr) (N:Nat) (top:Addr) (nd:Ix->Option Addr) (fp:List Addr) (cn:Nat) (ι:Ix) (ds:List Addr),vs=[.ref q,.ref t]/\TrIn H N top nd fp cn/\H q=some (.lst (ds.map V.ref))/\ds.length=N/\Way nd ι ds/\H t=some (.tup (ι.map V.int))/\ι.length=N/\1<=N/\N<=3/\FullEx N nd (ι.take (N-1)) ∧
 ∀nd' H',TrIn H' N top nd' fp cn->Full N nd'->Cut nd ι nd'->Fr fp fp H H'->Q .non H'
theorem TrIn.out {H:Hp}{N:Nat}{top:Addr}{nd:Ix->Option Addr}{fp:List Addr}{cn:Nat}(S:TrIn H N top nd fp cn){π:Ix}{d:Addr}{i:Int}{kvs:List (Key×V)}(hl:π.length < N)(hd:nd π=some d)(hk:H d=some (.dK kvs))(no:∀j,nd (π++[i]++[j])=none):
  TrIn (upd H d (.dK (dropK kvs (.inl i)))) N top (putNd nd (π++[i]) none) fp cn:=by
 obtain⟨⟨kvs0,q1,⟨ks,q2⟩,q3,q4,q5⟩,dm⟩:=S.tb π d hl hd
 rw[hk] at q1
 cases q1
 refine S.at1 (Nat.le_refl _) hl hd upd_same ⟨_,drop_keys q2⟩ (nd_dropK q3) (by rw[valV_dropT,if_pos rfl];rfl) (fun j hj=>by rw[valV_dropT,if_neg (fun w=>hj (Sum.inl.inj w))];exact q4 j) (Nat.le_trans (dropK_le _ _) q5) no (fun b u e _ nb=>by rw[upd_ne nb];exact e) (fun b hb=>hb) (fun e w=>by cases w) fun b hb=>?_
 by_cases c:b=d
 ·rw[c];exact⟨_,upd_same⟩
 ·obtain⟨kv,e⟩:=S.lv b hb
  exact⟨kv,by rw[upd_ne c];exact e⟩
theorem TbAt.empty {H:Hp}{d:Addr}{ch:Int->Option Addr}{cn:Nat}(T:TbAt H d ch cn){kvs:List (Key×V)}(h:H d=some (.dK kvs)): (kvs.length=0->∀i,ch i=none)/\(kvs.length≠0->∃i x,ch i=some x):=by
 obtain⟨kvs0,q1,⟨ks,q2⟩,q3,q4,q5⟩:=T
 rw[h] at q1
 cases q1
 constructor
 ·intro z i
  have e:kvs=[]:=List.eq_nil_of_length_eq_zero z
  have q:=q4 i
  rw[e] at q
  cases c:ch i with
  | none=>rfl
  | some x=>rw[c] at q;cases q
 ·intro z
  cases kvs with
  | nil=>exact absurd rfl z
  | cons p r =>
   cases ks with
   | nil=>cases q2
   | cons k ks =>
    have:=(iKeys_mem (k:=k) q2).mp List.mem_cons_self
    rw[q4 k] at this
    cases c:ch k with
    | none=>rw[c] at this;cases this
    | some x=>exact⟨k,x,c⟩
section
variable {P:Program}{w:World}{K:PySem.W.Frag}{mg:Str->Option Value}{base:Heap}{a:Adr}
theorem ok_prune {dvs:List V} (R:RawF K mg "prune" s_prune ["path", "indexes"] dvs) (T:Txt w K mg a) :
  HasFn P w K mg base 1 "prune" ["path", "indexes"] (spPrune) dvs:=by
 refine R.ok sc_prune (fun vs H Q E h=>?_) (fun f cdv A outer s H vs Q E hr h=>?_)
 ·obtain⟨q,t,N,top,nd,fp,cn,ι,ds,rfl,_⟩:=h
  rfl
 obtain⟨q,t,N,top,nd,fp,cn,ι,ds,rfl,S,hq,dl,W,ht,il,N1,N3,fx,k⟩:=h
 refine⟨_,(@pss_one _ _ _ (ps_for own_def rfl (pi_range3 (by rfl) T.b_range (@pa_cn _ _ _ _ _ (pe_op op_sub (pe_callB call_len_seq (by rfl) T.b_len PySem.boot_len (@pa_cn _ _ _ _ _ (pv 0) pa_nil rfl)) pe_int) (@pa_cn _ _ _ _ _ pe_int (@pa_cn _ _ _ _ _ (pe_un un_neg pe_int) pa_nil rfl) rfl) rfl)) (pg_name (i:=2) sc_prune.nd rfl (by first | exact Or.inl rfl | exact Or.inr rfl))
   (@pss_one _ _ _ (ps_if (pt_cmpR op_eq (pe_callB call_lenD (by rfl) T.b_len PySem.boot_len (@pa_cn _ _ _ _ _ (@pe_ix _ _ _ _ _ _ _ ix_list (pv 0) (pv 2) (fun _ _=>rfl)) pa_nil rfl)) pe_int (nomark _)) (@pss_one _ _ _ (ps_expr (pe_dpop1 (@pe_ix _ _ _ _ _ _ _ ix_list (pv 0) (pe_op op_sub (pv 2) pe_int) (fun _ _=>rfl)) (@pe_ix _ _ _ _ _ _ _ ix_tup (pv 1) (pe_op op_sub (pv 2) pe_int) (fun _ _=>rfl)) ⟨rfl,rfl,rfl,rfl⟩))) pss_nil)))),?_⟩
 have lq:(ds.map V.ref).length=N:=by rw[List.length_map];exact dl
 have nq:q∉fp:=fun w=>by obtain⟨kv,e⟩:=S.lv q w;rw[hq] at e;cases e
 have nt:t∉fp:=fun w=>by obtain⟨kv,e⟩:=S.lv t w;rw[ht] at e;cases e
 walk_at "go"
 rw[lq]
 have en:((N:Int)-1-0).toNat=N-1:=by omega
 rw[en]
 refine for_down (fun i σ H'=>∃(nd':Ix->Option Addr) (v:Option V),σ=[some (.ref q),some (.ref t),v]/\TrIn H' N top nd' fp cn/\FullEx N nd' (ι.take (N-1-i))/\Cut nd ι nd'/\(∀(j:Nat) (d:Addr),j<=N-1-i->ds[j]?=some d->nd' (ι.take j)=some d)/\Fr fp fp H H') ⟨nd,_,rfl,S,fx,⟨fun _ _ e=>e,fun _ _=>rfl⟩,fun j d _ e=>W.at' j d e,Fr.refl _ _⟩ ?_ ?_
 ·rintro i σ H1 hi ⟨nd',v,rfl,S1,f1,C1,W1,r1⟩
  obtain⟨L,hL⟩:∃L:Nat,N-1-i=L+1:=⟨N-2-i,by omega⟩
  have eL:(N:Int)-1-(i:Int)=((L+1:Nat):Int):=by omega
  have eL2:N-1-(i+1)=L:=by omega
  rw[eL]
  rw[hL] at f1 W1
  have hd:L+1 < ds.length:=by omega
  have g1:ds[L+1]?=some ds[L+1]:=List.getElem?_eq_getElem hd
  have g0:ds[L]?=some ds[L]:=List.getElem?_eq_getElem (by omega)
  have gx:ι[L]?=some ι[L]:=List.getElem?_eq_getElem (by omega)
  generalize ds[L+1]=d1 at g1
  generalize ds[L]=d0 at g0
  generalize ι[L]=ix at gx
  have n1:=W1 (L+1) d1 (Nat.le_refl _) g1
  have n0:=W1 L d0 (by omega) g0
  have tk:ι.take (L+1)=ι.take L++[ix]:=by rw[List.take_add_one,gx];rfl
  have l0:(ι.take L).length=L:=by rw[List.length_take];omega
  have l1:(ι.take (L+1)).length=L+1:=by rw[List.length_take];omega
  have T1:=(S1.tb _ d1 (by omega) n1).1
  have T0:=(S1.tb _ d0 (by omega) n0).1
  obtain⟨kvs,hk,_⟩:=id T1
  obtain⟨kvs0,hk0,_,nk0,vk0,_⟩:=id T0
  have emp:=TbAt.empty T1 hk
  have hq1:=r1.1 _ _ hq nq
  have ht1:=r1.1 _ _ ht nt
  have a1:atI (ds.map V.ref) ((L+1:Nat):Int)=some (.ref d1):=by exact atI_nat (by rw[List.getElem?_map,g1];rfl)
  have a0:atI (ds.map V.ref) (((L+1:Nat):Int)-1)=some (.ref d0):=by
   have:((L+1:Nat):Int)-1=(L:Int):=by omega
   rw[this];exact atI_nat (by rw[List.getElem?_map,g0];rfl)
  have ax:atI (ι.map V.int) (((L+1:Nat):Int)-1)=some (.int ix):=by
   have:((L+1:Nat):Int)-1=(L:Int):=by omega
   rw[this];exact atI_nat (by rw[List.getElem?_map,gx];rfl)
  have kx:V.int ix=kV (.inl ix):=rfl
  have vx:True->valV kvs0 (.inl ix)=some (.ref d1):=fun _=>by rw[vk0,<-tk,n1];rfl
  walk_at "go"
  show ite _ _ _
  by_cases c:kvs.length=0
  ·rw[if_pos (by rw[decide_eq_true_eq,c];rfl)]
   have ch:=emp.1 c
   have isd:IsD H1 d0:=.inl ⟨kvs0,Rd.of hk0⟩
   walk_at "go"
   refine⟨vx trivial,?_⟩
   have O:=S1.out (i:=ix) (by omega:(ι.take L).length < N) n0 hk0 (fun j=>by rw[<-tk];exact ch j)
   rw[<-tk] at O
   have tn:∀j,j<=L->ι.take j≠ι.take (L+1):=fun j hj z=>by
    have:=congrArg List.length z
    rw[l1,List.length_take] at this
    omega
   refine⟨_,_,rfl,O,fun π e w1 w2 w3 w4=>?_,⟨fun π x w=>?_,fun π w=>?_⟩,fun j d w1 w2=>?_,r1.trans (Fr.put (S1.tb _ d0 (by omega) n0).2)⟩
   ·rw[eL2] at w4
    unfold putNd at w1
    by_cases c2:π=ι.take (L+1)
    ·rw[if_pos c2] at w1;cases w1
    ·rw[if_neg c2] at w1
     obtain⟨k,y,w⟩:=f1 π e w1 w2 w3 c2
     refine⟨k,y,?_⟩
     unfold putNd
     rw[if_neg fun z=>w4 (by rw[tk] at z;exact(List.append_inj' z rfl).1)]
     exact w
   ·unfold putNd at w
    by_cases c2:π=ι.take (L+1)
    ·rw[if_pos c2] at w;cases w
    ·rw[if_neg c2] at w;exact C1.sub π x w
   ·unfold putNd
    rw[if_neg (w _)];exact C1.oth π w
   ·unfold putNd
    rw[if_neg (tn j (by omega))]
    exact W1 j d (by omega) w2
  ·rw[if_neg (by rw[decide_eq_true_eq];intro z;injection z with z;omega)]
   obtain⟨j,y,hy⟩:=emp.2 c
   refine⟨nd',_,rfl,S1,fun π e w1 w2 w3 w4=>?_,C1,fun j d w1 w2=>W1 j d (by omega) w2,r1⟩
   by_cases c2:π=ι.take (L+1)
   ·exact⟨j,y,by rw[c2];exact hy⟩
   ·exact f1 π e w1 w2 w3 c2
 ·rintro σ H1 ⟨nd',v,rfl,S1,f1,C1,W1,r1⟩
  refine k nd' H1 S1 (fun π d h1 h2 h3=>f1 π d h1 h2 h3 ?_) C1 r1
  rw[Nat.sub_self,List.take_zero];exact h2
theorem ok_Tree_path_to {dvs:List V} (R:RawM K a.c_Tree "path_to" "Tree.path_to" s_Tree_path_to ["self", "indexes"] dvs) (T:Txt w K mg a) :
  HasMe P w K mg base a.c_Tree 1 "path_to" ["self", "indexes"] (spTPath a) dvs:=by
 refine R.ok sc_Tree_path_to (fun vs H Q E h=>?_) (fun f cdv A outer s H vs Q E hr h=>?_)
 ·obtain⟨p,t,ns,low,nd,fp,cn,ι,rfl,_⟩:=h
  rfl
 obtain⟨p,t,ns,low,nd,fp,cn,ι,rfl,S,ht,il,k⟩:=h
 refine⟨_,(@pss_cons _ _ _ _ _ (@ps_set _ _ 2 _ _ _ _ sc_Tree_path_to.nd rfl (by first | exact Or.inl rfl | exact Or.inr rfl) (@pe_lst _ _ _ _ (@pa_cn _ _ _ _ _ (pe_fld (pv 0) rfl) pa_nil rfl)) (by rfl) (by first | exact Or.inl rfl | exact Or.inr rfl))
   (@pss_cons _ _ _ _ _ (ps_for own_def rfl (pi_tup (pe_slice sl_tup (pv 1) po_none (po_some (pe_un un_neg pe_int)))) (pg_name (i:=3) sc_Tree_path_to.nd rfl (by first | exact Or.inl rfl | exact Or.inr rfl))
   (@pss_cons _ _ _ _ _ (ps_if (pt_cmpR (op_notInD hr.u1) (pv 3) (@pe_ix _ _ _ _ _ _ _ ix_list (pv 2) (pe_un un_neg pe_int) (fun _ _=>rfl)) (by with_unfolding_all rfl)) (@pss_one _ _ _ ps_break) pss_nil)
   (@pss_one _ _ _ (ps_expr (pe_bm PySem.F.plainAttrs_list PySem.F.slot_list_append PySem.F.type_list_append mt_append (pv 2) (@pa_cn _ _ _ _ _ (pe_dget hr.u1 (@pe_ix _ _ _ _ _ _ _ ix_list (pv 2) (pe_un un_neg pe_int) (fun _ _=>rfl)) (pv 3) (fun _ _=>rfl)) pa_nil rfl))))))
   (@pss_one _ _ _ (@ps_ret _ _ _ _ (pv 2))))),?_⟩
 have t1:=T.cl_Tree;have t2:=T.n_Tree_shape;have t3:=T.n_Tree_top
 have SA:=S
 obtain⟨⟨dx,sh,top,h1,h2,h3⟩,g,fu,ib⟩:=S
 have gl:=g.len
 obtain⟨κ,z,ek⟩:∃κ z,ι=κ++[z]:=by
  have ne:ι≠[]:=fun w=>by rw[w] at il;simp at il;omega
  exact⟨_,_,(List.dropLast_concat_getLast ne).symm⟩
 have kl:κ.length+1=ns.length:=by rw[ek,List.length_append] at il;exact il
 walk_at "go"
 intro q hq0
 have s1:Same H (upd H q (.lst [.ref top])):=same_upd hq0
 have hq:upd H q (.lst [.ref top]) q=some (.lst [.ref top]):=upd_same
 generalize upd H q (.lst [.ref top])=H1 at s1 hq
 have h11:=s1 _ _ h1
 have ht1:=s1 _ _ ht
 rw[ek] at ht1
 walk_at "go"
 refine⟨fun w=>?_,fun y hy=>?_⟩
 ·have z2:=w.2
  rw[List.length_map,List.length_append] at z2
  have e:HT.sIx (κ.length+1) (κ.length+1) (some (-1))=κ.length:=by
   show (if (-1:Int) < 0 then ((-1:Int)+(((κ.length+1:Nat)):Int)).toNat else min (-1:Int).toNat (κ.length+1))=_
   rw[if_pos (by decide)]
   omega
  have z3:HT.sIx (κ.length+1) (κ.length+1) (some (-1))=κ.length+1:=z2
  rw[e] at z3
  omega
 rw[cut_lastT]
 have s2:Same H1 (upd H1 y (.tup (κ.map V.int))):=same_upd hy
 have e2:upd H1 y (.tup (κ.map V.int)) y=some (.tup (κ.map V.int)):=upd_same
 generalize upd H1 y (.tup (κ.map V.int))=H2 at s2 e2
 have hq2:=s2 _ _ hq
 have nyq:y≠q:=fun w=>by rw[w,hq] at hy;cases hy
 have s02:=s1.trans s2
 walk_at "go"
 refine for_tup (xs:=κ.map V.int) (fun i σ H'=>∃(ds:List Addr) (v:Option V),σ=[some (.ref p),some (.ref t),some (.ref q),v]/\H' q=some (.lst (ds.map V.ref))/\ds.length=i+1/\Way nd ι ds/\Same H H'/\H' y=some (.tup (κ.map V.int))) ⟨[top],_,rfl,hq2,rfl,⟨fun j d w=>?_⟩,s02,e2⟩ (fun i σ H' _ w=>?_) ?_ ?_
 ·cases j with
  | zero=>cases w;rw[List.take_zero];exact h3.tp
  | succ j=>cases w
 ·obtain⟨ds,v,_,_,_,_,_,w⟩:=w
  exact SqT.of w
 ·rintro i v σ H3 hi ⟨ds,v5,rfl,g1,g2,W,s3,g3⟩
  obtain⟨ix,rfl,hix⟩:=mem_ints hi
  have il':i < κ.length:=(List.getElem?_eq_some_iff.mp hix).1
  have hx:ι[i]?=some ix:=by rw[ek,List.getElem?_append_left il'];exact hix
  have tk:ι.take (i+1)=ι.take i++[ix]:=by rw[List.take_add_one,hx];rfl
  obtain⟨es,d,ed⟩:∃es d,ds=es++[d]:=by
   have ne:ds≠[]:=fun w=>by rw[w] at g2;cases g2
   exact⟨_,_,(List.dropLast_concat_getLast ne).symm⟩
  have el:es.length=i:=by rw[ed,List.length_append] at g2;exact Nat.succ.inj g2
  have hd:=W.at' i d (by rw[ed,List.getElem?_append_right (by omega),el,Nat.sub_self];rfl)
  have em:ds.map V.ref=es.map V.ref++[.ref d]:=by rw[ed,List.map_append];rfl
  have lst:=atI_lastV (es.map V.ref) (.ref d)
  have I3:=h3.same s3
  obtain⟨kvs,q1,q2,q3,q4,q5⟩:=(I3.tb _ d (by rw[List.length_take];omega) hd).1
  rw[em] at g1
  have gg:=DGet.k (k:=Sum.inl ix) q1
  rw[q4 ix,<-tk] at gg
  cases e:nd (ι.take (i+1)) with
  | none =>
   rw[e] at gg
   walk_at "go"
   refine k q ds H3 (by rw[em];exact g1) W (by omega) (by omega) (fun _=>by rw[g2];exact e) s3 hq0
  | some x =>
   rw[e] at gg
   walk_at "go"
   refine⟨by rw[<-em,List.length_map,sizeLine_eq];omega,ds++[x],_,rfl,?_,by rw[List.length_append,g2];rfl,⟨fun j y' w=>?_⟩,fun b u w=>?_,?_⟩
   ·rw[upd_same,List.map_append,em];rfl
   ·by_cases c:j < ds.length
    ·rw[List.getElem?_append_left c] at w;exact W.at' j y' w
    ·have jl:=(List.getElem?_eq_some_iff.mp w).1
     rw[List.length_append] at jl
     have ej:j=i+1:=by simp at jl;omega
     rw[ej,List.getElem?_append_right (by omega),g2,Nat.sub_self] at w
     cases w
     rw[ej];exact e
   ·rw[upd_ne (ne_of_none w hq0)];exact s3 _ _ w
   ·rw[upd_ne nyq];exact g3
 ·rintro σ H3 ⟨ds,v5,rfl,g1,g2,W,s3,g3⟩
  rw[List.length_map] at g2
  walk_at "go"
  exact k q ds H3 g1 W (by omega) (by omega) (fun w=>by omega) s3 hq0
end
structure Gone (N:Nat)(nd:Ix->Option Addr)(ι:Ix)(nd':Ix->Option Addr): Prop where
 no:nd' ι=none
 oth:∀π,π.length=N->π≠ι->nd' π=nd π
 sub:∀π x,nd' π=some x->nd π=some x
theorem Cut.gone {nd nd':Ix->Option Addr}{ι:Ix}(C:Cut (putNd nd ι none) ι nd'): Gone ι.length nd ι nd':=by
 refine⟨?_,fun π h1 h2=>?_,fun π x h=>?_⟩
 ·cases e:nd' ι with
  | none=>rfl
  | some x=>have:=C.sub ι x e;unfold putNd at this;rw[if_pos rfl] at this;cases this
 ·rw[C.oth π fun j z=>by
   have:=congrArg List.length z
   rw[List.length_take] at this
   exact h2 (by rw[z,List.take_of_length_le (by omega)])]
  unfold putNd
  rw[if_neg h2]
 ·have:=C.sub π x h
  unfold putNd at this
  by_cases c:π=ι
  ·rw[if_pos c] at this;cases this
  ·rw[if_neg c] at this;exact this
theorem TrAt.kept {a:Adr} {H H':Hp} {p:Addr} {ns:List Int} {low:Int} {nd nd':Ix->Option Addr} {fp fp':List Addr} {cn cn':Nat} {dx sh top:Addr} (h1:H p=some (.ins a.c_Tree dx [("shape",.ref sh),("top",.ref top)])) (h2:ShAt a.c_Shape H sh ns low) (S:TrIn H ns.length top nd fp cn) (g:Good ns low) (S':TrIn H' ns.length top nd' fp' cn') (fu:Full ns.length nd') (ib:∀π x,nd' π=some x->Fit (ns.take π.length) π) (r:∀b u,H b=some u->b∉fp->H' b=some u):TrAt a H' p ns low nd' fp' cn':=by
 have nf:∀b u,H b=some u->(∀kv,u≠.dK kv)->b∉fp:=fun b u e h w=>by obtain⟨kv,e'⟩:=S.lv b w;rw[e'] at e;cases e;exact h _ rfl
 obtain⟨dxs,ts,hs,hw⟩:=id h2
 exact⟨⟨dx,sh,top,r _ _ h1 (nf _ _ h1 fun _ w=>by cases w),⟨dxs,ts,r _ _ hs (nf _ _ hs fun _ w=>by cases w),r _ _ hw (nf _ _ hw fun _ w=>by cases w)⟩,S'⟩,g,fu,ib⟩
def spTDrop (a:Adr): Sp:=fun vs H Q E=>∃(p:Addr) (ns:List Int) (low n:Int) (nd:Ix->Option Addr) (fp:List Addr) (cn:Nat),vs=[.ref p,.int n]/\TrAt a H p ns low nd fp cn ∧
 (0<=n/\n < pgs ns->∀nd' H',TrAt a H' p ns low nd' fp cn->Gone ns.length nd (parts ns n) nd'->Fr fp fp H H'->Q (ndV (nd (parts ns n))) H')/\(¬(0<=n/\n < pgs ns)->E (.ref a.c_NoAddress) none H)
section
variable {P:Program}{w:World}{K:PySem.W.Frag}{mg:Str->Option Value}{base:Heap}{a:Adr}
theorem ok_Tree_drop {dvs:List V} (R:RawM K a.c_Tree "drop" "Tree.drop" s_Tree_drop ["self", "page"] dvs) (T:Txt w K mg a)
  (h_Tree_indexes:HasMe P w K mg base a.c_Tree 4 "indexes" ["self", "page"] (spTIx a) [])
  (h_Tree_path_to:HasMe P w K mg base a.c_Tree 1 "path_to" ["self", "indexes"] (spTPath a) [])
  (h_prune:HasFn P w K mg base 1 "prune" ["path", "indexes"] (spPrune) []) :
  HasMe P w K mg base a.c_Tree 5 "drop" ["self", "page"] (spTDrop a) dvs:=by
 refine R.ok sc_Tree_drop (fun vs H Q E h=>?_) (fun f cdv A outer s H vs Q E hr h=>?_)
 ·obtain⟨p,ns,low,n,nd,fp,cn,rfl,_⟩:=h
  rfl
 obtain⟨p,ns,low,n,nd,fp,cn,rfl,S,k1,k2⟩:=h
 let R4:{t:TS // PSs (cxOf (CXE P w) P w K mg base n_Tree_drop "Tree.drop" (defScope s_Tree_drop) f cdv A outer s H E) ((defBody s_Tree_drop).drop 4) t}:=⟨_,(@pss_cons _ _ _ _ _ (ps_expr (pe_fn h_prune (hr.mono (by decide)) (by rfl) pass_def (@pa_cn _ _ _ _ _ (pv 3) (@pa_cn _ _ _ _ _ (pv 2) pa_nil rfl) rfl)))
   (@pss_one _ _ _ (@ps_ret _ _ _ _ (pv 4))))⟩
 refine⟨_,(@pss_cons _ _ _ _ _ (@ps_set _ _ 2 _ _ _ _ sc_Tree_drop.nd rfl (by first | exact Or.inl rfl | exact Or.inr rfl) (pe_me (pv 0) T.cl_Tree h_Tree_indexes (hr.mono (by decide)) pass_def (@pa_cn _ _ _ _ _ (pv 1) pa_nil rfl)) (by rfl) (by first | exact Or.inl rfl | exact Or.inr rfl))
   (@pss_cons _ _ _ _ _ (@ps_set _ _ 3 _ _ _ _ sc_Tree_drop.nd rfl (by first | exact Or.inl rfl | exact Or.inr rfl) (pe_me (pv 0) T.cl_Tree h_Tree_path_to (hr.mono (by decide)) pass_def (@pa_cn _ _ _ _ _ (pv 2) pa_nil rfl)) (by rfl) (by first | exact Or.inl rfl | exact Or.inr rfl))
   (@pss_cons _ _ _ _ _ (ps_if (pt_cmpR op_lt (pe_callB call_len_seq (by rfl) T.b_len PySem.boot_len (@pa_cn _ _ _ _ _ (pv 3) pa_nil rfl)) (pe_callB call_len_seq (by rfl) T.b_len PySem.boot_len (@pa_cn _ _ _ _ _ (pv 2) pa_nil rfl)) (nomark _)) (@pss_one _ _ _ (@ps_ret _ _ _ _ pe_non)) pss_nil)
   (@pss_cons _ _ _ _ _ (@ps_set _ _ 4 _ _ _ _ sc_Tree_drop.nd rfl (by first | exact Or.inl rfl | exact Or.inr rfl) (pe_dpop2 (@pe_ix _ _ _ _ _ _ _ ix_list (pv 3) (pe_un un_neg pe_int) (fun _ _=>rfl)) (@pe_ix _ _ _ _ _ _ _ ix_tup (pv 2) (pe_un un_neg pe_int) (fun _ _=>rfl)) pe_non ⟨rfl,rfl,rfl,rfl⟩) (by rfl) (by first | exact Or.inl rfl | exact Or.inr rfl))
   R4.2)))),?_⟩
 have t1:=T.cl_Tree;have t2:=T.n_Tree_shape;have t3:=T.n_Tree_top
 have SA:=S
 obtain⟨⟨dx,sh,top,h1,h2,h3⟩,g,fu,ib⟩:=S
 walk_at "go"
 refine⟨fun c t H1 s1 ht=>?_,fun c=>k2 c⟩
 have pl:=parts_len ns n
 have SA1:=SA.same s1
 have h11:=s1 _ _ h1
 have gl:=g.len
 generalize parts ns n=ι at ht pl k1
 walk_at "go"
 intro q ds H2 hq W l1 l2 sh2 s2 qn
 have s12:=s1.trans s2
 have I2:=h3.same s12
 have ht2:=s2 _ _ ht
 have em:(ds.map V.ref).length=ds.length:=List.length_map ..
 have em2:(ι.map V.int).length=ns.length:=by rw[List.length_map];exact pl
 walk_at "go"
 show ite _ _ _
 rw[em,em2]
 by_cases c1:ds.length < ns.length
 ·rw[if_pos (by rw[decide_eq_true_eq];exact Int.ofNat_lt.mpr c1)]
  walk_at "go"
  have nn:nd ι=none:=by
   cases e2:nd ι with
   | none=>rfl
   | some y=>obtain⟨d,q⟩:=h3.pre _ rfl e2 ds.length;rw[sh2 c1] at q;cases q
  have:=k1 c nd H2 (SA.same s12) ⟨nn,fun _ _ _=>rfl,fun _ _ w=>w⟩ (Fr.same s12)
  rw[nn] at this
  exact this
 ·rw[if_neg (by rw[decide_eq_true_eq];intro z;exact c1 (Int.ofNat_lt.mp z))]
  have dl:ds.length=ns.length:=by omega
  have tail:∀H3,TrIn H3 ns.length top (putNd nd ι none) fp cn->Fr fp fp H2 H3->R4.1 { nx:=fun x H'=>Q V.non H',rt:=Q } [some (.ref p),some (.int n),some (.ref t),some (.ref q),some (ndV (nd ι))] H3:=by
   intro H3 I3 r3
   have nq:q∉fp:=fun w=>by obtain⟨kv,e⟩:=I2.lv q w;rw[hq] at e;cases e
   have nt:t∉fp:=fun w=>by obtain⟨kv,e⟩:=I2.lv t w;rw[ht2] at e;cases e
   have hq3:=r3.1 _ _ hq nq
   have ht3:=r3.1 _ _ ht2 nt
   have n1:1<=ns.length:=by omega
   have n3:ns.length<=3:=by omega
   have W3:Way (putNd nd ι none) ι ds:=⟨fun j d w=>by
    unfold putNd
    rw[if_neg fun z=>by
     have:=congrArg List.length z
     have jl:=(List.getElem?_eq_some_iff.mp w).1
     rw[List.length_take] at this
     omega]
    exact W.at' j d w⟩
   have fx:FullEx ns.length (putNd nd ι none) (ι.take (ns.length-1)):=fun π d w1 w2 w3 w4=>by
    unfold putNd at w1
    rw[if_neg fun z=>by rw[z] at w3;omega] at w1
    obtain⟨k,y,w⟩:=fu π d w1 w2 w3
    refine⟨k,y,?_⟩
    unfold putNd
    rw[if_neg fun z=>by
     apply w4
     rw[<-pl,<-z,List.length_append]
     exact(List.take_left' rfl).symm]
    exact w
   walk_at "go"
   intro nd' H4 I4 f4 C4 r4
   walk_at "go"
   have gg:=C4.gone
   rw[pl] at gg
   exact k1 c nd' H4 (TrAt.kept h1 h2 h3 g I4 f4 (fun π x w=>ib π x (gg.sub π x w)) (fun b u w1 w2=>r4.1 _ _ (r3.1 _ _ (s12 _ _ w1) w2) w2)) gg (((Fr.same s12).trans r3).trans r4)
  obtain⟨κ,z,ek⟩:∃κ z,ι=κ++[z]:=by
   have ne:ι≠[]:=fun w=>by rw[w] at pl;simp at pl;omega
   exact⟨_,_,(List.dropLast_concat_getLast ne).symm⟩
  obtain⟨es,d,ed⟩:∃es d,ds=es++[d]:=by
   have ne:ds≠[]:=fun w=>by rw[w] at dl;simp at dl;omega
   exact⟨_,_,(List.dropLast_concat_getLast ne).symm⟩
  have kl:κ.length+1=ns.length:=by rw[ek,List.length_append] at pl;exact pl
  have el:es.length+1=ns.length:=by rw[ed,List.length_append] at dl;exact dl
  have hd:=W.at' es.length d (by rw[ed,List.getElem?_append_right (Nat.le_refl _),Nat.sub_self];rfl)
  have tkk:ι.take es.length=κ:=by rw[ek];exact List.take_left' (by omega)
  rw[tkk] at hd
  have a1:atI (ds.map V.ref) (-1)=some (.ref d):=by rw[ed,List.map_append];exact atI_lastV _ _
  have a2:atI (ι.map V.int) (-1)=some (.int z):=by rw[ek];exact atI_last κ z
  obtain⟨kvs,hk,_,_,vk,_⟩:=(I2.tb κ d (by omega) hd).1
  have isd:IsD H2 d:=.inl ⟨kvs,Rd.of hk⟩
  have kz:V.int z=kV (.inl z):=rfl
  have vz:=vk z
  rw[<-ek] at vz
  walk_at "go"
  refine⟨fun v hv=>?_,fun hv=>?_⟩
  ·rw[vz] at hv
   cases e:nd ι with
   | none=>rw[e] at hv;cases hv
   | some y =>
    rw[e] at hv
    cases hv
    have O:=I2.out (i:=z) (by omega:κ.length < ns.length) hd hk (fun j=>by
     cases e:nd (κ++[z]++[j]) with
     | none=>rfl
     | some y=>have:=I2.lg _ _ e;rw[List.length_append,List.length_append] at this;simp at this;omega)
    rw[<-ek] at O
    have:=tail _ O (Fr.put (I2.tb κ d (by omega) hd).2)
    rw[e] at this
    exact this
  ·rw[vz] at hv
   cases e:nd ι with
   | some y=>rw[e] at hv;cases hv
   | none =>
    have en:putNd nd ι none=nd:=funext fun π=>by
     unfold putNd
     split
     ·rename_i w;rw[w,e]
     ·rfl
    have:=tail H2 (by rw[en];exact I2) (Fr.refl _ _)
    rw[e] at this
    exact this
end
theorem sorted_lt {ns:List Int}(s:ns.Pairwise (·<=·))(nd:ns.Nodup): ns.Pairwise (· < ·):=by
 refine List.Pairwise.imp₂ (fun a b h1 h2=>?_) s nd
 have:a≠b:=h2
 omega
theorem len_inj {α β:Type}[DecidableEq β](f:α->β): ∀{ms:List α} {L:List β},ms.Nodup->(∀a∈ms,∀b∈ms,f a=f b->a=b)->(∀a∈ms,f a∈L)->ms.length<=L.length
 | [],_,_,_,_=>Nat.zero_le _
 | a::ms,L,h1,h2,h3=>by
  obtain⟨p1,p2⟩:=List.nodup_cons.mp h1
  have m:=h3 a List.mem_cons_self
  have ih:=len_inj f (L:=L.erase (f a)) p2 (fun x hx y hy=>h2 x (List.mem_cons_of_mem _ hx) y (List.mem_cons_of_mem _ hy)) (fun x hx=>by
   refine(List.mem_erase_of_ne fun z=>p1 ?_).mpr (h3 x (List.mem_cons_of_mem _ hx))
   rw[<-h2 x (List.mem_cons_of_mem _ hx) a List.mem_cons_self z];exact hx)
  rw[List.length_erase_of_mem m] at ih
  have:=List.length_pos_of_mem m
  rw[List.length_cons]
  omega
theorem Cov.ext {N:Nat}{nd:Ix->Option Addr}{L:List Ix}(fu:Full N nd)(C:Cov N nd L): ∀(k:Nat) {ρ:Ix} {x:Addr},nd ρ=some x->ρ≠[]->ρ.length+k=N->∃τ∈L,τ.take ρ.length=ρ:=by
 intro k
 induction k with
 | zero=>intro ρ x h _ hl;exact⟨ρ,C ρ x h hl,List.take_length⟩
 | succ k ih =>
  intro ρ x h hn hl
  obtain⟨i,y,e⟩:=fu ρ x h hn (by omega)
  obtain⟨τ,t1,t2⟩:=ih e (by simp) (by rw[List.length_append];simp;omega)
  refine⟨τ,t1,?_⟩
  have e2:=congrArg (List.take ρ.length) t2
  rw[List.take_take,List.length_append,List.take_left' rfl,Nat.min_eq_left (by omega)] at e2
  exact e2
theorem Cov.level {N i:Nat}{nd:Ix->Option Addr}{L:List Ix}(fu:Full N nd)(C:Cov N nd L){α:Type}{ms:List α}(f:α->Ix)(h1:ms.Nodup)(h2:∀a∈ms,∀b∈ms,f a=f b->a=b)(h3:∀a∈ms,(f a).length=i/\∃x,nd (f a)=some x)(hi:1<=i)(iN:i<=N): ms.length<=L.length:=by
 have:=len_inj f (L:=L.map (List.take i)) h1 h2 fun a ha=>by
  obtain⟨l,x,e⟩:=h3 a ha
  obtain⟨τ,t1,t2⟩:=C.ext fu (N-i) e (fun z=>by rw[z] at l;simp at l;omega) (by omega)
  rw[l] at t2
  exact List.mem_map.mpr ⟨τ,t1,t2⟩
 rw[List.length_map] at this
 exact this
abbrev Rs:=List (Int×Addr)
def Rise (R:Rs): Prop:=R.Pairwise fun a b=>a.1 < b.1
structure RAt (H:Hp)(q:Addr)(ts:List Addr)(R:Rs): Prop where
 l:H q=some (.lst (ts.map V.ref))
 n:ts.length=R.length
 t:∀(i:Nat) (t:Addr) (r:Int×Addr),ts[i]?=some t->R[i]?=some r->H t=some (.tup [.int r.1,.ref r.2])
theorem RAt.snoc {H:Hp}{b u y:Addr}{m:Int}{ts:List Addr}{R:Rs}(A:RAt H b ts R)(hu:H u=none): RAt (upd (upd H u (.tup [.int m,.ref y])) b (.lst (ts.map V.ref++[.ref u]))) b (ts++[u]) (R++[(m,y)]):=by
 have ub:u≠b:=fun z=>by rw[z,A.l] at hu;cases hu
 refine⟨by rw[upd_same,List.map_append];rfl,by rw[List.length_append,List.length_append,A.n];rfl,fun i t r e1 e2=>?_⟩
 by_cases c:i < ts.length
 ·rw[List.getElem?_append_left c] at e1
  rw[List.getElem?_append_left (by rw[<-A.n];exact c)] at e2
  have h:=A.t i t r e1 e2
  rw[upd_ne (fun z=>by rw[z,A.l] at h;cases h),upd_ne (ne_of_none h hu)]
  exact h
 ·have il:=(List.getElem?_eq_some_iff.mp e1).1
  rw[List.length_append] at il
  have ei:i=ts.length:=by simp at il;omega
  rw[List.getElem?_append_right (by omega),ei,Nat.sub_self] at e1
  rw[List.getElem?_append_right (by rw[<-A.n];omega),ei,<-A.n,Nat.sub_self] at e2
  cases e1;cases e2
  rw[upd_ne ub];exact upd_same
theorem Rise.snoc {R:Rs}{m:Int}{y:Addr}(r:Rise R)(h:∀m' y',(m',y')∈R->m' < m): Rise (R++[(m,y)]) :=
 List.pairwise_append.mpr ⟨r,List.pairwise_singleton _ _,fun a ha b hb=>by rw[List.mem_singleton.mp hb];exact h a.1 a.2 ha⟩
def Below (R:Rs)(ch:Int->Int->Option Addr)(w:Int)(m:Int)(y:Addr): Prop:=∃k x j,(k,x)∈R/\ch k j=some y/\m=k*2^w.toNat+j
structure Tb1 (H:Hp)(x:Addr)(ch:Int->Option Addr)(w:Int): Prop where
 at':∃kvs ks,H x=some (.dK kvs)/\IKeys kvs ks/\ks.length < 64/\ks.Nodup/\(∀i:Int,valV kvs (.inl i)=(ch i).map V.ref)/\∀i∈ks,0<=i/\i < 2^w.toNat
def spDown1:Sp:=fun vs H Q _=>∃(q:Addr) (w:Int) (ts:List Addr) (R:Rs) (ch:Int->Int->Option Addr),vs=[.ref q,.int w]/\RAt H q ts R/\0<=w/\w<=24/\Rise R/\(∀k x,(k,x)∈R->0<=k/\k<=2^80/\Tb1 H x (ch k) w)/\(∀R':Rs,Rise R'->(∀m y,(m,y)∈R'->Below R ch w m y)->R'.length < 100) ∧
 ∀q' ts' R' H',RAt H' q' ts' R'->Rise R'->(∀m y,(m,y)∈R'↔Below R ch w m y)->Same H H'->H q'=none->Q (.ref q') H'
section
variable {P:Program}{w:World}{K:PySem.W.Frag}{mg:Str->Option Value}{base:Heap}{a:Adr}
theorem ok_one_level_down {dvs:List V} (R:RawF K mg "one_level_down" s_one_level_down ["nodes", "width"] dvs) (T:Txt w K mg a) :
  HasFn P w K mg base 1 "one_level_down" ["nodes", "width"] (spDown1) dvs:=by
 refine R.ok sc_one_level_down (fun vs H Q E h=>?_) (fun f cdv A outer s H vs Q E hr h=>?_)
 ·obtain⟨q,w,ts,R,ch,rfl,_⟩:=h
  rfl
 obtain⟨q,w,ts,R,ch,rfl,S,w0,w1,rs,tb,bd,k⟩:=h
 refine⟨_,(@pss_cons _ _ _ _ _ (@ps_set _ _ 2 _ _ _ _ sc_one_level_down.nd rfl (by first | exact Or.inl rfl | exact Or.inr rfl) (@pe_lst _ _ _ _ pa_nil) (by rfl) (by first | exact Or.inl rfl | exact Or.inr rfl))
   (@pss_cons _ _ _ _ _ (ps_for own_def rfl (pi_list (pv 0)) (pg_tup (n:=2) rfl (pgs_cons (pg_name (i:=3) sc_one_level_down.nd rfl (by first | exact Or.inl rfl | exact Or.inr rfl)) (pgs_cons (pg_name (i:=4) sc_one_level_down.nd rfl (by first | exact Or.inl rfl | exact Or.inr rfl)) pgs_nil)))
   (@pss_one _ _ _ (ps_for own_def rfl (pi_list (pe_callB (call_sortedD hr.hd) (by rfl) T.b_sorted PyProof.Rows.Boot.«sorted» (@pa_cn _ _ _ _ _ (pv 4) pa_nil rfl))) (pg_name (i:=5) sc_one_level_down.nd rfl (by first | exact Or.inl rfl | exact Or.inr rfl))
   (@pss_one _ _ _ (ps_expr (pe_bm PySem.F.plainAttrs_list PySem.F.slot_list_append PySem.F.type_list_append mt_append (pv 2) (@pa_cn _ _ _ _ _ (@pe_tup _ _ _ _ _ (@pa_cn _ _ _ _ _ (pe_op op_or (pe_op op_shlW (pv 3) (pv 1)) (pv 5)) (@pa_cn _ _ _ _ _ (pe_dget hr.u1 (pv 4) (pv 5) (fun _ _=>rfl)) pa_nil rfl) rfl)) pa_nil rfl)))))))
   (@pss_one _ _ _ (@ps_ret _ _ _ _ (pv 2))))),?_⟩
 walk_at "go"
 intro b hb
 have s1:Same H (upd H b (.lst [])):=same_upd hb
 have e1:upd H b (.lst []) b=some (.lst []):=upd_same
 generalize upd H b (.lst [])=H1 at s1 e1
 have S1l:=s1 _ _ S.l
 walk_at "go"
 refine for_list (xs:=ts.map V.ref) (fun i σ H'=>∃(ts':List Addr) (R':Rs) (v1 v2 v3:Option V),σ=[some (.ref q),some (.int w),some (.ref b),v1,v2,v3]/\RAt H' b ts' R'/\Rise R'/\(∀m y,(m,y)∈R'↔Below (R.take i) ch w m y)/\Same H H') ⟨[],[],_,_,_,rfl,⟨e1,rfl,fun i t r e=>(by cases e)⟩,List.Pairwise.nil,fun m y=>⟨fun z=>(by cases z),fun z=>?_⟩,s1⟩ (fun i σ H' _ z=>?_) ?_ ?_
 ·obtain⟨k,x,j,z,_⟩:=z;cases z
 ·obtain⟨ts',R',v1,v2,v3,_,_,_,_,s⟩:=z
  exact SqL.of (s _ _ S.l)
 ·rintro i v σ H2 hi ⟨ts',R',v1,v2,v3,rfl,A,ri,me,s2⟩
  rw[List.getElem?_map] at hi
  obtain⟨t,ht,rfl⟩:=Option.map_eq_some_iff.mp hi
  have il:i < ts.length:=(List.getElem?_eq_some_iff.mp ht).1
  obtain⟨⟨n,x⟩,hr⟩:∃r,R[i]?=some r:=⟨_,List.getElem?_eq_getElem (by rw[<-S.n];exact il)⟩
  have htt:=s2 _ _ (S.t i t _ ht hr)
  obtain⟨n0,n1,kvs,ks,hx,ik,k64,knd,vk,kb⟩:=tb n x (List.mem_of_getElem? hr)
  have hx2:=s2 _ _ hx
  walk_at "go"
  intro q1 js hq1 pm srt
  have jl:=pm.length_eq
  have jr:=sorted_lt srt (pm.nodup_iff.mpr knd)
  have s3:Same H2 (upd H2 q1 (.lst (js.map V.int))):=same_upd hq1
  have e3:upd H2 q1 (.lst (js.map V.int)) q1=some (.lst (js.map V.int)):=upd_same
  generalize upd H2 q1 (.lst (js.map V.int))=H3 at s3 e3
  have nbq:b≠q1:=fun z=>by rw[<-z,A.l] at hq1;cases hq1
  have A3:RAt H3 b ts' R':=⟨s3 _ _ A.l,A.n,fun i t r e1 e2=>s3 _ _ (A.t i t r e1 e2)⟩
  have s23:=s2.trans s3
  walk_at "go"
  refine for_list (xs:=js.map V.int) (fun j σ H'=>∃(ts':List Addr) (R':Rs) (v:Option V),σ=[some (.ref q),some (.int w),some (.ref b),some (.int n),some (.ref x),v]/\RAt H' b ts' R'/\Rise R'/\(∀m y,(m,y)∈R'↔(Below (R.take i) ch w m y\/∃c∈js.take j,ch n c=some y/\m=n*2^w.toNat+c))/\Same H H'/\H' q1=some (.lst (js.map V.int))) ⟨ts',R',_,rfl,A3,ri,fun m y=>⟨fun z=>.inl ((me m y).mp z),fun z=>?_⟩,s23,e3⟩ (fun j σ H' _ z=>?_) ?_ ?_
  ·rcases z with z | ⟨c,z,_⟩
   ·exact(me m y).mpr z
   ·cases z
  ·obtain⟨ts',R',v,_,_,_,_,_,z⟩:=z
   exact SqL.of z
  ·rintro j v σ H4 hj ⟨ts4,R4,v4,rfl,A4,ri4,me4,s4,e4⟩
   obtain⟨c,rfl,hc⟩:=mem_ints hj
   have cm:c∈ks:=pm.mem_iff.mp (List.mem_of_getElem? hc)
   obtain⟨c0,c1⟩:=kb c cm
   obtain⟨y,hy⟩:∃y,ch n c=some y:=by
    have:=(iKeys_mem (k:=c) ik).mp cm
    rw[vk c] at this
    cases e:ch n c with
    | none=>rw[e] at this;cases this
    | some y=>exact⟨y,rfl⟩
   have hx4:=s4 _ _ hx
   have gg:=DGet.k (k:=Sum.inl c) hx4
   rw[vk c,hy] at gg
   have sh:CShl n w:=⟨w0,by omega,by
    have e:(2:Nat)^80 < 2^1000:=Nat.pow_lt_pow_right (by decide) (by decide)
    have e2:((2^80:Nat):Int)=2^80:=by decide
    omega⟩
   have A4l:=A4.l
   have em:Builtin.bitOr (n*2^w.toNat) c=n*2^w.toNat+c:=or_place n0 c0 c1
   have tkj:js.take (j+1)=js.take j++[c]:=by rw[List.take_add_one,hc];rfl
   have tkr:R.take (i+1)=R.take i++[(n,x)]:=by rw[List.take_add_one,hr];rfl
   have rsn:Rise (R4++[(n*2^w.toNat+c,y)]):=ri4.snoc fun m' y' hm=>by
    rcases (me4 m' y').mp hm with ⟨k',x',j',z1,z2,z3⟩ | ⟨c',z1,z2,z3⟩
    ·have p1:Rise (R.take (i+1)):=rs.sublist (List.take_sublist _ _)
     rw[tkr] at p1
     have lt:k' < n:=(List.pairwise_append.mp p1).2.2 (k',x') z1 (n,x) (by simp)
     obtain⟨_,_,kvs',ks',_,ik',_,_,vk',kb'⟩:=tb k' x' (List.mem_of_mem_take z1)
     have jm:j'∈ks':=(iKeys_mem (k:=j') ik').mpr (by rw[vk' j',z2];rfl)
     have jb:=kb' j' jm
     have h2:(k'+1)*2^w.toNat<=n*2^w.toNat:=Int.mul_le_mul_of_nonneg_right (by omega) (Int.le_of_lt pow2_pos)
     rw[Int.add_mul,Int.one_mul] at h2
     omega
    ·have p1:(js.take (j+1)).Pairwise (· < ·):=jr.sublist (List.take_sublist _ _)
     rw[tkj] at p1
     have:=(List.pairwise_append.mp p1).2.2 c' z1 c (by simp)
     omega
   have men:∀m y',(m,y')∈R4++[(n*2^w.toNat+c,y)]↔(Below (R.take i) ch w m y'\/∃c∈js.take (j+1),ch n c=some y'/\m=n*2^w.toNat+c):=fun m y'=>by
    rw[List.mem_append,me4,tkj]
    constructor
    ·rintro((z | ⟨c',z1,z2,z3⟩) | z)
     ·exact .inl z
     ·exact .inr ⟨c',List.mem_append_left _ z1,z2,z3⟩
     ·obtain⟨rfl,rfl⟩:=Prod.mk.inj (List.mem_singleton.mp z)
      exact .inr ⟨c,by simp,hy,rfl⟩
    ·rintro(z | ⟨c',z1,z2,z3⟩)
     ·exact .inl (.inl z)
     ·rcases List.mem_append.mp z1 with z1 | z1
      ·exact .inl (.inr ⟨c',z1,z2,z3⟩)
      ·have e:=List.mem_singleton.mp z1
       subst e
       rw[hy] at z2
       cases z2
       exact .inr (by rw[z3];simp)
   have bdd:ts4.length < 100:=by
    rw[A4.n]
    refine bd R4 ri4 fun m y hm=>?_
    rcases (me4 m y).mp hm with ⟨k',x',j',z1,z2,z3⟩ | ⟨c',z1,z2,z3⟩
    ·exact⟨k',x',j',List.mem_of_mem_take z1,z2,z3⟩
    ·exact⟨n,x,c',List.mem_of_getElem? hr,z2,z3⟩
   walk_at "go"
   intro u hu
   show tNil _ (upd H4 u (HO.tup [V.int (Builtin.bitOr (n*2^w.toNat) c),V.ref y])) _
   rw[em]
   have A4u:upd H4 u (.tup [.int (n*2^w.toNat+c),.ref y]) b=some (.lst (ts4.map V.ref)):=by rw[upd_ne (ne_of_none A4.l hu)];exact A4.l
   walk_at "go"
   refine⟨by rw[List.length_map,sizeLine_eq];omega,ts4++[u],R4++[(n*2^w.toNat+c,y)],_,rfl,A4.snoc hu,rsn,men,fun d v z=>?_,?_⟩
   ·have h4:=s4 _ _ z
    rw[upd_ne (ne_of_none z hb),upd_ne (ne_of_none h4 hu)];exact h4
   ·rw[upd_ne nbq.symm,upd_ne (ne_of_none e4 hu)];exact e4
  ·rintro σ H4 ⟨ts4,R4,v4,rfl,A4,ri4,me4,s4,e4⟩
   rw[List.length_map,List.take_length] at me4
   refine⟨ts4,R4,_,_,_,rfl,A4,ri4,fun m y=>?_,s4⟩
   rw[me4]
   have tk:R.take (i+1)=R.take i++[(n,x)]:=by rw[List.take_add_one,hr];rfl
   constructor
   ·rintro(⟨k',x',j',z1,z2,z3⟩ | ⟨c,z1,z2,z3⟩)
    ·exact⟨k',x',j',by rw[tk];exact List.mem_append_left _ z1,z2,z3⟩
    ·exact⟨n,x,c,by rw[tk];simp,z2,z3⟩
   ·rintro⟨k',x',j',z1,z2,z3⟩
    rw[tk] at z1
    rcases List.mem_append.mp z1 with z1 | z1
    ·exact .inl ⟨k',x',j',z1,z2,z3⟩
    ·obtain⟨rfl,rfl⟩:=Prod.mk.inj (List.mem_singleton.mp z1)
     refine .inr ⟨j',pm.mem_iff.mpr ((iKeys_mem (k:=j') ik).mpr ?_),z2,z3⟩
     rw[vk j',z2];rfl
 ·rintro σ H2 ⟨ts',R',v1,v2,v3,rfl,A,ri,me,s2⟩
  rw[List.length_map,S.n,List.take_length] at me
  walk_at "go"
  exact k b ts' R' H2 A ri me s2 hb
end
end K18

set_option maxHeartbeats 4000000
namespace K18
open PySem L2
theorem none_ofS {H H':Hp}{q:Addr}(s:Same H H')(h:H' q=none): H q=none:=by
 cases e:H q with
 | none=>rfl
 | some u=>rw[s _ _ e] at h;cases h
theorem iKeys_nd {kvs:List (Key×V)}{ks:List Int}(h:IKeys kvs ks)(nd:(kvs.map (·.1)).Nodup): ks.Nodup:=by
 rw[h] at nd
 exact(List.pairwise_map.mp nd).imp fun h z=>h (by rw[z])
def Lvl (ns:List Int)(nd:Ix->Option Addr)(i:Nat)(R:Rs): Prop:=Rise R/\∀m x,(m,x)∈R↔(0<=m/\m < span (ns.take i)/\nd (parts (ns.take i) m)=some x)
theorem Rise.ints {R:Rs}(r:Rise R): (R.map (·.1)).Nodup:=(List.pairwise_map.mpr r).imp fun h=>Int.ne_of_lt h
theorem take_nn {ns:List Int}{low:Int}(g:Good ns low)(i:Nat): ∀x∈ns.take i,0<=x:=fun x hx=>by
 have:=g.ws x (List.mem_append_left _ (List.mem_of_mem_take hx));omega
theorem span_take {ns:List Int}{low:Int}(g:Good ns low)(i:Nat): span (ns.take i)<=2^72:=by
 have e:ns.sum=(ns.take i).sum+(ns.drop i).sum:=by rw[<-List.sum_append,List.take_append_drop]
 have nn:∀{l:List Int},(∀x∈l,0<=x)->0<=l.sum:=by
  intro l h
  induction l with
  | nil=>simp
  | cons a l ih =>
   rw[List.sum_cons]
   have:=h a List.mem_cons_self
   have:=ih fun x hx=>h x (List.mem_cons_of_mem _ hx)
   omega
 have d0:=nn (l:=ns.drop i) fun x hx=>by have:=g.ws x (List.mem_append_left _ (List.mem_of_mem_drop hx));omega
 have:=g.sum
 exact pow_le_pow (by omega)
section
variable {a:Adr}{H:Hp}{p:Addr}{ns:List Int}{low:Int}{nd:Ix->Option Addr}{fp:List Addr}{cn:Nat}{top:Addr}
theorem Lvl.below {i:Nat}{w:Int}{R:Rs}(g:Good ns low)(S:TrIn H ns.length top nd fp cn)(ib:∀π x,nd π=some x->Fit (ns.take π.length) π)(hw:ns[i]?=some w)(lv:Lvl ns nd i R)(m:Int)(y:Addr):
  Below R (fun k j=>nd (parts (ns.take i) k++[j])) w m y↔(0<=m/\m < span (ns.take (i+1))/\nd (parts (ns.take (i+1)) m)=some y):=by
 have tk:ns.take (i+1)=ns.take i++[w]:=by rw[List.take_add_one,hw];rfl
 have w0:0<=w:=by have:=g.ws w (List.mem_append_left _ (List.mem_of_getElem? hw));omega
 have il:i < ns.length:=(List.getElem?_eq_some_iff.mp hw).1
 have tl:(ns.take i).length=i:=by rw[List.length_take];omega
 have hp:(0:Int) < 2^w.toNat:=pow2_pos
 rw[tk,span_snoc (take_nn g i) w0,parts_snoc]
 constructor
 ·rintro⟨k,x,j,h1,h2,rfl⟩
  obtain⟨q1,q2,q3⟩:=(lv.2 k x).mp h1
  have f:=ib _ y h2
  have l1:(parts (ns.take i) k++[j]).length=i+1:=by rw[List.length_append,parts_length,tl];rfl
  rw[l1,tk] at f
  obtain⟨_,j0,j1⟩:=f.unsnoc
  have e1:(k*2^w.toNat+j) / 2^w.toNat=k:=by
   rw[Int.mul_comm,Int.mul_add_ediv_left _ _ (Int.ne_of_gt hp),Int.ediv_eq_zero_of_lt j0 j1,Int.add_zero]
  have e2:(k*2^w.toNat+j)%2^w.toNat=j:=by
   rw[Int.mul_comm,Int.mul_add_emod_self_left,Int.emod_eq_of_lt j0 j1]
  rw[e1,e2]
  refine⟨?_,?_,h2⟩
  ·have:=Int.mul_nonneg q1 (Int.le_of_lt hp);omega
  ·have h2:(k+1)*2^w.toNat<=span (ns.take i)*2^w.toNat:=Int.mul_le_mul_of_nonneg_right (by omega) (Int.le_of_lt hp)
   rw[Int.add_mul,Int.one_mul] at h2
   omega
 ·rintro⟨m0,m1,h⟩
  obtain⟨d,hd⟩:=S.up _ _ _ h
  refine⟨m / 2^w.toNat,d,m%2^w.toNat,(lv.2 _ _).mpr ⟨div_nn m0,div_lt m1,hd⟩,h,?_⟩
  have:=Int.mul_ediv_add_emod m (2^w.toNat)
  rw[Int.mul_comm] at this
  exact this.symm
theorem Lvl.small {i:Nat}{L:List Ix}{R:Rs}(g:Good ns low)(fu:Full ns.length nd)(C:Cov ns.length nd L)(l64:L.length < 64)(h1:Rise R)(h2:∀m x,(m,x)∈R->(0<=m/\m < span (ns.take i)/\nd (parts (ns.take i) m)=some x))(hi:1<=i)(il:i<=ns.length): R.length < 64:=by
 have tl:(ns.take i).length=i:=by rw[List.length_take];omega
 have:=C.level fu (i:=i) (ms:=R.map (·.1)) (parts (ns.take i)) h1.ints (fun m hm m' hm' e=>by
  obtain⟨⟨m,x⟩,r1,rfl⟩:=List.mem_map.mp hm
  obtain⟨⟨m',x'⟩,r2,rfl⟩:=List.mem_map.mp hm'
  obtain⟨a1,a2,_⟩:=h2 m x r1
  obtain⟨b1,b2,_⟩:=h2 m' x' r2
  have e1:=glue_parts _ (take_nn g i) a1 a2
  have e2:=glue_parts _ (take_nn g i) b1 b2
  show m=m'
  rw[<-e1,<-e2]
  exact congrArg (fun z=>glue ((ns.take i).zip z)) e) (fun m hm=>by
  obtain⟨⟨m,x⟩,r1,rfl⟩:=List.mem_map.mp hm
  exact⟨by rw[parts_length,tl],x,(h2 m x r1).2.2⟩) hi il
 rw[List.length_map] at this
 omega
theorem Lvl.tb {i:Nat}{w:Int}{L:List Ix}{R:Rs}(g:Good ns low)(S:TrIn H ns.length top nd fp cn)(fu:Full ns.length nd)(ib:∀π x,nd π=some x->Fit (ns.take π.length) π)(C:Cov ns.length nd L)(l64:L.length < 64)(hw:ns[i]?=some w)(lv:Lvl ns nd i R){k:Int}{x:Addr}(h:(k,x)∈R):
  0<=k/\k<=2^80/\Tb1 H x (fun j=>nd (parts (ns.take i) k++[j])) w:=by
 have tk:ns.take (i+1)=ns.take i++[w]:=by rw[List.take_add_one,hw];rfl
 have il:i < ns.length:=(List.getElem?_eq_some_iff.mp hw).1
 have tl:(ns.take i).length=i:=by rw[List.length_take];omega
 obtain⟨q1,q2,q3⟩:=(lv.2 k x).mp h
 have pl:(parts (ns.take i) k).length=i:=by rw[parts_length,tl]
 obtain⟨kvs,h1,⟨ks,h2⟩,h3,h4,h5⟩:=(S.tb _ x (by omega) q3).1
 have knd:=iKeys_nd h2 h3
 have mem:∀j∈ks,∃y,nd (parts (ns.take i) k++[j])=some y:=fun j hj=>by
  have:=(iKeys_mem (k:=j) h2).mp hj
  rw[h4 j] at this
  cases e:nd (parts (ns.take i) k++[j]) with
  | none=>simp only [e] at this;cases this
  | some y=>exact⟨y,rfl⟩
 have sp:=span_take g i
 have e80:(2:Int)^72<=2^80:=by decide
 have kl:=C.level fu (i:=i+1) (ms:=ks) (fun j=>parts (ns.take i) k++[j]) knd (fun b _ c _ e=>by have:=(List.append_inj' e rfl).2;simpa using this) (fun j hj=>⟨by rw[List.length_append,pl];rfl,mem j hj⟩) (by omega) (by omega)
 refine⟨q1,by omega,⟨kvs,ks,h1,h2,by omega,knd,h4,fun j hj=>?_⟩⟩
 obtain⟨y,e⟩:=mem j hj
 have f:=ib _ y e
 have l1:(parts (ns.take i) k++[j]).length=i+1:=by rw[List.length_append,pl];rfl
 rw[l1,tk] at f
 exact f.unsnoc.2
theorem Lvl.zero (S:TrIn H ns.length top nd fp cn): Lvl ns nd 0 [(0,top)]:=by
 refine⟨List.pairwise_singleton _ _,fun m x=>?_⟩
 rw[List.take_zero,parts_nil,S.tp,List.mem_singleton]
 have:span []=1:=by decide
 rw[this]
 constructor
 ·intro z;cases z;exact⟨by decide,by decide,rfl⟩
 ·rintro⟨z1,z2,z3⟩
  have:m=0:=by omega
  cases z3
  rw[this]
end
def spTRows (a:Adr): Sp:=fun vs H Q _=>∃(p:Addr) (ns:List Int) (low:Int) (nd:Ix->Option Addr) (fp:List Addr) (cn:Nat) (L:List Ix),vs=[.ref p]/\TrAt a H p ns low nd fp cn/\Cov ns.length nd L/\L.length < 64 ∧
 ∀q ts R H',RAt H' q ts R->Lvl ns nd ns.length R->Same H H'->H q=none->Q (.ref q) H'
section
variable {P:Program}{w:World}{K:PySem.W.Frag}{mg:Str->Option Value}{base:Heap}{a:Adr}
theorem ok_Tree_rows {dvs:List V} (R:RawM K a.c_Tree "rows" "Tree.rows" s_Tree_rows ["self"] dvs) (T:Txt w K mg a)
  (h_one_level_down:HasFn P w K mg base 1 "one_level_down" ["nodes", "width"] (spDown1) []) :
  HasMe P w K mg base a.c_Tree 2 "rows" ["self"] (spTRows a) dvs:=by
 refine R.ok sc_Tree_rows (fun vs H Q E h=>?_) (fun f cdv A outer s H vs Q E hr h=>?_)
 ·obtain⟨p,ns,low,nd,fp,cn,L,rfl,_⟩:=h
  rfl
 obtain⟨p,ns,low,nd,fp,cn,L,rfl,S,C,l64,k⟩:=h
 refine⟨_,(@pss_cons _ _ _ _ _ (@ps_set _ _ 1 _ _ _ _ sc_Tree_rows.nd rfl (by first | exact Or.inl rfl | exact Or.inr rfl) (@pe_lst _ _ _ _ (@pa_cn _ _ _ _ _ (@pe_tup _ _ _ _ _ (@pa_cn _ _ _ _ _ pe_int (@pa_cn _ _ _ _ _ (pe_fld (pv 0) rfl) pa_nil rfl) rfl)) pa_nil rfl)) (by rfl) (by first | exact Or.inl rfl | exact Or.inr rfl))
   (@pss_cons _ _ _ _ _ (ps_for own_def rfl (pi_tup (pe_fld (pe_fld (pv 0) rfl) rfl)) (pg_name (i:=2) sc_Tree_rows.nd rfl (by first | exact Or.inl rfl | exact Or.inr rfl))
   (@pss_one _ _ _ (@ps_set _ _ 1 _ _ _ _ sc_Tree_rows.nd rfl (by first | exact Or.inl rfl | exact Or.inr rfl) (pe_fn h_one_level_down (hr.mono (by decide)) (by rfl) pass_def (@pa_cn _ _ _ _ _ (pv 1) (@pa_cn _ _ _ _ _ (pv 2) pa_nil rfl) rfl)) (by rfl) (by first | exact Or.inl rfl | exact Or.inr rfl))))
   (@pss_one _ _ _ (@ps_ret _ _ _ _ (pv 1))))),?_⟩
 have t1:=T.cl_Tree;have t2:=T.n_Tree_shape;have t3:=T.n_Tree_top;have t4:=T.cl_Shape;have t5:=T.n_Shape_widths
 have SA:=S
 obtain⟨⟨dx,sh,top,h1,h2,h3⟩,g,fu,ib⟩:=S
 obtain⟨dxs,t,h4,h5⟩:=id h2
 have f1:=fldS_widths t low
 walk_at "go"
 intro u hu
 have s1:Same H (upd H u (.tup [.int 0,.ref top])):=same_upd hu
 have e1:upd H u (.tup [.int 0,.ref top]) u=some (.tup [.int 0,.ref top]):=upd_same
 generalize upd H u (.tup [.int 0,.ref top])=H1 at s1 e1
 refine⟨by rw[sizeLine_eq];exact(by decide:1<=16777216),fun q hq=>?_⟩
 have s2:Same H1 (upd H1 q (.lst [.ref u])):=same_upd hq
 have e2:upd H1 q (.lst [.ref u]) q=some (.lst [.ref u]):=upd_same
 have hq0:=none_ofS s1 hq
 generalize upd H1 q (.lst [.ref u])=H2 at s2 e2
 have s12:=s1.trans s2
 have A0:RAt H2 q [u] [(0,top)]:=⟨e2,rfl,fun i t r w1 w2=>by
  cases i with
  | zero=>cases w1;cases w2;exact s2 _ _ e1
  | succ i=>cases w1⟩
 have h12:=s12 _ _ h1
 have h42:=s12 _ _ h4
 have h52:=s12 _ _ h5
 walk_at "go"
 refine for_tup (xs:=ns.map V.int) (fun i σ H'=>∃(q:Addr) (ts:List Addr) (R:Rs) (v:Option V),σ=[some (.ref p),some (.ref q),v]/\RAt H' q ts R/\Lvl ns nd i R/\Same H H'/\H q=none) ⟨q,[u],_,_,rfl,A0,Lvl.zero h3,s12,hq0⟩ (fun i σ H' _ z=>?_) ?_ ?_
 ·obtain⟨q,ts,R,v,_,_,_,s,_⟩:=z
  exact SqT.of (s _ _ h5)
 ·rintro i v σ H3 hi ⟨q,ts,R,v,rfl,A3,lv,s3,hq⟩
  obtain⟨w,rfl,hw⟩:=mem_ints hi
  have wb:=g.ws w (List.mem_append_left _ (List.mem_of_getElem? hw))
  have il:i < ns.length:=(List.getElem?_eq_some_iff.mp hw).1
  have I3:=h3.same s3
  have bl:=lv.below g I3 ib hw
  walk_at "go"
  refine⟨lv.1,fun k x h=>lv.tb g I3 fu ib C l64 hw h,fun R' r1 r2=>?_,fun q' ts' R' H4 A4 ri me s4 hq4=>?_⟩
  ·have:=Lvl.small g fu C l64 r1 (fun m x hm=>(bl m x).mp (r2 m x hm)) (by omega) (by omega:i+1<=ns.length)
   omega
  ·exact⟨q',ts',R',_,rfl,A4,⟨ri,fun m x=>by rw[me m x];exact bl m x⟩,s3.trans s4,none_ofS s3 hq4⟩
 ·rintro σ H3 ⟨q,ts,R,v,rfl,A3,lv,s3,hq⟩
  rw[List.length_map] at lv
  walk_at "go"
  exact k q ts R H3 A3 lv s3 hq
end
end K18

set_option maxHeartbeats 4000000
namespace K18
open PySem L2
inductive Lf where
 | fresh (r:Int) | held (r f:Int) | out (r s:Int) | named (r:Int) (n:Str) (p:Int)
 deriving DecidableEq
def Lf.rights:Lf->Int
 | .fresh r=>r | .held r _=>r | .out r _=>r | .named r _ _=>r
def Lf.withR (q:Int): Lf->Lf
 | .fresh _=>.fresh q | .held _ f=>.held q f | .out _ s=>.out q s | .named _ n p=>.named q n p
def Lf.row:Lf->List V
 | .fresh r=>[.str "fresh",.int r] | .held r f=>[.str "held",.int r,.int f] | .out r s=>[.str "out",.int r,.int s] | .named r n p=>[.str "named",.int r,.str n,.int p]
def Lf.cls (a:Adr): Lf->Addr
 | .fresh _=>a.c_Fresh
 | .held _ _=>a.c_Held
 | .out _ _=>a.c_Out
 | .named _ _ _=>a.c_Named
def Lf.fs:Lf->List (Str×V)
 | .fresh r=>[("rights",.int r)] | .held r f=>[("rights",.int r),("frame",.int f)] | .out r s=>[("rights",.int r),("slot",.int s)] | .named r n p=>[("rights",.int r),("name",.str n),("part",.int p)]
def Lf.kind:Lf->Nat
 | .fresh _=>0 | .held _ _=>1 | .out _ _=>2 | .named _ _ _=>3
def LfAt (a:Adr)(H:Hp)(x:Addr)(f:Lf): Prop:=∃dx,H x=some (.ins (f.cls a) dx f.fs)
theorem LfAt.same {a:Adr}{H H':Hp}{x:Addr}{f:Lf}(h:LfAt a H x f)(s:Same H H'): LfAt a H' x f:=let ⟨dx,e⟩:=h;⟨dx,s _ _ e⟩
def OkR (r:Int): Prop:=0<=r/\r<=3
instance (r:Int): Decidable (OkR r):=by unfold OkR;infer_instance
def spRights (a:Adr): Sp:=fun vs H Q E=>∃r:Int,vs=[.int r]/\(OkR r->Q .non H)/\(¬OkR r->E (.ref a.c_NoRights) none H)
def spLeafInit (a:Adr)(K:PySem.W.Frag): Sp:=fun vs H Q E=>∃(p dx C:Addr) (r:Int),vs=[.ref p,.int r]/\H p=some (.ins C dx [])/\Cls K C/\NoAttr K C "rights" ∧
 (OkR r->Q .non (upd H p (.ins C dx [("rights",.int r)])))/\(¬OkR r->E (.ref a.c_NoRights) none H)
def spHeldInit (a:Adr): Sp:=fun vs H Q E=>∃(p dx:Addr) (r f:Int),vs=[.ref p,.int r,.int f]/\H p=some (.ins a.c_Held dx []) ∧
 (OkR r->Q .non (upd H p (.ins a.c_Held dx (Lf.held r f).fs)))/\(¬OkR r->E (.ref a.c_NoRights) none H)
def spOutInit (a:Adr): Sp:=fun vs H Q E=>∃(p dx:Addr) (r f:Int),vs=[.ref p,.int r,.int f]/\H p=some (.ins a.c_Out dx []) ∧
 (OkR r->Q .non (upd H p (.ins a.c_Out dx (Lf.out r f).fs)))/\(¬OkR r->E (.ref a.c_NoRights) none H)
def spNamedInit (a:Adr): Sp:=fun vs H Q E=>∃(p dx:Addr) (r f:Int) (n:Str),vs=[.ref p,.int r,.str n,.int f]/\H p=some (.ins a.c_Named dx []) ∧
 (OkR r->Q .non (upd H p (.ins a.c_Named dx (Lf.named r n f).fs)))/\(¬OkR r->E (.ref a.c_NoRights) none H)
def spRowK (a:Adr)(n:Nat): Sp:=fun vs H Q _=>∃(x:Addr) (g:Lf),vs=[.ref x]/\LfAt a H x g/\g.kind=n/\∀t,H t=none->Q (.ref t) (upd H t (.tup g.row))
def spRighted (a:Adr)(n:Nat): Sp:=fun vs H Q E=>∃(x:Addr) (g:Lf) (q:Int),vs=[.ref x,.int q]/\LfAt a H x g/\g.kind=n ∧
 (OkR q->∀y H',LfAt a H' y (g.withR q)->Same H H'->H y=none->Q (.ref y) H')/\(¬OkR q->∀H',Same H H'->E (.ref a.c_NoRights) none H')
section
variable {P:Program}{w:World}{K:PySem.W.Frag}{mg:Str->Option Value}{base:Heap}{a:Adr}
theorem ok_check_rights {dvs:List V} (R:RawF K mg "check_rights" s_check_rights ["rights"] dvs) (T:Txt w K mg a) :
  HasFn P w K mg base 1 "check_rights" ["rights"] (spRights a) dvs:=by
 refine R.ok sc_check_rights (fun vs H Q E h=>?_) (fun f cdv A outer s H vs Q E hr h=>?_)
 ·obtain⟨r,rfl,_⟩:=h
  rfl
 obtain⟨r,rfl,k1,k2⟩:=h
 refine⟨_,(@pss_one _ _ _ (ps_if (pt_not (pt_chain op_le op_le pe_int (pv 0) pe_int)) (@pss_one _ _ _ (ps_raise T.x_NoRights rfl (by rfl) T.m_NoRights pass_def (@pa_cn _ _ _ _ _ pe_str pa_nil rfl))) pss_nil)),?_⟩
 walk_at "go"
 refine iteD (fun c0=>?_) (fun c0=>?_)
 ·walk_at "go"
  exact iteN (fun c1=>⟨one_line,k2 fun z=>c1 z.2⟩) fun c1=>k1 ⟨c0,c1⟩
 ·walk_at "go"
  exact k2 fun z=>c0 z.1
theorem fk_Leaf___init__ {f:Addr} {oc:Value} {od:Option Addr} {dV kV doc pm:Value} {an:Option Addr} {cdv ct:Value} {osl:Array (Option Value)} (lk:K.lookup f=some ⟨oc,od,.func (PySem.W.fnOf "__init__" "Leaf.__init__" (defArgs s_Leaf___init__) (defBody s_Leaf___init__) (defScope s_Leaf___init__) dV kV doc pm an cdv ct),osl⟩) (hcd:PySem.W.codeIn K cdv "Leaf.__init__" = true) (T:Txt w K mg a)
  (h_check_rights:HasFn P w K mg base 1 "check_rights" ["rights"] (spRights a) []) :
  FnOk P w K mg base (CXE P w) 2 f (PySem.W.fnOf "__init__" "Leaf.__init__" (defArgs s_Leaf___init__) (defBody s_Leaf___init__) (defScope s_Leaf___init__) dV kV doc pm an cdv ct) ["self", "rights"] (spLeafInit a K):=by
 refine fn_of lk hcd sc_Leaf___init__ (fun vs H Q E h=>?_) (fun A outer s H vs Q E hr h=>?_)
 ·obtain⟨p,dx,C,r,rfl,_⟩:=h
  rfl
 obtain⟨p,dx,C,r,rfl,hp,t1,t2,k1,k2⟩:=h
 refine⟨_,(@pss_cons _ _ _ _ _ (ps_expr (pe_fn h_check_rights (hr.mono (by decide)) (by rfl) pass_def (@pa_cn _ _ _ _ _ (pv 1) pa_nil rfl)))
   (@pss_one _ _ _ (ps_fld (pv 0) (pv 1) rfl))),?_⟩
 walk_at "go"
 refine⟨fun ok=>?_,fun bad=>k2 bad⟩
 walk_at "go"
 exact k1 ok
theorem ok_Held___init__ {dvs:List V} (R:RawI K a.c_Held "Held.__init__" s_Held___init__ ["self", "rights", "frame"] dvs) (T:Txt w K mg a)
  (hc_Leaf___init__:HasCm P w K mg base a.c_Leaf 2 "__init__" ["self", "rights"] (spLeafInit a K) []) :
  HasMk P w K mg base a.c_Held 3 ["self", "rights", "frame"] (spHeldInit a) dvs:=by
 refine R.ok sc_Held___init__ (fun vs H Q E h=>?_) (fun f cdv A outer s H vs Q E hr h=>?_)
 ·obtain⟨p,dx,r,f,rfl,_⟩:=h
  rfl
 obtain⟨p,dx,r,f,rfl,hp,k1,k2⟩:=h
 refine⟨_,(@pss_cons _ _ _ _ _ (ps_expr (pe_cm (by rfl) T.m_Leaf hc_Leaf___init__ (hr.mono (by decide)) pass_def (@pa_cn _ _ _ _ _ (pv 0) (@pa_cn _ _ _ _ _ (pv 1) pa_nil rfl) rfl)))
   (@pss_one _ _ _ (ps_fld (pv 0) (pv 2) rfl))),?_⟩
 have d1:=T.cl_Held;have d2:=T.n_Held_rights;have d3:=T.n_Held_frame
 walk_at "go"
 refine⟨fun ok=>?_,fun bad=>k2 bad⟩
 walk_at "go"
 rw[pf_ne (by decide +kernel),pf_nil,upd_upd]
 exact k1 ok
theorem ok_Out___init__ {dvs:List V} (R:RawI K a.c_Out "Out.__init__" s_Out___init__ ["self", "rights", "slot"] dvs) (T:Txt w K mg a)
  (hc_Leaf___init__:HasCm P w K mg base a.c_Leaf 2 "__init__" ["self", "rights"] (spLeafInit a K) []) :
  HasMk P w K mg base a.c_Out 3 ["self", "rights", "slot"] (spOutInit a) dvs:=by
 refine R.ok sc_Out___init__ (fun vs H Q E h=>?_) (fun f cdv A outer s H vs Q E hr h=>?_)
 ·obtain⟨p,dx,r,f,rfl,_⟩:=h
  rfl
 obtain⟨p,dx,r,f,rfl,hp,k1,k2⟩:=h
 refine⟨_,(@pss_cons _ _ _ _ _ (ps_expr (pe_cm (by rfl) T.m_Leaf hc_Leaf___init__ (hr.mono (by decide)) pass_def (@pa_cn _ _ _ _ _ (pv 0) (@pa_cn _ _ _ _ _ (pv 1) pa_nil rfl) rfl)))
   (@pss_one _ _ _ (ps_fld (pv 0) (pv 2) rfl))),?_⟩
 have d1:=T.cl_Out;have d2:=T.n_Out_rights;have d3:=T.n_Out_slot
 walk_at "go"
 refine⟨fun ok=>?_,fun bad=>k2 bad⟩
 walk_at "go"
 rw[pf_ne (by decide +kernel),pf_nil,upd_upd]
 exact k1 ok
theorem ok_Named___init__ {dvs:List V} (R:RawI K a.c_Named "Named.__init__" s_Named___init__ ["self", "rights", "name", "part"] dvs) (T:Txt w K mg a)
  (hc_Leaf___init__:HasCm P w K mg base a.c_Leaf 2 "__init__" ["self", "rights"] (spLeafInit a K) []) :
  HasMk P w K mg base a.c_Named 3 ["self", "rights", "name", "part"] (spNamedInit a) dvs:=by
 refine R.ok sc_Named___init__ (fun vs H Q E h=>?_) (fun f cdv A outer s H vs Q E hr h=>?_)
 ·obtain⟨p,dx,r,f,n,rfl,_⟩:=h
  rfl
 obtain⟨p,dx,r,f,n,rfl,hp,k1,k2⟩:=h
 refine⟨_,(@pss_cons _ _ _ _ _ (ps_expr (pe_cm (by rfl) T.m_Leaf hc_Leaf___init__ (hr.mono (by decide)) pass_def (@pa_cn _ _ _ _ _ (pv 0) (@pa_cn _ _ _ _ _ (pv 1) pa_nil rfl) rfl)))
   (@pss_cons _ _ _ _ _ (ps_fld (pv 0) (pv 2) rfl)
   (@pss_one _ _ _ (ps_fld (pv 0) (pv 3) rfl)))),?_⟩
 have d1:=T.cl_Named;have d2:=T.n_Named_rights;have d3:=T.n_Named_name;have d4:=T.n_Named_part
 walk_at "go"
 refine⟨fun ok=>?_,fun bad=>k2 bad⟩
 walk_at "go"
 rw[pf_ne (by decide +kernel),pf_nil,pf_ne (by decide +kernel),pf_ne (by decide +kernel),pf_nil,upd_upd,upd_upd]
 exact k1 ok
theorem ok_Fresh_row {dvs:List V} (R:RawM K a.c_Fresh "row" "Fresh.row" s_Fresh_row ["self"] dvs) (T:Txt w K mg a) :
  HasMe P w K mg base a.c_Fresh 1 "row" ["self"] (spRowK a 0) dvs:=by
 refine R.ok sc_Fresh_row (fun vs H Q E h=>?_) (fun f cdv A outer s H vs Q E hr h=>?_)
 ·obtain⟨x,g,rfl,_⟩:=h
  rfl
 obtain⟨x,g,rfl,S,hk,k⟩:=h
 refine⟨_,(@pss_one _ _ _ (@ps_ret _ _ _ _ (@pe_tup _ _ _ _ _ (@pa_cn _ _ _ _ _ pe_str (@pa_cn _ _ _ _ _ (pe_fld (pv 0) rfl) pa_nil rfl) rfl)))),?_⟩
 have d1:=T.cl_Fresh;have d2:=T.n_Fresh_rights
 cases g with
 | fresh r =>
  obtain⟨dx,hx⟩:=S
  have hx:H x=some (.ins a.c_Fresh dx _):=hx
  unfold Lf.fs at hx
  walk_at "go"
  exact k
 | held _ _=>cases hk
 | out _ _=>cases hk
 | named _ _ _=>cases hk
theorem ok_Held_row {dvs:List V} (R:RawM K a.c_Held "row" "Held.row" s_Held_row ["self"] dvs) (T:Txt w K mg a) :
  HasMe P w K mg base a.c_Held 1 "row" ["self"] (spRowK a 1) dvs:=by
 refine R.ok sc_Held_row (fun vs H Q E h=>?_) (fun f cdv A outer s H vs Q E hr h=>?_)
 ·obtain⟨x,g,rfl,_⟩:=h
  rfl
 obtain⟨x,g,rfl,S,hk,k⟩:=h
 refine⟨_,(@pss_one _ _ _ (@ps_ret _ _ _ _ (@pe_tup _ _ _ _ _ (@pa_cn _ _ _ _ _ pe_str (@pa_cn _ _ _ _ _ (pe_fld (pv 0) rfl) (@pa_cn _ _ _ _ _ (pe_fld (pv 0) rfl) pa_nil rfl) rfl) rfl)))),?_⟩
 have d1:=T.cl_Held;have d2:=T.n_Held_rights;have d3:=T.n_Held_frame
 cases g with
 | fresh _=>cases hk
 | held r f =>
  obtain⟨dx,hx⟩:=S
  have hx:H x=some (.ins a.c_Held dx _):=hx
  unfold Lf.fs at hx
  walk_at "go"
  exact k
 | out _ _=>cases hk
 | named _ _ _=>cases hk
theorem ok_Out_row {dvs:List V} (R:RawM K a.c_Out "row" "Out.row" s_Out_row ["self"] dvs) (T:Txt w K mg a) :
  HasMe P w K mg base a.c_Out 1 "row" ["self"] (spRowK a 2) dvs:=by
 refine R.ok sc_Out_row (fun vs H Q E h=>?_) (fun f cdv A outer s H vs Q E hr h=>?_)
 ·obtain⟨x,g,rfl,_⟩:=h
  rfl
 obtain⟨x,g,rfl,S,hk,k⟩:=h
 refine⟨_,(@pss_one _ _ _ (@ps_ret _ _ _ _ (@pe_tup _ _ _ _ _ (@pa_cn _ _ _ _ _ pe_str (@pa_cn _ _ _ _ _ (pe_fld (pv 0) rfl) (@pa_cn _ _ _ _ _ (pe_fld (pv 0) rfl) pa_nil rfl) rfl) rfl)))),?_⟩
 have d1:=T.cl_Out;have d2:=T.n_Out_rights;have d3:=T.n_Out_slot
 cases g with
 | fresh _=>cases hk
 | held _ _=>cases hk
 | out r f =>
  obtain⟨dx,hx⟩:=S
  have hx:H x=some (.ins a.c_Out dx _):=hx
  unfold Lf.fs at hx
  walk_at "go"
  exact k
 | named _ _ _=>cases hk
theorem ok_Named_row {dvs:List V} (R:RawM K a.c_Named "row" "Named.row" s_Named_row ["self"] dvs) (T:Txt w K mg a) :
  HasMe P w K mg base a.c_Named 1 "row" ["self"] (spRowK a 3) dvs:=by
 refine R.ok sc_Named_row (fun vs H Q E h=>?_) (fun f cdv A outer s H vs Q E hr h=>?_)
 ·obtain⟨x,g,rfl,_⟩:=h
  rfl
 obtain⟨x,g,rfl,S,hk,k⟩:=h
 refine⟨_,(@pss_one _ _ _ (@ps_ret _ _ _ _ (@pe_tup _ _ _ _ _ (@pa_cn _ _ _ _ _ pe_str (@pa_cn _ _ _ _ _ (pe_fld (pv 0) rfl) (@pa_cn _ _ _ _ _ (pe_fld (pv 0) rfl) (@pa_cn _ _ _ _ _ (pe_fld (pv 0) rfl) pa_nil rfl) rfl) rfl) rfl)))),?_⟩
 have d1:=T.cl_Named;have d2:=T.n_Named_rights;have d3:=T.n_Named_name;have d4:=T.n_Named_part
 cases g with
 | fresh _=>cases hk
 | held _ _=>cases hk
 | out _ _=>cases hk
 | named r n f =>
  obtain⟨dx,hx⟩:=S
  have hx:H x=some (.ins a.c_Named dx _):=hx
  unfold Lf.fs at hx
  walk_at "go"
  exact k
theorem ok_Fresh_righted {dvs:List V} (R:RawM K a.c_Fresh "righted" "Fresh.righted" s_Fresh_righted ["self", "rights"] dvs) (T:Txt w K mg a)
  (h_Fresh___init__:HasMk P w K mg base a.c_Fresh 2 ["self", "rights"] (spLeafInit a K) []) :
  HasMe P w K mg base a.c_Fresh 4 "righted" ["self", "rights"] (spRighted a 0) dvs:=by
 refine R.ok sc_Fresh_righted (fun vs H Q E h=>?_) (fun f cdv A outer s H vs Q E hr h=>?_)
 ·obtain⟨x,g,q,rfl,_⟩:=h
  rfl
 obtain⟨x,g,q,rfl,S,hk,k1,k2⟩:=h
 refine⟨_,(@pss_one _ _ _ (@ps_ret _ _ _ _ (pe_mk h_Fresh___init__ (hr.mono (by decide)) (by rfl) T.m_Fresh pass_def (@pa_cn _ _ _ _ _ (pv 1) pa_nil rfl)))),?_⟩
 have d1:=T.cl_Fresh;have d2:=T.n_Fresh_rights
 cases g with
 | fresh r =>
  obtain⟨dx,hx⟩:=S
  have hx:H x=some (.ins a.c_Fresh dx _):=hx
  unfold Lf.fs at hx
  walk_at "go"
  intro y dy hy hdy ny
  have hy':upd H dy (.own y) y=none:=by rw[upd_ne ny.symm];exact hy
  have sm:Same H (upd (upd H dy (.own y)) y (.ins a.c_Fresh dy [])):=(same_upd hdy).trans (same_upd hy')
  have e1:upd (upd H dy (.own y)) y (.ins a.c_Fresh dy []) y=some (.ins a.c_Fresh dy []):=upd_same
  walk_at "go"
  refine⟨fun ok=>⟨rfl,?_⟩,fun bad=>k2 bad _ sm⟩
  refine k1 ok y _ ⟨dy,upd_same⟩ ?_ hy
  rw[upd_upd]
  exact(same_upd hdy).trans (same_upd hy')
 | held _ _=>cases hk
 | out _ _=>cases hk
 | named _ _ _=>cases hk
theorem ok_Held_righted {dvs:List V} (R:RawM K a.c_Held "righted" "Held.righted" s_Held_righted ["self", "rights"] dvs) (T:Txt w K mg a)
  (h_Held___init__:HasMk P w K mg base a.c_Held 3 ["self", "rights", "frame"] (spHeldInit a) []) :
  HasMe P w K mg base a.c_Held 5 "righted" ["self", "rights"] (spRighted a 1) dvs:=by
 refine R.ok sc_Held_righted (fun vs H Q E h=>?_) (fun f cdv A outer s H vs Q E hr h=>?_)
 ·obtain⟨x,g,q,rfl,_⟩:=h
  rfl
 obtain⟨x,g,q,rfl,S,hk,k1,k2⟩:=h
 refine⟨_,(@pss_one _ _ _ (@ps_ret _ _ _ _ (pe_mk h_Held___init__ (hr.mono (by decide)) (by rfl) T.m_Held pass_def (@pa_cn _ _ _ _ _ (pv 1) (@pa_cn _ _ _ _ _ (pe_fld (pv 0) rfl) pa_nil rfl) rfl)))),?_⟩
 have d1:=T.cl_Held;have d2:=T.n_Held_rights;have d3:=T.n_Held_frame
 cases g with
 | fresh _=>cases hk
 | held r f =>
  obtain⟨dx,hx⟩:=S
  have hx:H x=some (.ins a.c_Held dx _):=hx
  unfold Lf.fs at hx
  walk_at "go"
  intro y dy hy hdy ny
  have hy':upd H dy (.own y) y=none:=by rw[upd_ne ny.symm];exact hy
  have sm:Same H (upd (upd H dy (.own y)) y (.ins a.c_Held dy [])):=(same_upd hdy).trans (same_upd hy')
  have e1:upd (upd H dy (.own y)) y (.ins a.c_Held dy []) y=some (.ins a.c_Held dy []):=upd_same
  walk_at "go"
  refine⟨fun ok=>⟨rfl,?_⟩,fun bad=>k2 bad _ sm⟩
  refine k1 ok y _ ⟨dy,upd_same⟩ ?_ hy
  rw[upd_upd]
  exact(same_upd hdy).trans (same_upd hy')
 | out _ _=>cases hk
 | named _ _ _=>cases hk
theorem ok_Out_righted {dvs:List V} (R:RawM K a.c_Out "righted" "Out.righted" s_Out_righted ["self", "rights"] dvs) (T:Txt w K mg a)
  (h_Out___init__:HasMk P w K mg base a.c_Out 3 ["self", "rights", "slot"] (spOutInit a) []) :
  HasMe P w K mg base a.c_Out 5 "righted" ["self", "rights"] (spRighted a 2) dvs:=by
 refine R.ok sc_Out_righted (fun vs H Q E h=>?_) (fun f cdv A outer s H vs Q E hr h=>?_)
 ·obtain⟨x,g,q,rfl,_⟩:=h
  rfl
 obtain⟨x,g,q,rfl,S,hk,k1,k2⟩:=h
 refine⟨_,(@pss_one _ _ _ (@ps_ret _ _ _ _ (pe_mk h_Out___init__ (hr.mono (by decide)) (by rfl) T.m_Out pass_def (@pa_cn _ _ _ _ _ (pv 1) (@pa_cn _ _ _ _ _ (pe_fld (pv 0) rfl) pa_nil rfl) rfl)))),?_⟩
 have d1:=T.cl_Out;have d2:=T.n_Out_rights;have d3:=T.n_Out_slot
 cases g with
 | fresh _=>cases hk
 | held _ _=>cases hk
 | out r f =>
  obtain⟨dx,hx⟩:=S
  have hx:H x=some (.ins a.c_Out dx _):=hx
  unfold Lf.fs at hx
  walk_at "go"
  intro y dy hy hdy ny
  have hy':upd H dy (.own y) y=none:=by rw[upd_ne ny.symm];exact hy
  have sm:Same H (upd (upd H dy (.own y)) y (.ins a.c_Out dy [])):=(same_upd hdy).trans (same_upd hy')
  have e1:upd (upd H dy (.own y)) y (.ins a.c_Out dy []) y=some (.ins a.c_Out dy []):=upd_same
  walk_at "go"
  refine⟨fun ok=>⟨rfl,?_⟩,fun bad=>k2 bad _ sm⟩
  refine k1 ok y _ ⟨dy,upd_same⟩ ?_ hy
  rw[upd_upd]
  exact(same_upd hdy).trans (same_upd hy')
 | named _ _ _=>cases hk
theorem ok_Named_righted {dvs:List V} (R:RawM K a.c_Named "righted" "Named.righted" s_Named_righted ["self", "rights"] dvs) (T:Txt w K mg a)
  (h_Named___init__:HasMk P w K mg base a.c_Named 3 ["self", "rights", "name", "part"] (spNamedInit a) []) :
  HasMe P w K mg base a.c_Named 5 "righted" ["self", "rights"] (spRighted a 3) dvs:=by
 refine R.ok sc_Named_righted (fun vs H Q E h=>?_) (fun f cdv A outer s H vs Q E hr h=>?_)
 ·obtain⟨x,g,q,rfl,_⟩:=h
  rfl
 obtain⟨x,g,q,rfl,S,hk,k1,k2⟩:=h
 refine⟨_,(@pss_one _ _ _ (@ps_ret _ _ _ _ (pe_mk h_Named___init__ (hr.mono (by decide)) (by rfl) T.m_Named pass_def (@pa_cn _ _ _ _ _ (pv 1) (@pa_cn _ _ _ _ _ (pe_fld (pv 0) rfl) (@pa_cn _ _ _ _ _ (pe_fld (pv 0) rfl) pa_nil rfl) rfl) rfl)))),?_⟩
 have d1:=T.cl_Named;have d2:=T.n_Named_rights;have d3:=T.n_Named_name;have d4:=T.n_Named_part
 cases g with
 | fresh _=>cases hk
 | held _ _=>cases hk
 | out _ _=>cases hk
 | named r n f =>
  obtain⟨dx,hx⟩:=S
  have hx:H x=some (.ins a.c_Named dx _):=hx
  unfold Lf.fs at hx
  walk_at "go"
  intro y dy hy hdy ny
  have hy':upd H dy (.own y) y=none:=by rw[upd_ne ny.symm];exact hy
  have sm:Same H (upd (upd H dy (.own y)) y (.ins a.c_Named dy [])):=(same_upd hdy).trans (same_upd hy')
  have e1:upd (upd H dy (.own y)) y (.ins a.c_Named dy []) y=some (.ins a.c_Named dy []):=upd_same
  walk_at "go"
  refine⟨fun ok=>⟨rfl,?_⟩,fun bad=>k2 bad _ sm⟩
  refine k1 ok y _ ⟨dy,upd_same⟩ ?_ hy
  rw[upd_upd]
  exact(same_upd hdy).trans (same_upd hy')
end
def StrOk (x:Str): Prop:=PyData.canLay0 (.str x)=true
def Lf.dat:Lf->List PyData
 | .fresh r=>[.str "fresh",.int r] | .held r f=>[.str "held",.int r,.int f] | .out r s=>[.str "out",.int r,.int s] | .named r n p=>[.str "named",.int r,.str n,.int p]
def Lf.ok:Lf->Prop
 | .named _ n _=>StrOk n
 | _=>True
theorem Lf.datAll (K:PySem.W.Frag)(H:Hp)(g:Lf): DatAll K H g.row g.dat:=by
 cases g with
 | fresh r=>exact .cons (.str _) (.cons (.int _) .nil)
 | held r f=>exact .cons (.str _) (.cons (.int _) (.cons (.int _) .nil))
 | out r f=>exact .cons (.str _) (.cons (.int _) (.cons (.int _) .nil))
 | named r n f=>exact .cons (.str _) (.cons (.int _) (.cons (.str _) (.cons (.int _) .nil)))
theorem Lf.tid (g:Lf)(h:g.ok): Tid 2 (.tuple g.dat):=by
 have s1:∀x:Str,x = "fresh" ∨ x = "held" ∨ x = "out" ∨ x = "named" -> Tid 1 (.str x):=fun x hx=>by
  rcases hx with rfl | rfl | rfl | rfl<;>exact Tid.str (by decide +kernel)
 refine Tid.tuple fun d hd=>?_
 cases g with
 | fresh r =>
  simp[Lf.dat] at hd
  rcases hd with rfl | rfl
  ·exact s1 _ (by simp)
  ·exact Tid.int _
 | held r f =>
  simp[Lf.dat] at hd
  rcases hd with rfl | rfl | rfl
  ·exact s1 _ (by simp)
  ·exact Tid.int _
  ·exact Tid.int _
 | out r f =>
  simp[Lf.dat] at hd
  rcases hd with rfl | rfl | rfl
  ·exact s1 _ (by simp)
  ·exact Tid.int _
  ·exact Tid.int _
 | named r n f =>
  simp[Lf.dat] at hd
  rcases hd with rfl | rfl | rfl | rfl
  ·exact s1 _ (by simp)
  ·exact Tid.int _
  ·exact Tid.str h
  ·exact Tid.int _
theorem newO {H H':Hp}{q:Addr}{o:HO}(hq:H q=none)(hh:upd H q o=H'): Same H H'/\H' q=some o:=by subst hh;exact⟨same_upd hq,upd_same⟩
theorem newI {H H':Hp}{y dy:Addr}{o o1 o2:HO}(hy:H y=none)(hdy:H dy=none)(hh:upd (upd (upd H dy o1) y o2) y o=H'): Same H H'/\H' y=some o:=by
 subst hh
 refine⟨fun b u e=>?_,upd_same⟩
 rw[upd_ne (ne_of_none e hy),upd_ne (ne_of_none e hy),upd_ne (ne_of_none e hdy)];exact e
structure Bx (p:Prop): Prop where
 o:p
def fltF (t ad de:V): List (Str×V):=[("task",t),("address",ad),("deed",de)]
def spFaultI (K:PySem.W.Frag): Sp:=fun vs H Q _=>∃(e C:Addr) (t ad de:V),vs=[.ref e,t,ad,de]/\H e=some (exM e (.ref C) none)/\XO K C/\XSet K C "task" ∧ XSet K C "address" ∧ XSet K C "deed" ∧
 ∀d H',H d=none->d≠e->H' e=some (exM e (.ref C) (some d))->H' d=some (xdW d (fltF t ad de))->(∀b,b≠e->b≠d->H' b=H b)->Q .non H'
def spTakenI (K:PySem.W.Frag): Sp:=fun vs H Q _=>∃(e C:Addr) (pg:V),vs=[.ref e,pg]/\H e=some (exM e (.ref C) none)/\XO K C/\XSet K C "page" ∧
 ∀d H',H d=none->d≠e->H' e=some (exM e (.ref C) (some d))->H' d=some (xdW d [("page",pg)])->(∀b,b≠e->b≠d->H' b=H b)->Q .non H'
section
variable {P:Program}{w:World}{K:PySem.W.Frag}{mg:Str->Option Value}{base:Heap}{a:Adr}
theorem fk_Taken___init__ {f:Addr} {oc:Value} {od:Option Addr} {dV kV doc pm:Value} {an:Option Addr} {cdv ct:Value} {osl:Array (Option Value)} (lk:K.lookup f=some ⟨oc,od,.func (PySem.W.fnOf "__init__" "Taken.__init__" (defArgs s_Taken___init__) (defBody s_Taken___init__) (defScope s_Taken___init__) dV kV doc pm an cdv ct),osl⟩) (hcd:PySem.W.codeIn K cdv "Taken.__init__" = true) (T:Txt w K mg a) :
  FnOk P w K mg base (CXE P w) 1 f (PySem.W.fnOf "__init__" "Taken.__init__" (defArgs s_Taken___init__) (defBody s_Taken___init__) (defScope s_Taken___init__) dV kV doc pm an cdv ct) ["self", "page"] (spTakenI K):=by
 refine fn_of lk hcd sc_Taken___init__ (fun vs H Q E h=>?_) (fun A outer s H vs Q E hr h=>?_)
 ·obtain⟨e,C,pg,rfl,_⟩:=h
  rfl
 obtain⟨e,C,pg,rfl,he,xo,x1,k⟩:=h
 refine⟨_,(@pss_cons _ _ _ _ _ (ps_expr (pe_binit T.bi_LeafError (by rfl) T.m_LeafError (@pa_cn _ _ _ _ _ (pv 0) (@pa_cn _ _ _ _ _ (pv 1) pa_nil rfl) rfl)))
   (@pss_one _ _ _ (ps_xfld1 (pv 0) (pv 1) rfl))),?_⟩
 have zr:[pg].length<=sizeLine:=by rw[sizeLine_eq];show 1<=_;decide
 walk_at "go"
 intro d hd ne
 have hd0:H d=none:=by rw[upd_ne ne] at hd;exact hd
 exact k d _ hd0 ne upd_same (by rw[upd_ne ne,upd_same]) fun b n1 n2=>by rw[upd_ne n1,upd_ne n2,upd_ne n1]
theorem fk_Fault___init__ {f:Addr} {oc:Value} {od:Option Addr} {dV kV doc pm:Value} {an:Option Addr} {cdv ct:Value} {osl:Array (Option Value)} (lk:K.lookup f=some ⟨oc,od,.func (PySem.W.fnOf "__init__" "Fault.__init__" (defArgs s_Fault___init__) (defBody s_Fault___init__) (defScope s_Fault___init__) dV kV doc pm an cdv ct),osl⟩) (hcd:PySem.W.codeIn K cdv "Fault.__init__" = true) (T:Txt w K mg a) :
  FnOk P w K mg base (CXE P w) 1 f (PySem.W.fnOf "__init__" "Fault.__init__" (defArgs s_Fault___init__) (defBody s_Fault___init__) (defScope s_Fault___init__) dV kV doc pm an cdv ct) ["self", "task", "address", "deed"] (spFaultI K):=by
 refine fn_of lk hcd sc_Fault___init__ (fun vs H Q E h=>?_) (fun A outer s H vs Q E hr h=>?_)
 ·obtain⟨e,C,t,ad,de,rfl,_⟩:=h
  rfl
 obtain⟨e,C,t,ad,de,rfl,he,xo,x1,x2,x3,k⟩:=h
 refine⟨_,(@pss_cons _ _ _ _ _ (ps_expr (pe_binit T.bi_LeafError (by rfl) T.m_LeafError (@pa_cn _ _ _ _ _ (pv 0) (@pa_cn _ _ _ _ _ (pv 1) (@pa_cn _ _ _ _ _ (pv 2) (@pa_cn _ _ _ _ _ (pv 3) pa_nil rfl) rfl) rfl) rfl)))
   (@pss_cons _ _ _ _ _ (ps_xfld1 (pv 0) (pv 1) rfl)
   (@pss_cons _ _ _ _ _ (ps_xfld2 (pv 0) (pv 2) rfl)
   (@pss_one _ _ _ (ps_xfld2 (pv 0) (pv 3) rfl))))),?_⟩
 have zr:[t,ad,de].length<=sizeLine:=by rw[sizeLine_eq];show 3<=_;decide
 walk_at "go"
 intro d hd ne
 have hd0:H d=none:=by rw[upd_ne ne] at hd;exact hd
 generalize hh:upd _ e _=H1
 have a1:H1 e=some (exM e (.ref C) (some d)):=by rw[<-hh];exact upd_same
 have a2:H1 d=some (xdW d [("task",t)]):=by rw[<-hh,upd_ne ne,upd_same]
 have a3:∀b,b≠e->b≠d->H1 b=H b:=fun b n1 n2=>by rw[<-hh,upd_ne n1,upd_ne n2,upd_ne n1]
 clear hh
 have z1:[(("task" : Str),t)].length < 1000:=by show 1 < 1000;decide
 walk_at "go"
 refine k d _ hd0 ne upd_same ?_ fun b n1 n2=>by rw[upd_ne n1,upd_ne n2,upd_ne n1,upd_ne n2];exact a3 b n1 n2
 have e1:putF "address" ad ([]:List (Str×V))=([("address",ad)]:List (Str×V)):=rfl
 rw[upd_ne ne,upd_same,pf_ne (by decide +kernel),pf_ne (by decide +kernel),e1,pf_ne (by decide +kernel)]
 rfl
end
end K18

set_option maxHeartbeats 4000000
namespace K18
open PySem L2
def SpAt (a:Adr)(H:Hp)(p:Addr)(ns:List Int)(low task:Int)(nd:Ix->Option Addr)(fp:List Addr)(cn:Nat): Prop:=∃dx sh tr dt sh2 top dxs ts,H p=some (.ins a.c_Space dx [("shape",.ref sh),("task",.int task),("tree",.ref tr)]) ∧
 H tr=some (.ins a.c_Tree dt [("shape",.ref sh2),("top",.ref top)])/\TrAt a H tr ns low nd fp cn/\H sh=some (.ins a.c_Shape dxs (fldS ts low))/\H ts=some (.tup (ns.map V.int))/\Good ns low/\p∉fp/\p≠tr/\tr∉fp/\sh∉fp/\ts∉fp
theorem SpAt.same {a:Adr}{H H':Hp}{p:Addr}{ns:List Int}{low task:Int}{nd:Ix->Option Addr}{fp:List Addr}{cn:Nat}(S:SpAt a H p ns low task nd fp cn)(s:Same H H'): SpAt a H' p ns low task nd fp cn:=by
 obtain⟨dx,sh,tr,dt,sh2,top,dxs,ts,h1,h2,h3,h4,h4',h5⟩:=S
 exact⟨dx,sh,tr,dt,sh2,top,dxs,ts,s _ _ h1,s _ _ h2,h3.same s,s _ _ h4,s _ _ h4',h5⟩
def spSpLeaf (a:Adr): Sp:=fun vs H Q E=>∃(p:Addr) (ns:List Int) (low task n:Int) (nd:Ix->Option Addr) (fp:List Addr) (cn:Nat),vs=[.ref p,.int n]/\SpAt a H p ns low task nd fp cn ∧
 (0<=n/\n < pgs ns->∀H',Same H H'->Q (ndV (nd (parts ns n))) H')/\(¬(0<=n/\n < pgs ns)->E (.ref a.c_NoAddress) none H)
def spSpRows (a:Adr): Sp:=fun vs H Q _=>∃(p:Addr) (ns:List Int) (low task:Int) (nd:Ix->Option Addr) (fp:List Addr) (cn:Nat) (L:List Ix),vs=[.ref p]/\SpAt a H p ns low task nd fp cn/\Cov ns.length nd L/\L.length < 64 ∧
 ∀q ts R H',RAt H' q ts R->Lvl ns nd ns.length R->Same H H'->H q=none->Q (.ref q) H'
def spSpPut (a:Adr): Sp:=fun vs H Q E=>∃(p x:Addr) (ns:List Int) (low task n:Int) (nd:Ix->Option Addr) (fp:List Addr) (cn:Nat),vs=[.ref p,.int n,.ref x]/\SpAt a H p ns low task nd fp cn/\cn < 100000/\(∃u,H x=some u) ∧
 (0<=n/\n < pgs ns->∀nd' fp' H',SpAt a H' p ns low task nd' fp' (cn+1)->Put nd (parts ns n) x nd'->L2.Fr fp fp' H H'->(∀b∈fp,b∈fp')->Q .non H')/\(¬(0<=n/\n < pgs ns)->E (.ref a.c_NoAddress) none H)
def spSpInit (a:Adr): Sp:=fun vs H Q _=>∃(p sh dx:Addr) (ns:List Int) (low task:Int),vs=[.ref p,.ref sh,.int task]/\H p=some (.ins a.c_Space dx [])/\ShAt a.c_Shape H sh ns low/\Good ns low ∧
 ∀top H',H top=none->SpAt a H' p ns low task (fun π=>if π=[] then some top else none) [top] 0->(∀b u,H b=some u->b≠p->H' b=some u)->Q .non H'
section
variable {P:Program}{w:World}{K:PySem.W.Frag}{mg:Str->Option Value}{base:Heap}{a:Adr}
theorem ok_Space_leaf {dvs:List V} (R:RawM K a.c_Space "leaf" "Space.leaf" s_Space_leaf ["self", "page"] dvs) (T:Txt w K mg a)
  (h_Tree_leaf:HasMe P w K mg base a.c_Tree 5 "leaf" ["self", "page"] (spTLeaf a) []) :
  HasMe P w K mg base a.c_Space 6 "leaf" ["self", "page"] (spSpLeaf a) dvs:=by
 refine R.ok sc_Space_leaf (fun vs H Q E h=>?_) (fun f cdv A outer s H vs Q E hr h=>?_)
 ·obtain⟨p,ns,low,task,n,nd,fp,cn,rfl,_⟩:=h
  rfl
 obtain⟨p,ns,low,task,n,nd,fp,cn,rfl,S,k1,k2⟩:=h
 refine⟨_,(@pss_one _ _ _ (@ps_ret _ _ _ _ (pe_me (pe_fld (pv 0) rfl) T.cl_Tree h_Tree_leaf (hr.mono (by decide)) pass_def (@pa_cn _ _ _ _ _ (pv 1) pa_nil rfl)))),?_⟩
 have t1:=T.cl_Space;have t2:=T.n_Space_tree;have t3:=T.cl_Tree
 obtain⟨dx,sh,tr,dt,sh2,top,dxs,ts,h1,h2,h3,h4,h4',h5,h6,h7,h8,h9,h10⟩:=S
 walk_at "go"
 exact k2
theorem ok_Space_rows {dvs:List V} (R:RawM K a.c_Space "rows" "Space.rows" s_Space_rows ["self"] dvs) (T:Txt w K mg a)
  (h_Tree_rows:HasMe P w K mg base a.c_Tree 2 "rows" ["self"] (spTRows a) []) :
  HasMe P w K mg base a.c_Space 3 "rows" ["self"] (spSpRows a) dvs:=by
 refine R.ok sc_Space_rows (fun vs H Q E h=>?_) (fun f cdv A outer s H vs Q E hr h=>?_)
 ·obtain⟨p,ns,low,task,nd,fp,cn,L,rfl,_⟩:=h
  rfl
 obtain⟨p,ns,low,task,nd,fp,cn,L,rfl,S,cv,l63,k⟩:=h
 refine⟨_,(@pss_one _ _ _ (@ps_ret _ _ _ _ (pe_me0 (pe_fld (pv 0) rfl) T.cl_Tree h_Tree_rows (hr.mono (by decide)) pass_def))),?_⟩
 have t1:=T.cl_Space;have t2:=T.n_Space_tree;have t3:=T.cl_Tree
 obtain⟨dx,sh,tr,dt,sh2,top,dxs,ts,h1,h2,h3,h4,h4',h5,h6,h7,h8,h9,h10⟩:=S
 walk_at "go"
 exact k
theorem ok_Space_put {dvs:List V} (R:RawM K a.c_Space "put" "Space.put" s_Space_put ["self", "page", "leaf"] dvs) (T:Txt w K mg a)
  (h_Tree_put:HasMe P w K mg base a.c_Tree 5 "put" ["self", "page", "leaf"] (spTPut a) []) :
  HasMe P w K mg base a.c_Space 6 "put" ["self", "page", "leaf"] (spSpPut a) dvs:=by
 refine R.ok sc_Space_put (fun vs H Q E h=>?_) (fun f cdv A outer s H vs Q E hr h=>?_)
 ·obtain⟨p,x,ns,low,task,n,nd,fp,cn,rfl,_⟩:=h
  rfl
 obtain⟨p,x,ns,low,task,n,nd,fp,cn,rfl,S,lc,hx,k1,k2⟩:=h
 refine⟨_,(@pss_one _ _ _ (ps_expr (pe_me (pe_fld (pv 0) rfl) T.cl_Tree h_Tree_put (hr.mono (by decide)) pass_def (@pa_cn _ _ _ _ _ (pv 1) (@pa_cn _ _ _ _ _ (pv 2) pa_nil rfl) rfl)))),?_⟩
 have t1:=T.cl_Space;have t2:=T.n_Space_tree;have t3:=T.cl_Tree
 obtain⟨dx,sh,tr,dt,sh2,top,dxs,ts,h1,h2,h3,h4,h4',h5,h6,h7,h8,h9,h10⟩:=S
 walk_at "go"
 refine⟨fun hn nd' fp' H' S' pt fr sub=>?_,k2⟩
 have e2:=L2.Fr.out fr h2 h8
 have e1:=L2.Fr.out fr h1 h6
 have e3:=L2.Fr.out fr h4 h9
 have e4:=L2.Fr.out fr h4' h10
 exact k1 hn nd' fp' H' ⟨dx,sh,tr,dt,sh2,top,dxs,ts,e1.1,e2.1,S',e3.1,e4.1,h5,e1.2,h7,e2.2,e3.2,e4.2⟩ pt fr sub
theorem ok_Space___init__ {dvs:List V} (R:RawI K a.c_Space "Space.__init__" s_Space___init__ ["self", "shape", "task"] dvs) (T:Txt w K mg a)
  (h_Tree___init__:HasMk P w K mg base a.c_Tree 1 ["self", "shape"] (spTInit a) []) :
  HasMk P w K mg base a.c_Space 3 ["self", "shape", "task"] (spSpInit a) dvs:=by
 refine R.ok sc_Space___init__ (fun vs H Q E h=>?_) (fun f cdv A outer s H vs Q E hr h=>?_)
 ·obtain⟨p,sh,dx,ns,low,task,rfl,_⟩:=h
  rfl
 obtain⟨p,sh,dx,ns,low,task,rfl,hp,S,g,k⟩:=h
 refine⟨_,(@pss_cons _ _ _ _ _ (ps_fld (pv 0) (pv 1) rfl)
   (@pss_cons _ _ _ _ _ (ps_fld (pv 0) (pv 2) rfl)
   (@pss_one _ _ _ (ps_fld (pv 0) (pe_mk h_Tree___init__ (hr.mono (by decide)) (by rfl) T.m_Tree pass_def (@pa_cn _ _ _ _ _ (pv 1) pa_nil rfl)) rfl)))),?_⟩
 have t1:=T.cl_Space;have t2:=T.n_Space_tree;have t3:=T.n_Space_shape;have t4:=T.n_Space_task;have t5:=T.cl_Tree
 walk_at "go"
 rw[pf_nil,pf_ne (by decide +kernel),pf_nil]
 generalize hh:upd _ p (.ins a.c_Space dx [("shape",.ref sh),("task",.int task)])=H1
 have hp1:H1 p=some (.ins a.c_Space dx [("shape",.ref sh),("task",.int task)]):=by rw[<-hh];exact upd_same
 have kp1:∀b,b≠p->H1 b=H b:=fun b nb=>by rw[<-hh,upd_ne nb,upd_ne nb]
 clear hh
 obtain⟨dxs,ts,hs,hw⟩:=id S
 have nps:sh≠p:=fun z=>by
  rw[<-z,hs] at hp
  injection hp with hp
  injection hp with _ _ hf
  have:=fldS_low ts low
  rw[hf] at this
  cases this
 have npt:ts≠p:=(ne_of hp hw (by intro z;cases z)).symm
 have S1:ShAt a.c_Shape H1 sh ns low:=⟨dxs,ts,by rw[kp1 _ nps];exact hs,by rw[kp1 _ npt];exact hw⟩
 refine fun y dy hy hdy nyd=>⟨y,sh,dy,ns,low,rfl,upd_same,?_,g,fun top H' ht TR keep=>⟨rfl,?_⟩⟩
 ·exact S1.same fun b u e=>by rw[upd_ne (ne_of_none e hy),upd_ne (ne_of_none e hdy)];exact e
 ·have npy:p≠y:=ne_of_none hp1 hy
  have kp2:∀b u,H1 b=some u->H' b=some u:=fun b u e=>keep b u (by rw[upd_ne (ne_of_none e hy),upd_ne (ne_of_none e hdy)];exact e) (ne_of_none e hy)
  have hp2:=kp2 _ _ hp1
  have z2:([("shape",.ref sh),("task",.int task)]:List (Str×V)).length < 1000:=by show 2 < 1000;decide
  walk_at "go"
  rw[pf_ne (by decide +kernel),pf_ne (by decide +kernel),pf_nil]
  obtain⟨dt,sh2,top2,q1,_,_⟩:=id TR.ob
  have ty:top≠y:=fun z=>by rw[z,upd_same] at ht;cases ht
  have t1n:H1 top=none:=by
   cases e:H1 top with
   | none=>rfl
   | some u =>
    have nd':top≠dy:=ne_of_none e hdy
    rw[upd_ne ty,upd_ne nd',e] at ht;cases ht
  have tp:top≠p:=fun z=>by rw[z,hp1] at t1n;cases t1n
  have nin:∀b u,H1 b=some u->b∉[top]:=fun b u e z=>by rw[List.mem_singleton.mp z,t1n] at e;cases e
  have hs1:H1 sh=some (.ins a.c_Shape dxs (fldS ts low)):=by rw[kp1 _ nps];exact hs
  have hw1:H1 ts=some (.tup (ns.map V.int)):=by rw[kp1 _ npt];exact hw
  refine k top _ (by rw[<-kp1 _ tp];exact t1n) ⟨dx,sh,y,dt,sh2,top2,dxs,ts,upd_same,by rw[upd_ne (Ne.symm npy)];exact q1,?_,by rw[upd_ne nps];exact kp2 _ _ hs1,by rw[upd_ne npt];exact kp2 _ _ hw1,g,nin _ _ hp1,npy,fun z=>ty (List.mem_singleton.mp z).symm,nin _ _ hs1,nin _ _ hw1⟩ fun b u e nb=>by rw[upd_ne nb];exact kp2 _ _ (by rw[kp1 _ nb];exact e)
  obtain⟨⟨dt',sh',top',r1,⟨dz,tz,r2,r3⟩,r4⟩,g',fu,ib⟩:=TR
  have nz:sh'≠p:=fun z=>by
   rw[z,hp2] at r2
   injection r2 with r2
   injection r2 with _ _ hf
   have:=fldS_low tz low
   rw[<-hf] at this
   have b1:(("low" : Str) == "shape")=false:=by decide +kernel
   have b2:(("low" : Str) == "task")=false:=by decide +kernel
   simp only [List.lookup,b1,b2] at this
   cases this
  have nt:tz≠p:=(ne_of hp2 r3 (by intro z;cases z)).symm
  exact⟨⟨dt',sh',top',by rw[upd_ne (Ne.symm npy)];exact r1,⟨dz,tz,by rw[upd_ne nz];exact r2,by rw[upd_ne nt];exact r3⟩,r4.keep fun b u e hb=>by rw[List.mem_singleton.mp hb] at e ⊢;rw[upd_ne tp];exact e⟩,g',fu,ib⟩
end
end K18

set_option maxHeartbeats 4000000
namespace K18
open PySem L2
theorem flt_same {H H2:Hp}{e d:Addr}{o:HO}(he:H e=none)(hd:upd H e o d=none)(k:∀b,b≠e->b≠d->H2 b=upd H e o b): Same H (del H2 e):=fun b u q=>by
 have n1:b≠e:=ne_of_none q he
 have n2:b≠d:=fun z=>by rw[<-z,upd_ne n1,q] at hd;cases hd
 rw[del_ne n1,k b n1 n2,upd_ne n1];exact q
def KeepN (H H':Hp): Prop:=∀b u,H b=some u->(∀kv:List (Key×V),u≠.dK kv)->H' b=some u
theorem KeepN.refl (H:Hp): KeepN H H:=fun _ _ e _=>e
theorem KeepN.same {H H':Hp}(s:Same H H'): KeepN H H':=fun b u e _=>s b u e
theorem KeepN.trans {H H' H'':Hp}(k:KeepN H H')(k':KeepN H' H''): KeepN H H'':=fun b u e h=>k' b u (k b u e h) h
theorem KeepN.lst {H H':Hp}(k:KeepN H H'){b:Addr}{xs:List V}(e:H b=some (.lst xs)): H' b=some (.lst xs):=k b _ e fun _ w=>by cases w
theorem KeepN.tup {H H':Hp}(k:KeepN H H'){b:Addr}{xs:List V}(e:H b=some (.tup xs)): H' b=some (.tup xs):=k b _ e fun _ w=>by cases w
theorem KeepN.ins {H H':Hp}(k:KeepN H H'){b C dx:Addr}{fs:List (Str×V)}(e:H b=some (.ins C dx fs)): H' b=some (.ins C dx fs):=k b _ e fun _ w=>by cases w
theorem KeepN.lf {a:Adr}{H H':Hp}(k:KeepN H H'){x:Addr}{g:Lf}(e:LfAt a H x g): LfAt a H' x g:=let ⟨dx,h⟩:=e;⟨dx,k.ins h⟩
theorem TrAt.keepN {a:Adr}{H H':Hp}{p:Addr}{ns:List Int}{low:Int}{nd:Ix->Option Addr}{fp fp':List Addr}{cn:Nat}(S:TrAt a H p ns low nd fp cn)(r:Fr fp fp' H H'): KeepN H H':=fun b u e h=>by
 obtain⟨⟨dx,sh,top,h1,h2,h3⟩,g,fu,ib⟩:=S
 exact r.1 b u e fun w=>by obtain⟨kv,e'⟩:=h3.lv b w;rw[e'] at e;cases e;exact h _ rfl
theorem Good.nn {ns:List Int}{low:Int}(g:Good ns low): ∀x∈ns,0<=x:=fun x hx=>by have:=(g.all x hx).1;omega
theorem span_pgs (ns:List Int): span ns=pgs ns:=rfl
theorem Good.apart {ns:List Int}{low:Int}(g:Good ns low){m n:Int}(m0:0<=m)(m1:m < pgs ns)(n0:0<=n)(n1:n < pgs ns)(h:m≠n): parts ns m≠parts ns n:=fun z=>h ((parts_inj g.nn m0 (by rw[span_pgs];exact m1) n0 (by rw[span_pgs];exact n1)).mp z)
theorem Put.page {ns:List Int}{low:Int}{nd nd':Ix->Option Addr}{x:Addr}{n m:Int}(g:Good ns low)(P:Put nd (parts ns n) x nd')(n0:0<=n)(n1:n < pgs ns)(m0:0<=m)(m1:m < pgs ns): nd' (parts ns m)=if m=n then some x else nd (parts ns m):=by
 by_cases c:m=n
 ·rw[if_pos c,c];exact P.at'
 ·rw[if_neg c]
  refine P.oth _ fun j z=>g.apart m0 m1 n0 n1 c ?_
  have l:=congrArg List.length z
  rw[List.length_take,parts_len,parts_len] at l
  rw[z,List.take_of_length_le (by rw[parts_len];omega)]
theorem SpAt.keepN {a:Adr}{H H':Hp}{p:Addr}{ns:List Int}{low task:Int}{nd:Ix->Option Addr}{fp fp':List Addr}{cn:Nat}(S:SpAt a H p ns low task nd fp cn)(r:L2.Fr fp fp' H H'): KeepN H H':=by
 obtain⟨dx,sh,tr,dt,sh2,top,dxs,ts,h1,h2,h3,_⟩:=S
 exact h3.keepN r
theorem SpAt.good {a:Adr}{H:Hp}{p:Addr}{ns:List Int}{low task:Int}{nd:Ix->Option Addr}{fp:List Addr}{cn:Nat}(S:SpAt a H p ns low task nd fp cn): Good ns low:=by
 obtain⟨dx,sh,tr,dt,sh2,top,dxs,ts,h1,h2,h3,h4,h4',h5,_⟩:=S
 exact h5
def laidM (M:Int->Option Addr)(n:Int)(xs:List Addr): Int->Option Addr:=fun m=>if n<=m/\m < n+xs.length then xs[(m-n).toNat]? else M m
theorem laidM_nil (M:Int->Option Addr)(n m:Int): laidM M n [] m=M m:=by
 unfold laidM
 rw[if_neg]
 rintro⟨h1,h2⟩
 simp at h2
 omega
theorem laidM_succ {M:Int->Option Addr}{n:Int}{xs:List Addr}{i:Nat}{x:Addr}(h:xs[i]?=some x)(m:Int): laidM M n (xs.take (i+1)) m=if m=n+i then some x else laidM M n (xs.take i) m:=by
 have il:=(List.getElem?_eq_some_iff.mp h).1
 have l1:(xs.take (i+1)).length=i+1:=by rw[List.length_take];omega
 have l2:(xs.take i).length=i:=by rw[List.length_take];omega
 unfold laidM
 rw[l1,l2]
 by_cases c:m=n+i
 ·rw[if_pos c,if_pos (by omega)]
  have e:(m-n).toNat=i:=by omega
  rw[e,List.getElem?_take_of_lt (by omega),h]
 ·rw[if_neg c]
  by_cases c2:n<=m/\m < n+i
  ·rw[if_pos c2,if_pos (by omega),List.getElem?_take_of_lt (by omega),List.getElem?_take_of_lt (by omega)]
  ·rw[if_neg c2,if_neg (by omega)]
theorem runL_at {n m:Int}{k i:Nat}(h:(runL n k)[i]?=some m): m=n+i/\i < k:=by
 unfold runL at h
 rw[List.getElem?_map] at h
 by_cases c:i < k
 ·rw[List.getElem?_range c] at h
  cases h
  exact⟨rfl,c⟩
 ·rw[List.getElem?_eq_none (by rw[List.length_range];omega)] at h
  cases h
theorem runL_len (n:Int)(k:Nat): (runL n k).length=k:=by unfold runL;rw[List.length_map,List.length_range]
def spSpLay (a:Adr): Sp:=fun vs H Q E=>∃(p l:Addr) (ns:List Int) (low task n:Int) (nd:Ix->Option Addr) (fp:List Addr) (cn:Nat) (xs:List Addr),vs=[.ref p,.int n,.ref l]/\SpAt a H p ns low task nd fp cn/\cn+xs.length < 100000/\H l=some (.lst (xs.map V.ref))/\(∀x∈xs,∃g,LfAt a H x g) ∧
 (¬Strt ns n xs.length->E (.ref a.c_NoStretch) none H) ∧
 (Strt ns n xs.length->∀(j:Nat) x,j < xs.length->(∀i:Nat,i < j->nd (parts ns (n+i))=none)->nd (parts ns (n+j))=some x->∀d H',H' d=some (xdW d [("page",.int (n+j))])->Same H H'->E (.ref a.c_Taken) (some d) H') ∧
 (Strt ns n xs.length->(∀i:Nat,i < xs.length->nd (parts ns (n+i))=none)->∀nd' fp' H',SpAt a H' p ns low task nd' fp' (cn+xs.length)->(∀m,0<=m->m < pgs ns->nd' (parts ns m)=laidM (fun m=>nd (parts ns m)) n xs m)->L2.Fr fp fp' H H'->(∀b∈fp,b∈fp')->Q .non H')
section
variable {P:Program}{w:World}{K:PySem.W.Frag}{mg:Str->Option Value}{base:Heap}{a:Adr}
theorem ok_Space_lay {dvs:List V} (R:RawM K a.c_Space "lay" "Space.lay" s_Space_lay ["self", "first", "leaves"] dvs) (T:Txt w K mg a)
  (h_Shape_stretch:HasMe P w K mg base a.c_Shape 2 "stretch" ["self", "first", "many"] (spStretch a) [])
  (h_Space_leaf:HasMe P w K mg base a.c_Space 6 "leaf" ["self", "page"] (spSpLeaf a) [])
  (h_Taken___init__:HasXi P w K mg base a.c_Taken 1 ["self", "page"] (spTakenI K) [])
  (h_Space_put:HasMe P w K mg base a.c_Space 6 "put" ["self", "page", "leaf"] (spSpPut a) []) :
  HasMe P w K mg base a.c_Space 7 "lay" ["self", "first", "leaves"] (spSpLay a) dvs:=by
 refine R.ok sc_Space_lay (fun vs H Q E h=>?_) (fun f cdv A outer s H vs Q E hr h=>?_)
 ·obtain⟨p,l,ns,low,task,n,nd,fp,cn,xs,rfl,_⟩:=h
  rfl
 obtain⟨p,l,ns,low,task,n,nd,fp,cn,xs,rfl,S,lc,hl,lx,k0,k1,k2⟩:=h
 refine⟨_,(@pss_cons _ _ _ _ _ (@ps_set _ _ 3 _ _ _ _ sc_Space_lay.nd rfl (by first | exact Or.inl rfl | exact Or.inr rfl) (pe_me (pe_fld (pv 0) rfl) T.cl_Shape h_Shape_stretch (hr.mono (by decide)) pass_def (@pa_cn _ _ _ _ _ (pv 1) (@pa_cn _ _ _ _ _ (pe_callB call_len_seq (by rfl) T.b_len PySem.boot_len (@pa_cn _ _ _ _ _ (pv 2) pa_nil rfl)) pa_nil rfl) rfl)) (by rfl) (by first | exact Or.inl rfl | exact Or.inr rfl))
   (@pss_cons _ _ _ _ _ (ps_for own_def rfl (pi_list (pv 3)) (pg_name (i:=4) sc_Space_lay.nd rfl (by first | exact Or.inl rfl | exact Or.inr rfl))
   (@pss_one _ _ _ (ps_if (pt_cmpR op_notN (pe_me (pv 0) T.cl_Space h_Space_leaf (hr.mono (by decide)) pass_def (@pa_cn _ _ _ _ _ (pv 4) pa_nil rfl)) pe_non (nomark _)) (@pss_one _ _ _ (ps_raiseX h_Taken___init__ (hr.mono (by decide)) rfl (by rfl) T.m_Taken pass_def (@pa_cn _ _ _ _ _ (pv 4) pa_nil rfl))) pss_nil)))
   (@pss_one _ _ _ (ps_for own_def rfl (pi_zip false false (by rfl) T.b_zip (pv 3) (pv 2)) (pg_tup (n:=2) rfl (pgs_cons (pg_name (i:=4) sc_Space_lay.nd rfl (by first | exact Or.inl rfl | exact Or.inr rfl)) (pgs_cons (pg_name (i:=5) sc_Space_lay.nd rfl (by first | exact Or.inl rfl | exact Or.inr rfl)) pgs_nil)))
   (@pss_one _ _ _ (ps_expr (pe_me (pv 0) T.cl_Space h_Space_put (hr.mono (by decide)) pass_def (@pa_cn _ _ _ _ _ (pv 4) (@pa_cn _ _ _ _ _ (pv 5) pa_nil rfl) rfl)))))))),?_⟩
 have t1:=T.cl_Space;have t2:=T.n_Space_tree;have t3:=T.n_Space_shape
 have SA:=S
 obtain⟨dx,sh,tr,dt,sh2,top,dxs,ts,h1,h2,h3,h4,h4',h5,h6,h7,h8,h9,h10⟩:=S
 have SH:ShAt a.c_Shape H sh ns low:=⟨dxs,ts,h4,h4'⟩
 have t5:=T.cl_Shape
 have xl:(xs.map V.ref).length=xs.length:=List.length_map ..
 walk_at "go"
 rw[xl]
 refine⟨fun st q H1 s1 e1 hq=>?_,k0⟩
 rw[Int.toNat_natCast] at e1
 have zr:[V.int n].length<=sizeLine:=by rw[sizeLine_eq];show 1<=_;decide
 have st2:=st.2
 walk_at "go"
 refine for_list (xs:=(runL n xs.length).map V.int) (fun i σ H'=>Bx ((∃v4 v5,σ=[some (.ref p),some (.int n),some (.ref l),some (.ref q),v4,v5])/\(∀j:Nat,j < i->nd (parts ns (n+j))=none)/\(∀b u,H1 b=some u->H' b=some u))) ⟨⟨⟨_,_,rfl⟩,fun j z=>absurd z (Nat.not_lt_zero _),fun _ _ e=>e⟩⟩ (fun i σ H' _ z=>SqL.of (z.o.2.2 _ _ e1)) ?_ ?_
 ·rintro i x σ H2 hx ⟨⟨v4,v5,rfl⟩,fr,s2⟩
  obtain⟨m,rfl,hm⟩:=mem_ints hx
  obtain⟨rfl,il⟩:=runL_at hm
  have s02:Same H H2:=s1.trans s2
  have SA2:=SA.same s02
  have h12:=s02 _ _ h1
  have pin:0<=n+(i:Int)/\n+(i:Int) < pgs ns:=by omega
  walk_at "go"
  refine⟨fun _ H3 s3=>?_,fun z=>absurd pin z⟩
  cases hx:nd (parts ns (n+i)) with
  | none =>
   have nv:ndV none=.non:=rfl
   walk_at "go"
   refine⟨⟨⟨_,_,rfl⟩,fun j hj=>?_,fun b u e=>s3 _ _ (s2 _ _ e)⟩⟩
   by_cases c:j=i
   ·rw[c];exact hx
   ·exact fr j (by omega)
  | some x =>
   have xo:=XO.of T.xl_Taken;have x1:=T.xs_Taken_page
   have zr:[V.int (n+(i:Int))].length<=sizeLine:=by rw[sizeLine_eq];show 1<=_;decide
   have nv:ndV (some x)=.ref x:=rfl
   walk_at "go"
   refine fun e he=>⟨e,a.c_Taken,.int (n+(i:Int)),rfl,upd_same,xo,x1,fun d H4 hd ne q1 q2 q3=>⟨rfl,some d,q1,?_⟩⟩
   exact k1 st i x il fr hx d (del H4 e) (by rw[del_ne ne];exact q2) ((s02.trans s3).trans (flt_same he hd q3))
 ·rintro σ H2 ⟨⟨v4,v5,rfl⟩,fr,s2⟩
  rw[List.length_map,runL_len] at fr
  have s02:Same H H2:=s1.trans s2
  have e12:H2 q=_:=s2 _ _ e1
  have hl2:=s02 _ _ hl
  walk_at "go"
  refine⟨SqL.of e12,SqL.of hl2,?_⟩
  refine for_zip (xs:=(runL n xs.length).map V.int) (ys:=xs.map V.ref) xs.length (by rw[List.length_map,runL_len]) xl (fun i σ H'=>Bx (∃v4 v5 nd' fp',σ=[some (.ref p),some (.int n),some (.ref l),some (.ref q),v4,v5]/\SpAt a H' p ns low task nd' fp' (cn+i)/\(∀m,0<=m->m < pgs ns->nd' (parts ns m)=laidM (fun m=>nd (parts ns m)) n (xs.take i) m)/\L2.Fr fp fp' H H'/\(∀b∈fp,b∈fp')/\KeepN H2 H')) ⟨⟨_,_,nd,fp,rfl,SA.same s02,fun m _ _=>(laidM_nil (fun m=>nd (parts ns m)) n m).symm,L2.Fr.same s02,fun b hb=>hb,KeepN.refl _⟩⟩ (fun i σ H' _ z=>?_) ?_ ?_
  ·obtain⟨v4,v5,nd',fp',_,_,_,_,_,kn⟩:=z.o
   exact⟨SqL.of (kn.lst e12),SqL.of (kn.lst hl2)⟩
  ·rintro i x y σ H3 tu hx hy ⟨v4,v5,nd',fp',rfl,SA3,pv,fr3,sub,kn⟩ htu
   obtain⟨m,rfl,hm⟩:=mem_ints hx
   obtain⟨rfl,il⟩:=runL_at hm
   rw[List.getElem?_map,Option.map_eq_some_iff] at hy
   obtain⟨x,hy,rfl⟩:=hy
   have pin:0<=n+(i:Int)/\n+(i:Int) < pgs ns:=by omega
   have s4:=same_upd (u:=.tup [.int (n+(i:Int)),.ref x]) htu
   have e4:upd H3 tu (.tup [.int (n+(i:Int)),.ref x]) tu=some (.tup [.int (n+(i:Int)),.ref x]):=upd_same
   generalize upd H3 tu (.tup [.int (n+(i:Int)),.ref x])=H4 at s4 e4
   have SA4:=SA3.same s4
   obtain⟨gx,lf⟩:=lx x (List.mem_of_getElem? hy)
   obtain⟨dl,lf4⟩:=(kn.lf (lf.same s02)).same s4
   have h14:=s4 _ _ (kn.ins (s02 _ _ h1))
   have lc2:cn+i < 100000:=by omega
   have lv4:∃u,H4 x=some u:=⟨_,lf4⟩
   walk_at "go"
   refine⟨fun _ nd'' fp'' H5 SA5 pt fr5 sub5=>?_,fun z=>absurd pin z⟩
   refine⟨⟨_,_,nd'',fp'',rfl,SA5,fun m m0 m1=>?_,(fr3.trans (L2.Fr.same s4)).trans fr5,fun b hb=>sub5 _ (sub _ hb),(kn.trans (KeepN.same s4)).trans (SA4.keepN fr5)⟩⟩
   rw[pt.page h5 pin.1 pin.2 m0 m1,laidM_succ hy,pv m m0 m1]
  ·rintro σ H3 ⟨v4,v5,nd',fp',rfl,SA3,pv,fr3,sub,kn⟩
   rw[List.take_length] at pv
   walk_at "go"
   exact k2 st fr nd' fp' H3 SA3 pv fr3 sub
end
end K18

set_option maxHeartbeats 4000000
namespace K18
open PySem L2
theorem comp_listI {K:PySem.W.Frag}{l acc:Addr}{xs:List V}{k:Nat}{te:TE}{σ:St}{H1:Hp}{QH:Hp->Prop}(I:Nat->List V->Hp->Prop)(hn:xs.length < sizeLine)(h0:I 0 [] (upd H1 acc (.lst [])))
  (sm:∀i ys H2,I i ys H2->H2 acc=some (.lst ys)/\SqL K H2 l xs/\ys.length=i)
  (he:∀(i:Nat) (x:V) (ys:List V) (H2:Hp),xs[i]?=some x->I i ys H2->∀R:VK,(∀v H6,H6 acc=some (.lst ys)->I (i+1) (ys++[v]) (upd H6 acc (.lst (ys++[v])))->R v H6)->te (some x::σ) H2 R)
  (q:∀ys H2,I xs.length ys H2->QH H2) (hk:k=1:=by rfl):∃(W:Nat->List V->Hp->Prop) (n':Nat),W 0 [] (upd H1 acc (.lst [])) ∧
 ∀i ys H2,W i ys H2->H2 acc=some (.lst ys)/\ys.length < sizeLine/\((i=n'/\(Itl K l).stop i H2/\QH H2)\/(i < n'/\(Itl K l).go i H2/\∀x H3,(Itl K l).yld i H2 x H3->∀τ:St,τ.length=k->(gName 0) x (τ++σ) H3 fun τ2 H4 =>
  (∃τ':St,τ'.length=k/\τ2=τ'++σ)/\tTrue τ2 H4 fun b H5=>if b=true then te τ2 H5 fun v H6=>H6 acc=some (.lst ys)/\W (i+1) (ys++[v]) (upd H6 acc (.lst (ys++[v]))) else W (i+1) ys H5)):=by
 subst hk
 refine⟨fun i ys H2=>i<=xs.length/\I i ys H2,xs.length,⟨Nat.zero_le _,h0⟩,?_⟩
 rintro i ys H2 ⟨hi,hI⟩
 obtain⟨m1,m2,m3⟩:=sm i ys H2 hI
 refine⟨m1,by omega,?_⟩
 by_cases hlt:i < xs.length
 ·refine .inr ⟨hlt,⟨xs,xs[i],m2,by simp[hlt]⟩,?_⟩
  rintro x H3 ⟨rfl,hx⟩ τ hτ
  have hx:=hx xs m2
  obtain⟨t,rfl⟩:∃t,τ=[t]:=by
   match τ,hτ with
   | [t],_=>exact⟨t,rfl⟩
  refine⟨⟨[some x],rfl,rfl⟩,?_⟩
  unfold tTrue
  simp only [if_true]
  exact he i x ys _ hx hI _ fun v H6 e1 e2=>⟨e1,hlt,e2⟩
 ·have e:i=xs.length:=by omega
  subst e
  exact .inl ⟨rfl,⟨xs,m2,Nat.le_refl _⟩,q ys H2 hI⟩
theorem comp_rangeI {lo:Int}{n k:Nat}{acc:Addr}{te:TE}{σ:St}{H1:Hp}{QH:Hp->Prop}(I:Nat->List V->Hp->Prop)(hn:n < sizeLine)(h0:I 0 [] (upd H1 acc (.lst [])))
  (sm:∀i ys H2,I i ys H2->H2 acc=some (.lst ys)/\ys.length=i)
  (he:∀(i:Nat) (ys:List V) (H2:Hp),i < n->I i ys H2->∀R:VK,(∀v H6,H6 acc=some (.lst ys)->I (i+1) (ys++[v]) (upd H6 acc (.lst (ys++[v])))->R v H6)->te (some (.int (lo+i))::σ) H2 R)
  (q:∀ys H2,I n ys H2->QH H2) (hk:k=1:=by rfl):∃(W:Nat->List V->Hp->Prop) (n':Nat),W 0 [] (upd H1 acc (.lst [])) ∧
 ∀i ys H2,W i ys H2->H2 acc=some (.lst ys)/\ys.length < sizeLine/\((i=n'/\(Itr lo n).stop i H2/\QH H2)\/(i < n'/\(Itr lo n).go i H2/\∀x H3,(Itr lo n).yld i H2 x H3->∀τ:St,τ.length=k->(gName 0) x (τ++σ) H3 fun τ2 H4 =>
  (∃τ':St,τ'.length=k/\τ2=τ'++σ)/\tTrue τ2 H4 fun b H5=>if b=true then te τ2 H5 fun v H6=>H6 acc=some (.lst ys)/\W (i+1) (ys++[v]) (upd H6 acc (.lst (ys++[v]))) else W (i+1) ys H5)):=by
 subst hk
 refine⟨fun i ys H2=>i<=n/\I i ys H2,n,⟨Nat.zero_le _,h0⟩,?_⟩
 rintro i ys H2 ⟨hi,hI⟩
 obtain⟨m1,m3⟩:=sm i ys H2 hI
 refine⟨m1,by omega,?_⟩
 by_cases hlt:i < n
 ·refine .inr ⟨hlt,hlt,?_⟩
  rintro x H3 ⟨rfl,hx⟩ τ hτ
  subst hx
  obtain⟨t,rfl⟩:∃t,τ=[t]:=by
   match τ,hτ with
   | [t],_=>exact⟨t,rfl⟩
  refine⟨⟨[some (.int (lo+i))],rfl,rfl⟩,?_⟩
  unfold tTrue
  simp only [if_true]
  exact he i ys _ hlt hI _ fun v H6 e1 e2=>⟨e1,hlt,e2⟩
 ·have e:i=n:=by omega
  subst e
  exact .inl ⟨rfl,Nat.le_refl _,q ys H2 hI⟩
theorem datAll_of {K:PySem.W.Frag}{H:Hp}: ∀{xs:List V} {ds:List PyData},xs.length=ds.length->(∀(i:Nat) x d,xs[i]?=some x->ds[i]?=some d->DatV K H x d)->DatAll K H xs ds
 | [],[],_,_=>.nil
 | [],_::_,h,_=>by cases h
 | _::_,[],h,_=>by cases h
 | x::xs,d::ds,h,f=>.cons (f 0 x d rfl rfl) (datAll_of (Nat.succ.inj h) fun i x d e1 e2=>f (i+1) x d (by simpa using e1) (by simpa using e2))
theorem fs_one {g g':Lf}(h:g.fs=g'.fs): g=g':=by
 have n1:¬(("frame" : Str) = "slot"):=by decide +kernel
 have n2:¬(("slot" : Str) = "frame"):=by decide +kernel
 cases g<;>cases g'<;>unfold Lf.fs at h<;>simp only [List.cons.injEq,Prod.mk.injEq,V.int.injEq,V.str.injEq,true_and,and_true,reduceCtorEq,and_false,n1,n2,false_and] at h
 ·rw[h]
 ·rw[h.1,h.2]
 ·rw[h.1,h.2]
 ·rw[h.1,h.2.1,h.2.2]
theorem lf_one {a:Adr}{H:Hp}{x:Addr}{g g':Lf}(h:LfAt a H x g)(h':LfAt a H x g'): g=g':=by
 obtain⟨d,e⟩:=h
 obtain⟨d',e'⟩:=h'
 rw[e] at e'
 injection e' with e'
 injection e' with _ _ ef
 exact fs_one ef
def KeepL (H H':Hp): Prop:=∀b u,H b=some u->(∀zs:List V,u≠.lst zs)->H' b=some u
theorem KeepL.upd {H:Hp}{l:Addr}{xs:List V}{u:HO}(h:H l=some (.lst xs)): KeepL H (upd H l u):=fun b v e n=>by
 rw[upd_ne fun z=>by rw[z,h] at e;cases e;exact n _ rfl];exact e
theorem KeepL.ins {H H':Hp}(k:KeepL H H'){b C dx:Addr}{fs:List (Str×V)}(e:H b=some (.ins C dx fs)): H' b=some (.ins C dx fs):=k b _ e fun _ w=>by cases w
theorem KeepL.tup {H H':Hp}(k:KeepL H H'){b:Addr}{xs:List V}(e:H b=some (.tup xs)): H' b=some (.tup xs):=k b _ e fun _ w=>by cases w
theorem KeepL.dK {H H':Hp}(k:KeepL H H'){b:Addr}{xs:List (Key×V)}(e:H b=some (.dK xs)): H' b=some (.dK xs):=k b _ e fun _ w=>by cases w
theorem KeepL.lf {a:Adr}{H H':Hp}(k:KeepL H H'){x:Addr}{g:Lf}(e:LfAt a H x g): LfAt a H' x g:=let ⟨dx,h⟩:=e;⟨dx,k.ins h⟩
theorem SpAt.keepL {a:Adr}{H H':Hp}{p:Addr}{ns:List Int}{low task:Int}{nd:Ix->Option Addr}{fp:List Addr}{cn:Nat}(S:SpAt a H p ns low task nd fp cn)(k:KeepL H H'): SpAt a H' p ns low task nd fp cn:=by
 obtain⟨dx,sh,tr,dt,sh2,top,dxs,ts,h1,h2,h3,h4,h4',h5⟩:=S
 refine⟨dx,sh,tr,dt,sh2,top,dxs,ts,k.ins h1,k.ins h2,?_,k.ins h4,k.tup h4',h5⟩
 obtain⟨⟨dy,sh,top,q1,⟨dz,tz,q2,q3⟩,q4⟩,g,fu,ib⟩:=h3
 exact⟨⟨dy,sh,top,k.ins q1,⟨dz,tz,k.ins q2,k.tup q3⟩,q4.keep fun b u e m=>by obtain⟨kv,e'⟩:=q4.lv b m;rw[e] at e';cases e';exact k.dK e⟩,g,fu,ib⟩
theorem SpAt.tr {a:Adr}{H:Hp}{p:Addr}{ns:List Int}{low task:Int}{nd:Ix->Option Addr}{fp:List Addr}{cn:Nat}(S:SpAt a H p ns low task nd fp cn): ∃dx sh tr dt sh2 top,H p=some (.ins a.c_Space dx [("shape",.ref sh),("task",.int task),("tree",.ref tr)]) ∧
  H tr=some (.ins a.c_Tree dt [("shape",.ref sh2),("top",.ref top)])/\TrAt a H tr ns low nd fp cn/\ShAt a.c_Shape H sh ns low/\∀nd' fp' cn' H',TrAt a H' tr ns low nd' fp' cn'->L2.Fr fp fp' H H'->SpAt a H' p ns low task nd' fp' cn':=by
 obtain⟨dx,sh,tr,dt,sh2,top,dxs,ts,h1,h2,h3,h4,h4',h5,h6,h7,h8,h9,h10⟩:=S
 refine⟨dx,sh,tr,dt,sh2,top,h1,h2,h3,⟨dxs,ts,h4,h4'⟩,fun nd' fp' cn' H' S' fr=>?_⟩
 have e2:=L2.Fr.out fr h2 h8
 have e1:=L2.Fr.out fr h1 h6
 have e3:=L2.Fr.out fr h4 h9
 have e4:=L2.Fr.out fr h4' h10
 exact⟨dx,sh,tr,dt,sh2,top,dxs,ts,e1.1,e2.1,S',e3.1,e4.1,h5,e1.2,h7,e2.2,e3.2,e4.2⟩
theorem SpAt.mono {a:Adr}{H:Hp}{p:Addr}{ns:List Int}{low task:Int}{nd:Ix->Option Addr}{fp:List Addr}{cn cn':Nat}(S:SpAt a H p ns low task nd fp cn)(h:cn<=cn'): SpAt a H p ns low task nd fp cn':=by
 obtain⟨dx,sh,tr,dt,sh2,top,dxs,ts,h1,h2,⟨⟨dy,sh',top',q1,q2,q3⟩,g,fu,ib⟩,r⟩:=S
 exact⟨dx,sh,tr,dt,sh2,top,dxs,ts,h1,h2,⟨⟨dy,sh',top',q1,q2,q3.mono h⟩,g,fu,ib⟩,r⟩
theorem Gone.page {ns:List Int}{low:Int}{nd nd':Ix->Option Addr}{n m:Int}(g:Good ns low)(G:Gone ns.length nd (parts ns n) nd')(n0:0<=n)(n1:n < pgs ns)(m0:0<=m)(m1:m < pgs ns): nd' (parts ns m)=if m=n then none else nd (parts ns m):=by
 by_cases c:m=n
 ·rw[if_pos c,c];exact G.no
 ·rw[if_neg c]
  exact G.oth _ (parts_len ns m) (g.apart m0 m1 n0 n1 c)
def goneM (M:Int->Option Addr)(n k:Int): Int->Option Addr:=fun m=>if n<=m/\m < n+k then none else M m
def Hole (ns:List Int)(nd:Ix->Option Addr)(n:Int)(j:Nat): Prop:=(∀i:Nat,i < j->(nd (parts ns (n+i))).isSome=true)/\nd (parts ns (n+j))=none
def spCheckM (a:Adr): Sp:=fun vs H Q E=>∃(p l:Addr) (ns:List Int) (low task n:Int) (kk:Nat) (dd:Str) (nd:Ix->Option Addr) (fp:List Addr) (cn:Nat),vs=[.ref p,.ref l,.str dd]/\SpAt a H p ns low task nd fp cn/\H l=some (.lst ((runL n kk).map V.int))/\0<=n/\n+kk<=pgs ns ∧
 (∀j:Nat,j < kk->Hole ns nd n j->∀d H',H' d=some (xdW d (fltF (.int task) (.int ((n+j)*plc low)) (.str dd)))->Same H H'->E (.ref a.c_Unmapped) (some d) H') ∧
 ((∀i:Nat,i < kk->(nd (parts ns (n+i))).isSome=true)->∀H',Same H H'->Q .non H')
def spLift (a:Adr): Sp:=fun vs H Q E=>∃(p:Addr) (ns:List Int) (low task n m:Int) (nd:Ix->Option Addr) (fp:List Addr) (cn:Nat),vs=[.ref p,.int n,.int m]/\SpAt a H p ns low task nd fp cn ∧
 (¬Strt ns n m->E (.ref a.c_NoStretch) none H) ∧
 (Strt ns n m->∀j:Nat,(j:Int) < m->Hole ns nd n j->∀d H',H' d=some (xdW d (fltF (.int task) (.int ((n+j)*plc low)) (.str "unmap")))->Same H H'->E (.ref a.c_Unmapped) (some d) H') ∧
 (Strt ns n m->∀xs:List Addr,(xs.length:Int)=m->(∀(i:Nat) x,xs[i]?=some x->nd (parts ns (n+i))=some x)->∀q nd' H',SpAt a H' p ns low task nd' fp cn->H' q=some (.lst (xs.map V.ref))->(∀m',0<=m'->m' < pgs ns->nd' (parts ns m')=goneM (fun m=>nd (parts ns m)) n m m')->L2.Fr fp fp H H'->H q=none->Q (.ref q) H')
def spChange (a:Adr): Sp:=fun vs H Q E=>∃(p:Addr) (ns:List Int) (low task n m r:Int) (nd:Ix->Option Addr) (fp:List Addr) (cn:Nat),vs=[.ref p,.int n,.int m,.int r]/\SpAt a H p ns low task nd fp cn/\cn < 90000/\(∀(i:Nat) x,(i:Int) < m->nd (parts ns (n+i))=some x->∃g,LfAt a H x g) ∧
 (¬Strt ns n m->E (.ref a.c_NoStretch) none H) ∧
 (Strt ns n m->¬OkR r->∀H',Same H H'->E (.ref a.c_NoRights) none H') ∧
 (Strt ns n m->OkR r->∀j:Nat,(j:Int) < m->Hole ns nd n j->∀d H',H' d=some (xdW d (fltF (.int task) (.int ((n+j)*plc low)) (.str "rights")))->Same H H'->E (.ref a.c_Unmapped) (some d) H') ∧
 (Strt ns n m->OkR r->(∀i:Nat,(i:Int) < m->(nd (parts ns (n+i))).isSome=true)->∀(ys:List Addr) nd' fp' H',(ys.length:Int)=m->SpAt a H' p ns low task nd' fp' (cn+64)->(∀(i:Nat) x y g,nd (parts ns (n+i))=some x->LfAt a H x g->ys[i]?=some y->LfAt a H' y (g.withR r))->(∀m',0<=m'->m' < pgs ns->nd' (parts ns m')=laidM (fun m=>nd (parts ns m)) n ys m')->L2.Fr fp fp' H H'->(∀b∈fp,b∈fp')->Q .non H')
theorem laidM_snoc (M:Int->Option Addr)(n:Int)(ys:List Addr)(y:Addr)(m:Int): laidM M n (ys++[y]) m=if m=n+ys.length then some y else laidM M n ys m:=by
 have h:=laidM_succ (M:=M) (n:=n) (xs:=ys++[y]) (i:=ys.length) (x:=y) (by rw[List.getElem?_append_right (Nat.le_refl _),Nat.sub_self];rfl) m
 rw[List.take_of_length_le (by rw[List.length_append];exact Nat.le_refl _),List.take_left' rfl] at h
 exact h
theorem laidM_at (M:Int->Option Addr)(n:Int)(ys:List Addr): laidM M n ys (n+ys.length)=M (n+ys.length):=by
 unfold laidM
 rw[if_neg (by omega)]
section
variable {P:Program}{w:World}{K:PySem.W.Frag}{mg:Str->Option Value}{base:Heap}{a:Adr}
theorem ok_Space_check_mapped {dvs:List V} (R:RawM K a.c_Space "check_mapped" "Space.check_mapped" s_Space_check_mapped ["self", "pages", "deed"] dvs) (T:Txt w K mg a)
  (h_Space_leaf:HasMe P w K mg base a.c_Space 6 "leaf" ["self", "page"] (spSpLeaf a) [])
  (h_Unmapped___init__:HasXi P w K mg base a.c_Unmapped 1 ["self", "task", "address", "deed"] (spFaultI K) [])
  (h_Shape_address_of:HasMe P w K mg base a.c_Shape 2 "address_of" ["self", "page", "place"] (spAddrOf a) []) :
  HasMe P w K mg base a.c_Space 7 "check_mapped" ["self", "pages", "deed"] (spCheckM a) dvs:=by
 refine R.ok sc_Space_check_mapped (fun vs H Q E h=>?_) (fun f cdv A outer s H vs Q E hr h=>?_)
 ·obtain⟨p,l,ns,low,task,n,kk,dd,nd,fp,cn,rfl,_⟩:=h
  rfl
 obtain⟨p,l,ns,low,task,n,kk,dd,nd,fp,cn,rfl,S,hl,n0,n1,k1,k2⟩:=h
 refine⟨_,(@pss_one _ _ _ (ps_for own_def rfl (pi_list (pv 1)) (pg_name (i:=3) sc_Space_check_mapped.nd rfl (by first | exact Or.inl rfl | exact Or.inr rfl))
   (@pss_one _ _ _ (ps_if (pt_cmpR op_isN (pe_me (pv 0) T.cl_Space h_Space_leaf (hr.mono (by decide)) pass_def (@pa_cn _ _ _ _ _ (pv 3) pa_nil rfl)) pe_non (nomark _)) (@pss_one _ _ _ (ps_raiseX h_Unmapped___init__ (hr.mono (by decide)) rfl (by rfl) T.m_Unmapped pass_def (@pa_cn _ _ _ _ _ (pe_fld (pv 0) rfl) (@pa_cn _ _ _ _ _ (pe_me (pe_fld (pv 0) rfl) T.cl_Shape h_Shape_address_of (hr.mono (by decide)) pass_def (@pa_cn _ _ _ _ _ (pv 3) (@pa_cn _ _ _ _ _ pe_int pa_nil rfl) rfl)) (@pa_cn _ _ _ _ _ (pv 2) pa_nil rfl) rfl) rfl))) pss_nil)))),?_⟩
 have t1:=T.cl_Space;have t2:=T.n_Space_shape;have t3:=T.n_Space_task;have t5:=T.cl_Shape
 have SA:=S
 obtain⟨dx,sh,tr,dt,sh2,top,h1,h2,h3,h4,_⟩:=S.tr
 have gd:=SA.good
 have pp:0 < plc low:=plc_pos low
 walk_at "go"
 refine for_list (xs:=(runL n kk).map V.int) (fun i σ H'=>Bx ((∃v3,σ=[some (.ref p),some (.ref l),some (.str dd),v3])/\(∀j:Nat,j < i->(nd (parts ns (n+j))).isSome=true)/\(∀b u,H b=some u->H' b=some u))) ⟨⟨⟨_,rfl⟩,fun j z=>absurd z (Nat.not_lt_zero _),fun _ _ e=>e⟩⟩ (fun i σ H' _ z=>SqL.of (z.o.2.2 _ _ hl)) ?_ ?_
 ·rintro i x σ H2 hx ⟨⟨v3,rfl⟩,fr,s2⟩
  obtain⟨m,rfl,hm⟩:=mem_ints hx
  obtain⟨rfl,il⟩:=runL_at hm
  have s02:Same H H2:=s2
  have SA2:=SA.same s02
  have h12:=s02 _ _ h1
  have pin:0<=n+(i:Int)/\n+(i:Int) < pgs ns:=by omega
  walk_at "go"
  refine⟨fun _ H3 s3=>?_,fun z=>absurd pin z⟩
  have h13:=s3 _ _ h12
  have h43:=(h4.same s02).same s3
  cases hx:nd (parts ns (n+i)) with
  | none =>
   have nv:ndV none=.non:=rfl
   obtain⟨dxs,ts,hs,hw⟩:=id h43
   walk_at "go"
   refine⟨fun _=>?_,fun z=>absurd ⟨pin,Int.le_refl _,pp⟩ z⟩
   have xo:=XO.of T.xl_Unmapped;have x1:=T.xs_Unmapped_task;have x2:=T.xs_Unmapped_address;have x3:=T.xs_Unmapped_deed
   have zr:[V.int task,V.int ((n+(i:Int))*plc low+0),V.str dd].length<=sizeLine:=by rw[sizeLine_eq];show 3<=_;decide
   walk_at "go"
   refine fun e he=>⟨e,a.c_Unmapped,.int task,.int ((n+(i:Int))*plc low+0),.str dd,rfl,upd_same,xo,x1,x2,x3,fun d H4 hd ne q1 q2 q3=>⟨rfl,some d,q1,?_⟩⟩
   rw[Int.add_zero] at q2
   exact k1 i il ⟨fr,hx⟩ d (del H4 e) (by rw[del_ne ne];exact q2) ((s02.trans s3).trans (flt_same he hd q3))
  | some x =>
   have nv:ndV (some x)=.ref x:=rfl
   walk_at "go"
   refine⟨⟨⟨_,rfl⟩,fun j hj=>?_,fun b u e=>s3 _ _ (s2 _ _ e)⟩⟩
   by_cases c:j=i
   ·rw[c,hx];rfl
   ·exact fr j (by omega)
 ·rintro σ H2 ⟨⟨v3,rfl⟩,fr,s2⟩
  rw[List.length_map,runL_len] at fr
  walk_at "go"
  exact k2 fr H2 s2
theorem ok_Space_lift {dvs:List V} (R:RawM K a.c_Space "lift" "Space.lift" s_Space_lift ["self", "first", "many"] dvs) (T:Txt w K mg a)
  (h_Shape_stretch:HasMe P w K mg base a.c_Shape 2 "stretch" ["self", "first", "many"] (spStretch a) [])
  (h_Space_check_mapped:HasMe P w K mg base a.c_Space 7 "check_mapped" ["self", "pages", "deed"] (spCheckM a) [])
  (h_Tree_drop:HasMe P w K mg base a.c_Tree 5 "drop" ["self", "page"] (spTDrop a) []) :
  HasMe P w K mg base a.c_Space 8 "lift" ["self", "first", "many"] (spLift a) dvs:=by
 refine R.ok sc_Space_lift (fun vs H Q E h=>?_) (fun f cdv A outer s H vs Q E hr h=>?_)
 ·obtain⟨p,ns,low,task,n,m,nd,fp,cn,rfl,_⟩:=h
  rfl
 obtain⟨p,ns,low,task,n,m,nd,fp,cn,rfl,S,k0,k1,k2⟩:=h
 refine⟨_,(pss_cons (ps_set (i:=3) sc_Space_lift.nd rfl (by first | exact Or.inl rfl | exact Or.inr rfl) (pe_me (pe_fld (pv 0) rfl) T.cl_Shape h_Shape_stretch (hr.mono (by decide)) pass_def (pa_cn (pv 1) (pa_cn (pv 2) pa_nil rfl) rfl)))
   (pss_cons (ps_expr (pe_me (pv 0) T.cl_Space h_Space_check_mapped (hr.mono (by decide)) pass_def (pa_cn (pv 3) (pa_cn pe_str pa_nil rfl) rfl)))
   (pss_one (ps_ret (pe_comp (xs:=["page"]) (N':=["self", "first", "many", "pages"]) rfl ⟨rfl,by decide +kernel,by decide +kernel,by dsimp only [cxOf,PyProof.Rows.envOfC];decide +kernel,by decide +kernel,by dsimp only [cxOf];decide +kernel,rfl⟩ (pi_list (pv 3)) (fun _ _ _ _ _=>(pg_name (i:=0) (by dsimp only [cxComp];decide +kernel) rfl (by first | exact Or.inl rfl | exact Or.inr rfl))) (fun _ _ _ _ _=>pts_nil) (fun _ _ _ _ _=>(pe_me (pe_fldK (K:=K) rfl (pv 1) rfl) T.cl_Tree h_Tree_drop (hr.mono (by decide)) pass_none (pa_cn (pv 0) pa_nil rfl)))))))),?_⟩
 have t1:=T.cl_Space;have t2:=T.n_Space_shape;have t3:=T.n_Space_tree;have t5:=T.cl_Shape;have t6:=T.cl_Tree
 have SA:=S
 obtain⟨dx,sh,tr,dt,sh2,top,h1,h2,h3,h4,_⟩:=S.tr
 obtain⟨dxs,ts,hs,hw⟩:=id h4
 have gd:=SA.good
 walk_at "go"
 refine⟨fun st q H1 s1 e1 hq=>?_,k0⟩
 obtain⟨kk,rfl⟩:∃kk:Nat,m=(kk:Int):=⟨m.toNat,by have:=st.1.1;omega⟩
 rw[Int.toNat_natCast] at e1
 have st0:=st.2.1
 have st1:=st.2.2
 have st64:=st.1.2
 have SA1:=SA.same s1
 have h11:=s1 _ _ h1
 walk_at "go"
 refine⟨fun j jl ho d H2 hd s2=>k1 st j (by omega) ho d H2 hd (s1.trans s2),fun all H2 s2=>?_⟩
 have e2:=s2 _ _ e1
 have s02:=s1.trans s2
 obtain⟨xs,xl,xa⟩:∃xs:List Addr,xs.length=kk/\∀(i:Nat) x,xs[i]?=some x->nd (parts ns (n+i))=some x:=by
  refine⟨(List.range kk).map fun i:Nat=>(nd (parts ns (n+(i:Int)))).getD 0,by rw[List.length_map,List.length_range],fun i x h=>?_⟩
  rw[List.getElem?_map] at h
  by_cases c:i < kk
  ·rw[List.getElem?_range c] at h
   have:=all i c
   cases e:nd (parts ns (n+i)) with
   | none=>rw[e] at this;cases this
   | some y=>simp[e] at h;rw[h]
  ·rw[List.getElem?_eq_none (by rw[List.length_range];omega)] at h
   cases h
 walk_at "go"
 intro acc hacc
 have a0:H acc=none:=s02.free hacc
 refine comp_listI (xs:=(runL n kk).map V.int) (fun i ys H'=>Bx (∃nd',ys=(xs.take i).map V.ref/\H' acc=some (.lst ys)/\SpAt a H' p ns low task nd' fp cn/\(∀m',0<=m'->m' < pgs ns->nd' (parts ns m')=goneM (fun m=>nd (parts ns m)) n i m')/\L2.Fr fp fp H H'/\H' q=some (.lst ((runL n kk).map V.int))/\i<=kk)) (by rw[List.length_map,runL_len,sizeLine_eq];omega) ⟨⟨nd,rfl,upd_same,(SA.same s02).same (same_upd hacc),fun m' _ _=>?_,L2.Fr.same (s02.trans (same_upd hacc)),same_upd hacc _ _ e2,Nat.zero_le _⟩⟩ (fun i ys H' z=>?_) (fun i x ys H' hx z R r=>?_) (fun ys H' z=>?_)
 ·unfold goneM;rw[if_neg (by omega)]
 ·obtain⟨nd',z1,z2,z3,z4,z5,z6,z7⟩:=z.o
  exact⟨z2,SqL.of z6,by rw[z1,List.length_map,List.length_take];omega⟩
 ·obtain⟨nd',z1,z2,z3,z4,z5,z6,z7⟩:=z.o
  obtain⟨m,rfl,hm⟩:=mem_ints hx
  obtain⟨rfl,il⟩:=runL_at hm
  have pin:0<=n+(i:Int)/\n+(i:Int) < pgs ns:=by omega
  obtain⟨dx3,sh3,tr3,dt3,sh23,top3,q1,q2,q3,q4,back⟩:=z3.tr
  walk_at "go"
  refine⟨fun _ nd'' H5 S5 G fr5=>?_,fun z=>absurd pin z⟩
  have ex:xs[i]?=some (xs[i]'(by omega)):=List.getElem?_eq_getElem (by omega)
  generalize xs[i]'(by omega)=x at ex
  have ev:nd' (parts ns (n+i))=some x:=by
   rw[z4 _ pin.1 pin.2]
   unfold goneM
   rw[if_neg (by omega)]
   exact xa i x ex
  rw[ev]
  have SP5:=back nd'' fp cn H5 S5 fr5
  have nf:acc∉fp:=fun w=>by
   obtain⟨⟨_,_,_,_,_,q⟩,_⟩:=id h3
   obtain⟨kv,e⟩:=q.lv _ w
   rw[a0] at e;cases e
  have nq:q∉fp:=fun w=>by
   obtain⟨⟨_,_,_,_,_,q'⟩,_⟩:=id h3
   obtain⟨kv,e⟩:=q'.lv _ w
   rw[hq] at e;cases e
  have e5:=(L2.Fr.out fr5 z2 nf).1
  have e6:=(L2.Fr.out fr5 z6 nq).1
  have nqa:q≠acc:=ne_of_none e2 hacc
  refine r _ _ e5 ⟨⟨nd'',?_,upd_same,SP5.keepL (KeepL.upd e5),fun m' m0 m1=>?_,⟨fun b u e nb=>?_,fun b hb=>.inl hb⟩,by rw[upd_ne nqa];exact e6,by omega⟩⟩
  ·rw[z1,List.take_add_one,ex,List.map_append];rfl
  ·rw[G.page gd pin.1 pin.2 m0 m1,z4 m' m0 m1]
   unfold goneM
   by_cases c:m'=n+i
   ·rw[if_pos c,if_pos (by omega)]
   ·rw[if_neg c]
    by_cases c2:n<=m'/\m' < n+i
    ·rw[if_pos c2,if_pos (by omega)]
    ·rw[if_neg c2,if_neg (by omega)]
  ·rw[upd_ne (ne_of_none e a0)]
   exact(z5.trans fr5).1 b u e nb
 ·obtain⟨nd',z1,z2,z3,z4,z5,z6,z7⟩:=z.o
  rw[List.length_map,runL_len] at z1 z4
  rw[List.take_of_length_le (by omega)] at z1
  exact k2 st xs (by omega) xa acc nd' H' z3 (by rw[z2,z1]) z4 z5 a0
theorem ok_Space_change {dvs:List V} (R:RawM K a.c_Space "change" "Space.change" s_Space_change ["self", "first", "many", "rights"] dvs) (T:Txt w K mg a)
  (h_Shape_stretch:HasMe P w K mg base a.c_Shape 2 "stretch" ["self", "first", "many"] (spStretch a) [])
  (h_check_rights:HasFn P w K mg base 1 "check_rights" ["rights"] (spRights a) [])
  (h_Space_check_mapped:HasMe P w K mg base a.c_Space 7 "check_mapped" ["self", "pages", "deed"] (spCheckM a) [])
  (h_Space_put:HasMe P w K mg base a.c_Space 6 "put" ["self", "page", "leaf"] (spSpPut a) [])
  (h_Fresh_righted:HasMe P w K mg base a.c_Fresh 4 "righted" ["self", "rights"] (spRighted a 0) [])
  (h_Held_righted:HasMe P w K mg base a.c_Held 5 "righted" ["self", "rights"] (spRighted a 1) [])
  (h_Out_righted:HasMe P w K mg base a.c_Out 5 "righted" ["self", "rights"] (spRighted a 2) [])
  (h_Named_righted:HasMe P w K mg base a.c_Named 5 "righted" ["self", "rights"] (spRighted a 3) [])
  (h_Space_leaf:HasMe P w K mg base a.c_Space 6 "leaf" ["self", "page"] (spSpLeaf a) []) :
  HasMe P w K mg base a.c_Space 8 "change" ["self", "first", "many", "rights"] (spChange a) dvs:=by
 refine R.ok sc_Space_change (fun vs H Q E h=>?_) (fun f cdv A outer s H vs Q E hr h=>?_)
 ·obtain⟨p,ns,low,task,n,m,r,nd,fp,cn,rfl,_⟩:=h
  rfl
 obtain⟨p,ns,low,task,n,m,r,nd,fp,cn,rfl,S,lc,lv,k0,k1,k2,k3⟩:=h
 refine⟨_,(@pss_cons _ _ _ _ _ (@ps_set _ _ 4 _ _ _ _ sc_Space_change.nd rfl (by first | exact Or.inl rfl | exact Or.inr rfl) (pe_me (pe_fld (pv 0) rfl) T.cl_Shape h_Shape_stretch (hr.mono (by decide)) pass_def (@pa_cn _ _ _ _ _ (pv 1) (@pa_cn _ _ _ _ _ (pv 2) pa_nil rfl) rfl)) (by rfl) (by first | exact Or.inl rfl | exact Or.inr rfl))
   (@pss_cons _ _ _ _ _ (ps_expr (pe_fn h_check_rights (hr.mono (by decide)) (by rfl) pass_def (@pa_cn _ _ _ _ _ (pv 3) pa_nil rfl)))
   (@pss_cons _ _ _ _ _ (ps_expr (pe_me (pv 0) T.cl_Space h_Space_check_mapped (hr.mono (by decide)) pass_def (@pa_cn _ _ _ _ _ (pv 4) (@pa_cn _ _ _ _ _ pe_str pa_nil rfl) rfl)))
   (@pss_one _ _ _ (ps_for own_def rfl (pi_list (pv 4)) (pg_name (i:=5) sc_Space_change.nd rfl (by first | exact Or.inl rfl | exact Or.inr rfl))
   (@pss_one _ _ _ (ps_expr (pe_me (pv 0) T.cl_Space h_Space_put (hr.mono (by decide)) pass_def (@pa_cn _ _ _ _ _ (pv 5) (@pa_cn _ _ _ _ _ (pe_meD (k:=5) (m := "righted") (dvs:=[]) (pe_me (pv 0) T.cl_Space h_Space_leaf (hr.mono (by decide)) pass_def (@pa_cn _ _ _ _ _ (pv 5) pa_nil rfl)) (hr.mono (by decide)) pass_def (@pa_cn _ _ _ _ _ (pv 3) pa_nil rfl) (by rfl) (by rfl) (by rfl)) pa_nil rfl) rfl))))))))),?_⟩
 have t1:=T.cl_Space;have t2:=T.n_Space_shape;have t3:=T.n_Space_tree;have t5:=T.cl_Shape
 have SA:=S
 obtain⟨dx,sh,tr,dt,sh2,top,h1,h2,h3,h4,_⟩:=S.tr
 obtain⟨dxs,ts,hs,hw⟩:=id h4
 have gd:=SA.good
 walk_at "go"
 refine⟨fun st q H1 s1 e1 hq=>?_,k0⟩
 obtain⟨kk,rfl⟩:∃kk:Nat,m=(kk:Int):=⟨m.toNat,by have:=st.1.1;omega⟩
 rw[Int.toNat_natCast] at e1
 have st0:=st.2.1
 have st1:=st.2.2
 have st64:=st.1.2
 have SA1:=SA.same s1
 have h11:=s1 _ _ h1
 walk_at "go"
 refine⟨fun ok=>?_,fun bad=>k1 st bad H1 s1⟩
 walk_at "go"
 refine⟨fun j jl ho d H2 hd s2=>k2 st ok j (by omega) ho d H2 hd (s1.trans s2),fun all H2 s2=>?_⟩
 have e2:=s2 _ _ e1
 have s02:=s1.trans s2
 have h12:=s2 _ _ h11
 walk_at "go"
 refine for_list (xs:=(runL n kk).map V.int) (fun i σ H'=>Bx (∃v5 ys nd' fp',σ=[some (.ref p),some (.int n),some (.int kk),some (.int r),some (.ref q),v5]/\ys.length=i/\SpAt a H' p ns low task nd' fp' (cn+i)/\(∀(i:Nat) x y g,nd (parts ns (n+i))=some x->LfAt a H x g->ys[i]?=some y->LfAt a H' y (g.withR r))/\(∀m',0<=m'->m' < pgs ns->nd' (parts ns m')=laidM (fun m=>nd (parts ns m)) n ys m')/\L2.Fr fp fp' H H'/\(∀b∈fp,b∈fp')/\KeepN H2 H')) ⟨⟨_,[],nd,fp,rfl,rfl,SA.same s02,fun i x y g _ _ z=>(by cases z),fun m' _ _=>(laidM_nil (fun m=>nd (parts ns m)) n m').symm,L2.Fr.same s02,fun b hb=>hb,KeepN.refl _⟩⟩ (fun i σ H' _ z=>?_) ?_ ?_
 ·obtain⟨v5,ys,nd',fp',_,_,_,_,_,_,_,kn⟩:=z.o
  exact SqL.of (kn.lst e2)
 ·rintro i x σ H3 hx ⟨v5,ys,nd',fp',rfl,yl,SA3,ly,pv,fr3,sub,kn⟩
  obtain⟨m,rfl,hm⟩:=mem_ints hx
  obtain⟨rfl,il⟩:=runL_at hm
  have pin:0<=n+(i:Int)/\n+(i:Int) < pgs ns:=by omega
  have hsome:=all i il
  obtain⟨x,hx⟩:∃x,nd (parts ns (n+i))=some x:=by
   cases e:nd (parts ns (n+i)) with
   | none=>rw[e] at hsome;cases hsome
   | some x=>exact⟨x,rfl⟩
  obtain⟨g,lf⟩:=lv i x (by omega) hx
  have hx3:nd' (parts ns (n+i))=some x:=by
   rw[pv _ pin.1 pin.2,<-yl,laidM_at,yl];exact hx
  have lf3:=kn.lf (lf.same s02)
  have h13:=kn.ins h12
  walk_at "go"
  refine⟨fun _ H4 s4=>?_,fun z=>absurd pin z⟩
  rw[hx3]
  have lf4:=lf3.same s4
  have SA4:=SA3.same s4
  have h14:=s4 _ _ h13
  have lc4:cn+i < 100000:=by omega
  obtain⟨C,dxl,fs,f1,f2,f3,f4⟩:∃C dx fs,H4 x=some (.ins C dx fs)/\Cls K C/\HasMe P w K mg base C 5 "righted" ["self", "rights"] (spRighted a g.kind) []/\fs.lookup ("righted" : Str)=none:=by
   obtain⟨dl,hl⟩:=id lf4
   cases g with
   | fresh r=>exact⟨_,_,_,hl,T.cl_Fresh,h_Fresh_righted.mono (by decide),by walk_at "lk"⟩
   | held r f=>exact⟨_,_,_,hl,T.cl_Held,h_Held_righted.mono (by decide),by walk_at "lk"⟩
   | out r f=>exact⟨_,_,_,hl,T.cl_Out,h_Out_righted.mono (by decide),by walk_at "lk"⟩
   | named r n f=>exact⟨_,_,_,hl,T.cl_Named,h_Named_righted.mono (by decide),by walk_at "lk"⟩
  have nv:ndV (some x)=.ref x:=rfl
  rw[nv]
  walk_at "go"
  refine⟨fun _ y H5 ly5 s5 hy5=>?_,fun bad=>absurd ok bad⟩
  have SA5:=SA4.same s5
  have h15:=s5 _ _ h14
  have lvy:∃u,H5 y=some u:=by obtain⟨dl,e⟩:=id ly5;exact⟨_,e⟩
  walk_at "go"
  refine⟨fun _ nd'' fp'' H6 SA6 pt fr6 sub6=>?_,fun z=>absurd pin z⟩
  have k6:=SA5.keepN fr6
  refine⟨⟨_,ys++[y],nd'',fp'',rfl,by rw[List.length_append,yl];rfl,SA6,fun i' x' y' g' a1 a2 a3=>?_,fun m' m0 m1=>?_,(fr3.trans (L2.Fr.same (s4.trans s5))).trans fr6,fun b hb=>sub6 _ (sub _ hb),(kn.trans (KeepN.same (s4.trans s5))).trans k6⟩⟩
  ·by_cases c:i' < ys.length
   ·rw[List.getElem?_append_left c] at a3
    exact k6.lf (((ly i' x' y' g' a1 a2 a3).same s4).same s5)
   ·have l3:=(List.getElem?_eq_some_iff.mp a3).1
    rw[List.length_append] at l3
    have ei:i'=ys.length:=by simp at l3;omega
    rw[ei,List.getElem?_append_right (Nat.le_refl _),Nat.sub_self] at a3
    cases a3
    rw[ei,yl,hx] at a1
    cases a1
    have eg:g'=g:=lf_one a2 lf
    rw[eg]
    exact k6.lf ly5
  ·rw[pt.page gd pin.1 pin.2 m0 m1,laidM_snoc,pv m' m0 m1,yl]
 ·rintro σ H3 ⟨v5,ys,nd',fp',rfl,yl,SA3,ly,pv,fr3,sub,kn⟩
  rw[List.length_map,runL_len] at yl
  rw[List.length_map,runL_len] at SA3
  walk_at "go"
  exact k3 st ok (fun i il=>all i (by omega)) ys nd' fp' H3 (by omega) (SA3.mono (by omega)) ly pv fr3 sub
end
end K18

set_option maxHeartbeats 4000000
namespace K18
open PySem L2
def drawn (c b p m:Int): Int:=(c%1000000007+1)*b%p / 5%m
theorem drawn_0 (c b p:Int){m:Int}(h:0 < m): 0<=drawn c b p m:=Int.emod_nonneg _ (by omega)
theorem drawn_lt (c b p:Int){m:Int}(h:0 < m): drawn c b p m < m:=Int.emod_lt_of_pos _ h
def spDrawn:Sp:=fun vs H Q _=>∃c b p m:Int,vs=[.int c,.int b,.int p,.int m]/\(-(2^64) < b/\b < 2^64)/\0 < p/\0 < m/\Q (.int (drawn c b p m)) H
section
variable {P:Program}{w:World}{K:PySem.W.Frag}{mg:Str->Option Value}{base:Heap}{a:Adr}
theorem ok__law_drawn {dvs:List V} (R:RawF K mg "_law_drawn" s__law_drawn ["_law_cell", "_law_by", "_law_prime", "_law_many"] dvs) (T:Txt w K mg a) :
  HasFn P w K mg base 1 "_law_drawn" ["_law_cell", "_law_by", "_law_prime", "_law_many"] (spDrawn) dvs:=by
 refine R.ok sc__law_drawn (fun vs H Q E h=>?_) (fun f cdv A outer s H vs Q E hr h=>?_)
 ·obtain⟨c,b,p,m,rfl,_⟩:=h
  rfl
 obtain⟨c,b,p,m,rfl,hb,hp,hm,q⟩:=h
 refine⟨_,(@pss_one _ _ _ (@ps_ret _ _ _ _ (pe_op op_mod (pe_op op_fdiv (pe_op op_mod (pe_op op_mul (pe_op op_add (pe_op op_mod (pv 0) pe_int) pe_int) (pv 1)) (pv 2)) pe_int) (pv 3)))),?_⟩
 walk_at "go"
 exact q
end
def spCell (K:PySem.W.Frag): Sp:=fun vs H Q _=>∃(p:Addr) (ns:List Int) (k:Int),vs=[.ref p,.int k]/\SqL K H p (ns.map V.int)/\0<=k/\Q (.int (ns.getD k.toNat 0)) H
def spWhole:Sp:=fun vs H Q _=>∃i,vs=[.int i]/\Q (.bl true) H
section
variable {P:Program}{w:World}{K:PySem.W.Frag}{mg:Str->Option Value}{base:Heap}{a:Adr}
theorem ok__law_cell_at {dvs:List V} (R:RawF K mg "_law_cell_at" s__law_cell_at ["_law_script", "_law_k"] dvs) (T:Txt w K mg a) :
  HasFn P w K mg base 1 "_law_cell_at" ["_law_script", "_law_k"] (spCell K) dvs:=by
 refine R.ok sc__law_cell_at (fun vs H Q E h=>?_) (fun f cdv A outer s H vs Q E hr h=>?_)
 ·obtain⟨p,ns,k,rfl,_⟩:=h
  rfl
 obtain⟨p,ns,k,rfl,S,h0,q⟩:=h
 refine⟨_,(@pss_cons _ _ _ _ _ (ps_if (pt_cmpR op_lt (pv 1) (pe_callB call_len_seq (by rfl) T.b_len PySem.boot_len (@pa_cn _ _ _ _ _ (pv 0) pa_nil rfl)) (nomark _)) (@pss_one _ _ _ (@ps_ret _ _ _ _ (@pe_ix _ _ _ _ _ _ _ ix_list (pv 0) (pv 1) (fun _ _=>rfl)))) pss_nil)
   (@pss_one _ _ _ (@ps_ret _ _ _ _ pe_int))),?_⟩
 refine⟨_,rfl,_,rfl,p,_,rfl,.inl S,_,_,rfl,rfl,_,rfl,iteD (fun c=>?_) fun c=>?_⟩
 ·rw[List.length_map] at c
  exact⟨_,rfl,_,rfl,p,_,_,_,rfl,rfl,S,atI_getD h0 c,q⟩
 ·rw[List.length_map] at c
  rw[getD_out (by omega)] at q
  exact q
theorem ok__law_whole {dvs:List V} (R:RawF K mg "_law_whole" s__law_whole ["_law_found"] dvs) (T:Txt w K mg a) :
  HasFn P w K mg base 1 "_law_whole" ["_law_found"] (spWhole) dvs:=by
 refine R.ok sc__law_whole (fun vs H Q E h=>?_) (fun f cdv A outer s H vs Q E hr h=>?_)
 ·obtain⟨i,rfl,_⟩:=h
  rfl
 obtain⟨i,rfl,q⟩:=h
 refine⟨_,(@pss_one _ _ _ (@ps_ret _ _ _ _ (pe_and (pe_callB call_isinst (by rfl) T.b_isinstance PyProof.Rows.Boot.«isinstance» (@pa_cn _ _ _ _ _ (pv 0) (@pa_cn _ _ _ _ _ (pe_bltn (v:=.ty "int") (by rfl) T.b_int PyProof.Rows.Boot.«int» rfl) pa_nil rfl) rfl)) (pe_one (pe_not (pe_callB call_isinst (by rfl) T.b_isinstance PyProof.Rows.Boot.«isinstance» (@pa_cn _ _ _ _ _ (pv 0) (@pa_cn _ _ _ _ _ (pe_bltn (v:=.ty "bool") (by rfl) T.b_bool PyProof.Rows.Boot.«bool» rfl) pa_nil rfl) rfl))))))),?_⟩
 exact⟨_,rfl,.int i,.ty "int",.type "int",true,rfl,rfl,.of (.int i),kit_self K _,true,rfl,iteT ⟨_,rfl,.int i,.ty "bool",.type "int",false,rfl,rfl,.of (.int i),kit_ib K,false,rfl,q⟩⟩
end
def Wid (ns:List Int): Prop:=(ns.length=2\/ns.length=3)/\∀x∈ns,1<=x/\x<=24
def spWidths16:Sp:=fun vs H Q _=>∃c:Int,vs=[.int c]/\∀(q:Addr) (ns:List Int) (H':Hp),H' q=some (.lst (ns.map V.int))->Wid ns->Same H H'->H q=none->Q (.ref q) H'
theorem cut_from (ns:List Int)(i:Nat)(h:i<=ns.length): cutV (ns.map V.int) (some (i:Int)) none=(ns.drop i).map V.int:=by
 unfold cutV
 rw[HT.sIx_none,List.length_map]
 have e:HT.sIx ns.length 0 (some (i:Int))=i:=by
  rw[HT.sIx_nat]
  omega
 rw[e,List.map_drop,List.take_of_length_le (by rw[List.length_drop,List.length_map];exact Nat.le_refl _)]
theorem bys16 (c:Int): ∃bs:List Int,cutV (([48271,69621,16807]:List Int).map V.int) (some (c / 2%2)) none=bs.map V.int/\(bs.length=2\/bs.length=3)/\∀b∈bs,0<=b/\b < 1000000:=by
 have h:c / 2%2=0\/c / 2%2=1:=by omega
 rcases h with h | h
 ·rw[h];exact⟨_,cut_from [48271,69621,16807] 0 (by decide),by decide,by decide⟩
 ·rw[h];exact⟨_,cut_from [48271,69621,16807] 1 (by decide),by decide,by decide⟩
theorem most16 (c:Int): ∃m:Int,atI [V.int 3,V.int 24] (c%2)=some (.int m)/\1<=m/\m<=24:=by
 have h:c%2=0\/c%2=1:=by omega
 rcases h with h | h
 ·rw[h];exact⟨3,rfl,by decide,by decide⟩
 ·rw[h];exact⟨24,rfl,by decide,by decide⟩
section
variable {P:Program}{w:World}{K:PySem.W.Frag}{mg:Str->Option Value}{base:Heap}{a:Adr}
theorem ok__law_widths {dvs:List V} (R:RawF K mg "_law_widths" s__law_widths ["_law_cell"] dvs) (T:Txt w K mg a)
  (h__law_drawn:HasFn P w K mg base 1 "_law_drawn" ["_law_cell", "_law_by", "_law_prime", "_law_many"] (spDrawn) []) :
  HasFn P w K mg base 2 "_law_widths" ["_law_cell"] (spWidths16) dvs:=by
 refine R.ok sc__law_widths (fun vs H Q E h=>?_) (fun f cdv A outer s H vs Q E hr h=>?_)
 ·obtain⟨c,rfl,_⟩:=h
  rfl
 obtain⟨c,rfl,k⟩:=h
 refine⟨_,(pss_cons (ps_set (i:=1) sc__law_widths.nd rfl (by first | exact Or.inl rfl | exact Or.inr rfl) (pe_ix ix_list (pe_lst (pa_cn pe_int (pa_cn pe_int pa_nil rfl) rfl)) (pe_op op_mod (pv 0) pe_int) (fun _ _=>rfl)))
   (pss_cons (ps_set (i:=2) sc__law_widths.nd rfl (by first | exact Or.inl rfl | exact Or.inr rfl) (pe_lst (pa_cn pe_int (pa_cn pe_int (pa_cn pe_int pa_nil rfl) rfl) rfl)))
   (pss_one (ps_ret (pe_comp (xs:=["_law_by"]) (N':=["_law_cell", "_law_most", "_law_bys"]) rfl ⟨rfl,by decide +kernel,by decide +kernel,by dsimp only [cxOf,PyProof.Rows.envOfC];decide +kernel,by decide +kernel,by dsimp only [cxOf];decide +kernel,rfl⟩ (pi_list (pe_slice sl_list (pv 2) (po_some (pe_op op_mod (pe_op op_fdiv (pv 0) pe_int) pe_int)) po_none)) (fun _ _ _ _ _=>(pg_name (i:=0) (by dsimp only [cxComp];decide +kernel) rfl (by first | exact Or.inl rfl | exact Or.inr rfl))) (fun _ _ _ _ _=>pts_nil) (fun _ _ _ _ _=>(pe_op op_add pe_int (pe_fn h__law_drawn (hr.mono (by decide)) (by rfl) pass_none (pa_cn (pv 1) (pa_cn (pv 0) (pa_cn pe_int (pa_cn (pv 2) pa_nil rfl) rfl) rfl) rfl))))))))),?_⟩
 obtain⟨m,em,m1,m24⟩:=most16 c
 obtain⟨bs,eb,lb,bb⟩:=bys16 c
 walk_at "go"
 intro u hu
 generalize hh:upd _ u _=H1
 obtain⟨s1,e1⟩:=newO hu hh
 clear hh
 walk_at "go"
 intro v hv
 generalize hh:upd _ v _=H2
 obtain⟨s2,e2⟩:=newO hv hh
 clear hh
 walk_at "go"
 intro x hx
 have eb':cutV [V.int 48271,V.int 69621,V.int 16807] (some (c / 2%2)) none=bs.map V.int:=eb
 rw[eb']
 generalize hh:upd _ x _=H3
 obtain⟨s3,e3⟩:=newO hx hh
 clear hh
 walk_at "go"
 intro acc hacc
 refine comp_list hacc (fun z=>match z with | .int b=>.int (1+drawn c b 99991 m) | _=>.non) (fun _=>true) (SqL.of e3) (by rw[List.length_map,sizeLine_eq];omega) (fun i z ys hz R r=>r) (fun i z ys hz _ R r=>?_) ?_
 ·obtain⟨b,rfl,hb⟩:=mem_ints hz
  have b1:=bb b (List.mem_of_getElem? hb)
  have bd:-(2^64) < b/\b < 2^64:=by omega
  have mp:0 < m:=by omega
  walk_at "go"
  exact r
 ·have e:((bs.map V.int).filter fun _=>true).map (fun z=>match z with | .int b=>V.int (1+drawn c b 99991 m) | _=>.non)=(bs.map fun b=>1+drawn c b 99991 m).map V.int:=by
   rw[filter_tt,List.map_map,List.map_map]
   rfl
  rw[e]
  have h0:H acc=none:=(s1.trans (s2.trans s3)).free hacc
  refine k acc _ _ upd_same ⟨by rw[List.length_map];exact lb,fun x hx=>?_⟩ ((s1.trans (s2.trans s3)).trans (same_upd hacc)) h0
  rw[List.mem_map] at hx
  obtain⟨b,_,rfl⟩:=hx
  have d0:=drawn_0 c b 99991 (m:=m) (by omega)
  have d1:=drawn_lt c b 99991 (m:=m) (by omega)
  omega
end
theorem letter_at {n:Int}(h0:0<=n)(h1:n < 26): ∃c:Nat,atI (Str.ofString "abcdefghijklmnopqrstuvwxyz").cps.toList n=some c/\c < 0x110000:=by
 have hl:(Str.ofString "abcdefghijklmnopqrstuvwxyz").cps.toList.length=26:=by decide +kernel
 have ha:∀x∈(Str.ofString "abcdefghijklmnopqrstuvwxyz").cps.toList,x < 0x110000:=by decide +kernel
 have e:n=((n.toNat:Nat):Int):=by omega
 have hk:n.toNat < (Str.ofString "abcdefghijklmnopqrstuvwxyz").cps.toList.length:=by omega
 refine⟨_,?_,ha _ (List.getElem_mem hk)⟩
 have q:=atI_nat (List.getElem?_eq_getElem hk)
 rw[<-e] at q
 exact q
theorem mem_fold {α:Type}{c:α}: ∀{n:Nat} {a b:Array α},c∈(List.replicate n a).foldl (·++·) b->c∈b\/c∈a
 | 0,a,b,h=>.inl h
 | n+1,a,b,h=>by
  rw[List.replicate_succ,List.foldl_cons] at h
  rcases mem_fold h with z | z
  ·exact Array.mem_append.mp z
  ·exact .inr z
theorem strOk_mul {ch:Nat}(h:ch < 0x110000)(n:Int): StrOk (Txt.mul ⟨#[ch]⟩ n):=by
 unfold StrOk
 simp only [PyData.canLay0]
 unfold PyData.strOk
 rw[Array.all_eq_true_iff_forall_mem]
 intro c hc
 have:c=ch:=by
  unfold Txt.mul at hc
  split at hc
  ·cases (Array.not_mem_empty c hc)
  ·split at hc
   ·simpa using hc
   ·rcases mem_fold hc with z | z
    ·cases (Array.not_mem_empty c z)
    ·simpa using z
 simp[this,h]
def spName16:Sp:=fun vs H Q _=>∃c:Int,vs=[.int c]/\∀x:Str,StrOk x->Q (.str x) H
section
variable {P:Program}{w:World}{K:PySem.W.Frag}{mg:Str->Option Value}{base:Heap}{a:Adr}
theorem ok__law_name {dvs:List V} (R:RawF K mg "_law_name" s__law_name ["_law_number"] dvs) (T:Txt w K mg a) :
  HasFn P w K mg base 1 "_law_name" ["_law_number"] (spName16) dvs:=by
 refine R.ok sc__law_name (fun vs H Q E h=>?_) (fun f cdv A outer s H vs Q E hr h=>?_)
 ·obtain⟨c,rfl,_⟩:=h
  rfl
 obtain⟨c,rfl,k⟩:=h
 refine⟨_,(@pss_one _ _ _ (@ps_ret _ _ _ _ (pe_op op_mulS (@pe_ix _ _ _ _ _ _ _ ix_str pe_str (pe_op op_mod (pv 0) pe_int) (fun _ _=>rfl)) (pe_op op_add pe_int (pe_op op_mod (pe_op op_fdiv (pv 0) pe_int) pe_int))))),?_⟩
 obtain⟨ch,e1,e2⟩:=letter_at (Int.emod_nonneg c (show (26:Int)≠0 by decide)) (Int.emod_lt_of_pos c (show (0:Int) < 26 by decide))
 have ll:(Str.ofString "abcdefghijklmnopqrstuvwxyz").length<=sizeLine:=by rw[sizeLine_eq];decide +kernel
 have l1:(⟨#[ch]⟩:Str).length<=1000:=by show 1<=1000;decide
 have n1:1<=1+c / 26%8:=by omega
 have n2:1+c / 26%8<=1000:=by omega
 walk_at "go"
 exact k _ (strOk_mul e2 _)
end
def spLeafR (a:Adr): Sp:=fun vs H Q _=>∃(t:Addr) (g:Lf),vs=[.ref t]/\H t=some (.tup g.row)/\OkR g.rights/\∀y H',LfAt a H' y g->Same H H'->H y=none->Q (.ref y) H'
def spDueR:Sp:=fun vs H Q _=>∃c:Int,vs=[.int c]/\∀t (g:Lf) H',H' t=some (.tup g.row)->g.ok->OkR g.rights->Same H H'->H t=none->Q (.ref t) H'
theorem drawn_r (c b p:Int): OkR (drawn c b p 4):=⟨drawn_0 c b p (by decide),by have:=drawn_lt c b p (show (0:Int) < 4 by decide);omega⟩
section
variable {P:Program}{w:World}{K:PySem.W.Frag}{mg:Str->Option Value}{base:Heap}{a:Adr}
theorem ok__law_leaf {dvs:List V} (R:RawF K mg "_law_leaf" s__law_leaf ["_law_row_here"] dvs) (T:Txt w K mg a)
  (h_Fresh___init__:HasMk P w K mg base a.c_Fresh 2 ["self", "rights"] (spLeafInit a K) [])
  (h_Held___init__:HasMk P w K mg base a.c_Held 3 ["self", "rights", "frame"] (spHeldInit a) [])
  (h_Out___init__:HasMk P w K mg base a.c_Out 3 ["self", "rights", "slot"] (spOutInit a) [])
  (h_Named___init__:HasMk P w K mg base a.c_Named 3 ["self", "rights", "name", "part"] (spNamedInit a) []) :
  HasFn P w K mg base 5 "_law_leaf" ["_law_row_here"] (spLeafR a) dvs:=by
 refine R.ok sc__law_leaf (fun vs H Q E h=>?_) (fun f cdv A outer s H vs Q E hr h=>?_)
 ·obtain⟨t,g,rfl,_⟩:=h
  rfl
 obtain⟨t,g,rfl,ht,ok,k⟩:=h
 refine⟨_,(@pss_cons _ _ _ _ _ (ps_if (pt_cmpR op_eq (@pe_ix _ _ _ _ _ _ _ ix_tup (pv 0) pe_int (fun _ _=>rfl)) pe_str (nomark _)) (@pss_one _ _ _ (@ps_ret _ _ _ _ (pe_mk h_Fresh___init__ (hr.mono (by decide)) (by rfl) T.m_Fresh pass_def (@pa_cn _ _ _ _ _ (@pe_ix _ _ _ _ _ _ _ ix_tup (pv 0) pe_int (fun _ _=>rfl)) pa_nil rfl)))) pss_nil)
   (@pss_cons _ _ _ _ _ (ps_if (pt_cmpR op_eq (@pe_ix _ _ _ _ _ _ _ ix_tup (pv 0) pe_int (fun _ _=>rfl)) pe_str (nomark _)) (@pss_one _ _ _ (@ps_ret _ _ _ _ (pe_mk h_Held___init__ (hr.mono (by decide)) (by rfl) T.m_Held pass_def (@pa_cn _ _ _ _ _ (@pe_ix _ _ _ _ _ _ _ ix_tup (pv 0) pe_int (fun _ _=>rfl)) (@pa_cn _ _ _ _ _ (@pe_ix _ _ _ _ _ _ _ ix_tup (pv 0) pe_int (fun _ _=>rfl)) pa_nil rfl) rfl)))) pss_nil)
   (@pss_cons _ _ _ _ _ (ps_if (pt_cmpR op_eq (@pe_ix _ _ _ _ _ _ _ ix_tup (pv 0) pe_int (fun _ _=>rfl)) pe_str (nomark _)) (@pss_one _ _ _ (@ps_ret _ _ _ _ (pe_mk h_Out___init__ (hr.mono (by decide)) (by rfl) T.m_Out pass_def (@pa_cn _ _ _ _ _ (@pe_ix _ _ _ _ _ _ _ ix_tup (pv 0) pe_int (fun _ _=>rfl)) (@pa_cn _ _ _ _ _ (@pe_ix _ _ _ _ _ _ _ ix_tup (pv 0) pe_int (fun _ _=>rfl)) pa_nil rfl) rfl)))) pss_nil)
   (@pss_one _ _ _ (@ps_ret _ _ _ _ (pe_mk h_Named___init__ (hr.mono (by decide)) (by rfl) T.m_Named pass_def (@pa_cn _ _ _ _ _ (@pe_ix _ _ _ _ _ _ _ ix_tup (pv 0) pe_int (fun _ _=>rfl)) (@pa_cn _ _ _ _ _ (@pe_ix _ _ _ _ _ _ _ ix_tup (pv 0) pe_int (fun _ _=>rfl)) (@pa_cn _ _ _ _ _ (@pe_ix _ _ _ _ _ _ _ ix_tup (pv 0) pe_int (fun _ _=>rfl)) pa_nil rfl) rfl) rfl))))))),?_⟩
 cases g with
 | fresh r =>
  have ht':H t=some (.tup [.str "fresh",.int r]):=ht
  walk_at "go"
  intro x dx hx hdx nx
  refine⟨x,dx,a.c_Fresh,r,rfl,upd_same,T.cl_Fresh,T.n_Fresh_rights,fun _=>⟨rfl,?_⟩,fun z=>absurd ok z⟩
  rw[upd_upd]
  exact k x _ ⟨dx,upd_same⟩ (fun b u eb=>by rw[upd_ne (ne_of_none eb hx),upd_ne (ne_of_none eb hdx)];exact eb) hx
 | named r n p =>
  have ht':H t=some (.tup [.str "named",.int r,.str n,.int p]):=ht
  walk_at "go"
  intro x dx hx hdx nx
  refine⟨x,dx,r,p,n,rfl,upd_same,fun _=>⟨rfl,?_⟩,fun z=>absurd ok z⟩
  rw[upd_upd]
  exact k x _ ⟨dx,upd_same⟩ (fun b u eb=>by rw[upd_ne (ne_of_none eb hx),upd_ne (ne_of_none eb hdx)];exact eb) hx
 | held r f1 =>
  have ht':H t=some (.tup [.str "held",.int r,.int f1]):=ht
  walk_at "go"
  intro x dx hx hdx nx
  refine⟨x,dx,r,f1,rfl,upd_same,fun _=>⟨rfl,?_⟩,fun z=>absurd ok z⟩
  rw[upd_upd]
  exact k x _ ⟨dx,upd_same⟩ (fun b u eb=>by rw[upd_ne (ne_of_none eb hx),upd_ne (ne_of_none eb hdx)];exact eb) hx
 | out r f1 =>
  have ht':H t=some (.tup [.str "out",.int r,.int f1]):=ht
  walk_at "go"
  intro x dx hx hdx nx
  refine⟨x,dx,r,f1,rfl,upd_same,fun _=>⟨rfl,?_⟩,fun z=>absurd ok z⟩
  rw[upd_upd]
  exact k x _ ⟨dx,upd_same⟩ (fun b u eb=>by rw[upd_ne (ne_of_none eb hx),upd_ne (ne_of_none eb hdx)];exact eb) hx
theorem ok__law_row {dvs:List V} (R:RawF K mg "_law_row" s__law_row ["_law_cell"] dvs) (T:Txt w K mg a)
  (h__law_drawn:HasFn P w K mg base 1 "_law_drawn" ["_law_cell", "_law_by", "_law_prime", "_law_many"] (spDrawn) [])
  (h__law_name:HasFn P w K mg base 1 "_law_name" ["_law_number"] (spName16) []) :
  HasFn P w K mg base 2 "_law_row" ["_law_cell"] (spDueR) dvs:=by
 refine R.ok sc__law_row (fun vs H Q E h=>?_) (fun f cdv A outer s H vs Q E hr h=>?_)
 ·obtain⟨c,rfl,_⟩:=h
  rfl
 obtain⟨c,rfl,k⟩:=h
 refine⟨_,(@pss_cons _ _ _ _ _ (@ps_set _ _ 1 _ _ _ _ sc__law_row.nd rfl (by first | exact Or.inl rfl | exact Or.inr rfl) (pe_fn h__law_drawn (hr.mono (by decide)) (by rfl) pass_def (@pa_cn _ _ _ _ _ (pv 0) (@pa_cn _ _ _ _ _ pe_int (@pa_cn _ _ _ _ _ pe_int (@pa_cn _ _ _ _ _ pe_int pa_nil rfl) rfl) rfl) rfl)) (by rfl) (by first | exact Or.inl rfl | exact Or.inr rfl))
   (@pss_cons _ _ _ _ _ (@ps_set _ _ 2 _ _ _ _ sc__law_row.nd rfl (by first | exact Or.inl rfl | exact Or.inr rfl) (pe_fn h__law_drawn (hr.mono (by decide)) (by rfl) pass_def (@pa_cn _ _ _ _ _ (pv 0) (@pa_cn _ _ _ _ _ pe_int (@pa_cn _ _ _ _ _ pe_int (@pa_cn _ _ _ _ _ pe_int pa_nil rfl) rfl) rfl) rfl)) (by rfl) (by first | exact Or.inl rfl | exact Or.inr rfl))
   (@pss_cons _ _ _ _ _ (@ps_set _ _ 3 _ _ _ _ sc__law_row.nd rfl (by first | exact Or.inl rfl | exact Or.inr rfl) (pe_fn h__law_drawn (hr.mono (by decide)) (by rfl) pass_def (@pa_cn _ _ _ _ _ (pv 0) (@pa_cn _ _ _ _ _ pe_int (@pa_cn _ _ _ _ _ pe_int (@pa_cn _ _ _ _ _ pe_int pa_nil rfl) rfl) rfl) rfl)) (by rfl) (by first | exact Or.inl rfl | exact Or.inr rfl))
   (@pss_cons _ _ _ _ _ (ps_if (pt_cmpR op_eq (pv 1) pe_int (nomark _)) (@pss_one _ _ _ (@ps_ret _ _ _ _ (@pe_tup _ _ _ _ _ (@pa_cn _ _ _ _ _ pe_str (@pa_cn _ _ _ _ _ (pv 3) (@pa_cn _ _ _ _ _ (pe_fn h__law_name (hr.mono (by decide)) (by rfl) pass_def (@pa_cn _ _ _ _ _ (pv 0) pa_nil rfl)) (@pa_cn _ _ _ _ _ (pv 2) pa_nil rfl) rfl) rfl) rfl)))) pss_nil)
   (@pss_cons _ _ _ _ _ (ps_if (pt_cmpR op_eq (pv 1) pe_int (nomark _)) (@pss_one _ _ _ (@ps_ret _ _ _ _ (@pe_tup _ _ _ _ _ (@pa_cn _ _ _ _ _ pe_str (@pa_cn _ _ _ _ _ (pv 3) pa_nil rfl) rfl)))) pss_nil)
   (@pss_one _ _ _ (@ps_ret _ _ _ _ (@pe_tup _ _ _ _ _ (@pa_cn _ _ _ _ _ (@pe_ix _ _ _ _ _ _ _ ix_list (@pe_lst _ _ _ _ (@pa_cn _ _ _ _ _ pe_str (@pa_cn _ _ _ _ _ pe_str pa_nil rfl) rfl)) (pe_op op_sub (pv 1) pe_int) (fun _ _=>rfl)) (@pa_cn _ _ _ _ _ (pv 3) (@pa_cn _ _ _ _ _ (pv 2) pa_nil rfl) rfl) rfl))))))))),?_⟩
 have k0:=drawn_0 c 25173 99907 (show (0:Int) < 4 by decide)
 have k4:=drawn_lt c 25173 99907 (show (0:Int) < 4 by decide)
 have okr:=drawn_r c 30269 99923
 walk_at "go"
 generalize drawn c 25173 99907 4=kd at k0 k4
 generalize drawn c 40692 99929 64=nb
 generalize drawn c 30269 99923 4=rr at okr
 refine iteI (fun z=>?_) (fun z=>?_)
 ·walk_at "go"
  intro x okx
  walk_at "go"
  intro t ht
  exact k t (.named rr x nb) _ upd_same okx okr (same_upd ht) ht
 walk_at "go"
 refine iteI (fun z1=>?_) (fun z1=>?_)
 ·walk_at "go"
  intro t ht
  exact k t (.fresh rr) _ upd_same trivial okr (same_upd ht) ht
 ·have h12:kd=1\/kd=2:=by omega
  rcases h12 with rfl | rfl
  ·walk_at "go"
   intro u hu
   generalize hh:upd _ u _=H1
   obtain⟨s1,e1⟩:=newO hu hh
   clear hh
   walk_at "go"
   intro t ht
   exact k t (.held rr nb) _ upd_same trivial okr (s1.trans (same_upd ht)) (s1.free ht)
  ·walk_at "go"
   intro u hu
   generalize hh:upd _ u _=H1
   obtain⟨s1,e1⟩:=newO hu hh
   clear hh
   walk_at "go"
   intro t ht
   exact k t (.out rr nb) _ upd_same trivial okr (s1.trans (same_upd ht)) (s1.free ht)
end
end K18

set_option maxHeartbeats 4000000
namespace K18
open PySem L2
theorem kit_is' (K:PySem.W.Frag): PySem.W.kitOne K (.type "int") (.type "str")=some false:=kit_bb (by decide) (by decide +kernel) (by decide +kernel)
theorem row_at {g:Lf}{i:Nat}{v:V}(h:g.row[i]?=some v): (∃n,v=.int n)\/∃x,v=.str x:=by
 have hm:=List.mem_of_getElem? h
 cases g<;>simp[Lf.row] at hm
 ·rcases hm with rfl | rfl
  ·exact .inr ⟨_,rfl⟩
  ·exact .inl ⟨_,rfl⟩
 ·rcases hm with rfl | rfl | rfl
  ·exact .inr ⟨_,rfl⟩
  ·exact .inl ⟨_,rfl⟩
  ·exact .inl ⟨_,rfl⟩
 ·rcases hm with rfl | rfl | rfl
  ·exact .inr ⟨_,rfl⟩
  ·exact .inl ⟨_,rfl⟩
  ·exact .inl ⟨_,rfl⟩
 ·rcases hm with rfl | rfl | rfl | rfl
  ·exact .inr ⟨_,rfl⟩
  ·exact .inl ⟨_,rfl⟩
  ·exact .inr ⟨_,rfl⟩
  ·exact .inl ⟨_,rfl⟩
theorem row_len (g:Lf): g.row.length<=4:=by cases g<;>simp[Lf.row]
theorem row_ok {g:Lf}(ok:g.ok){i:Nat}{x:Str}(h:g.row[i]?=some (.str x)): StrOk x:=by
 have hm:=List.mem_of_getElem? h
 cases g<;>simp[Lf.row] at hm
 ·rw[hm];unfold StrOk;decide +kernel
 ·rw[hm];unfold StrOk;decide +kernel
 ·rw[hm];unfold StrOk;decide +kernel
 ·rcases hm with rfl | rfl
  ·unfold StrOk;decide +kernel
  ·exact ok
def spLikeT:Sp:=fun vs H Q _=>∃(v t:Addr) (g:Lf),vs=[.ref v,.ref t]/\H v=some (.tup g.row)/\H t=some (.tup g.row)/\g.ok/\Q (.bl true) H
section
variable {P:Program}{w:World}{K:PySem.W.Frag}{mg:Str->Option Value}{base:Heap}{a:Adr}
theorem ok__law_like {dvs:List V} (R:RawF K mg "_law_like" s__law_like ["_law_found", "_law_due"] dvs) (T:Txt w K mg a)
  (h__law_whole:HasFn P w K mg base 1 "_law_whole" ["_law_found"] (spWhole) []) :
  HasFn P w K mg base 2 "_law_like" ["_law_found", "_law_due"] (spLikeT) dvs:=by
 refine R.ok sc__law_like (fun vs H Q E h=>?_) (fun f cdv A outer s H vs Q E hr h=>?_)
 ·obtain⟨v,t,g,rfl,_⟩:=h
  rfl
 obtain⟨v,t,g,rfl,hv,ht,ok,k⟩:=h
 refine⟨_,(@pss_cons _ _ _ _ _ (ps_if (PW.pt (pw_or (pt_not (pt_val (pe_callB call_isinst (by rfl) T.b_isinstance PyProof.Rows.Boot.«isinstance» (@pa_cn _ _ _ _ _ (pv 0) (@pa_cn _ _ _ _ _ (pe_bltn (v:=.ty "tuple") (by rfl) T.b_tuple PyProof.Rows.Boot.«tuple» rfl) pa_nil rfl) rfl)))) (pw_or1 (pt_cmpR op_ne (pe_callB call_len_seq (by rfl) T.b_len PySem.boot_len (@pa_cn _ _ _ _ _ (pv 0) pa_nil rfl)) (pe_callB call_len_seq (by rfl) T.b_len PySem.boot_len (@pa_cn _ _ _ _ _ (pv 1) pa_nil rfl)) (nomark _))))) (@pss_one _ _ _ (@ps_ret _ _ _ _ pe_bl)) pss_nil)
   (@pss_cons _ _ _ _ _ (ps_for own_def rfl (pi_range1 (by rfl) T.b_range (@pa_cn _ _ _ _ _ (pe_callB call_len_seq (by rfl) T.b_len PySem.boot_len (@pa_cn _ _ _ _ _ (pv 1) pa_nil rfl)) pa_nil rfl)) (pg_name (i:=2) sc__law_like.nd rfl (by first | exact Or.inl rfl | exact Or.inr rfl))
   (@pss_cons _ _ _ _ _ (ps_if (PW.pt (pw_or (pt_cmpR op_ne (pe_callB call_isinst (by rfl) T.b_isinstance PyProof.Rows.Boot.«isinstance» (@pa_cn _ _ _ _ _ (@pe_ix _ _ _ _ _ _ _ ix_tup (pv 1) (pv 2) (fun _ _=>rfl)) (@pa_cn _ _ _ _ _ (pe_bltn (v:=.ty "str") (by rfl) T.b_str PyProof.Rows.Boot.«str» rfl) pa_nil rfl) rfl)) (pe_callB call_isinst (by rfl) T.b_isinstance PyProof.Rows.Boot.«isinstance» (@pa_cn _ _ _ _ _ (@pe_ix _ _ _ _ _ _ _ ix_tup (pv 0) (pv 2) (fun _ _=>rfl)) (@pa_cn _ _ _ _ _ (pe_bltn (v:=.ty "str") (by rfl) T.b_str PyProof.Rows.Boot.«str» rfl) pa_nil rfl) rfl)) (nomark _)) (pw_or1 (pt_cmpR op_ne (@pe_ix _ _ _ _ _ _ _ ix_tup (pv 0) (pv 2) (fun _ _=>rfl)) (@pe_ix _ _ _ _ _ _ _ ix_tup (pv 1) (pv 2) (fun _ _=>rfl)) (nomark _))))) (@pss_one _ _ _ (@ps_ret _ _ _ _ pe_bl)) pss_nil)
   (@pss_one _ _ _ (ps_if (PW.pt (pw_and (pt_not (pt_val (pe_callB call_isinst (by rfl) T.b_isinstance PyProof.Rows.Boot.«isinstance» (@pa_cn _ _ _ _ _ (@pe_ix _ _ _ _ _ _ _ ix_tup (pv 1) (pv 2) (fun _ _=>rfl)) (@pa_cn _ _ _ _ _ (pe_bltn (v:=.ty "str") (by rfl) T.b_str PyProof.Rows.Boot.«str» rfl) pa_nil rfl) rfl)))) (pw_and1 (pt_not (pt_val (pe_fn h__law_whole (hr.mono (by decide)) (by rfl) pass_def (@pa_cn _ _ _ _ _ (@pe_ix _ _ _ _ _ _ _ ix_tup (pv 0) (pv 2) (fun _ _=>rfl)) pa_nil rfl))))))) (@pss_one _ _ _ (@ps_ret _ _ _ _ pe_bl)) pss_nil))))
   (@pss_one _ _ _ (@ps_ret _ _ _ _ pe_bl)))),?_⟩
 have kt:=kit_self K (.type "tuple")
 have ks:=kit_self K (.type "str")
 have kis:=kit_is' K
 have rl:=row_len g
 have tv:TyE K H (.ref v) (.type "tuple"):=.of (.tup hv)
 walk_at "go"
 refine iteN (fun z=>absurd rfl z) (fun _=>?_)
 walk_at "go"
 refine for_range (fun i σ H'=>Bx ((∃v2,σ=[some (.ref v),some (.ref t),v2])/\H'=H)) ⟨⟨⟨_,rfl⟩,rfl⟩⟩ ?_ ?_
 ·rintro i σ H2 hi ⟨⟨v2,rfl⟩,rfl⟩
  have il:i < g.row.length:=by simpa using hi
  have ei:g.row[i]?=some g.row[i]:=List.getElem?_eq_getElem il
  generalize g.row[i]=x at ei
  have ai:atI g.row (0+(i:Int))=some x:=by rw[Int.zero_add];exact atI_nat ei
  rcases row_at ei with ⟨n,rfl⟩ | ⟨z,rfl⟩
  ·have ti:TyE K H2 (.int n) (.type "int"):=.of (.int n)
   walk_at "go"
   refine iteN (fun z=>absurd rfl z) (fun _=>?_)
   walk_at "go"
   exact⟨⟨⟨_,rfl⟩,rfl⟩⟩
  ·have okz:=row_ok ok ei
   have ti:TyE K H2 (.str z) (.type "str"):=.of (.str z)
   walk_at "go"
   refine iteN (fun z=>absurd rfl z) (fun _=>?_)
   walk_at "go"
   exact⟨⟨⟨_,rfl⟩,rfl⟩⟩
 ·rintro σ H2 ⟨⟨v2,rfl⟩,rfl⟩
  walk_at "go"
  exact k
end
structure RwL (H:Hp)(l:Addr)(ts:List Addr)(gs:List Lf): Prop where
 hl:H l=some (.lst (ts.map V.ref))
 len:ts.length=gs.length
 at':∀(i:Nat) t g,ts[i]?=some t->gs[i]?=some g->H t=some (.tup g.row)
def rowsD (gs:List Lf): PyData:=.list (gs.map fun g=>.tuple g.dat)
theorem rows_tid {gs:List Lf}(h:∀g∈gs,g.ok): Tid 3 (rowsD gs):=Tid.list fun d hd=>by
 obtain⟨g,hg,rfl⟩:=List.mem_map.mp hd
 exact Lf.tid g (h g hg)
theorem RwL.dat {K:PySem.W.Frag}{H:Hp}{l:Addr}{ts:List Addr}{gs:List Lf}(r:RwL H l ts gs): DatV K H (.ref l) (rowsD gs):=by
 refine .lst (SqL.of r.hl) (datAll_of (by rw[List.length_map,List.length_map];exact r.len) fun i x d h1 h2=>?_)
 rw[List.getElem?_map] at h1 h2
 obtain⟨t,ht,rfl⟩:=Option.map_eq_some_iff.mp h1
 obtain⟨g,hg,rfl⟩:=Option.map_eq_some_iff.mp h2
 exact .tup (SqT.of (r.at' i t g ht hg)) (Lf.datAll _ _ g)
theorem RwL.mv {H H':Hp}{l:Addr}{ts:List Addr}{gs:List Lf}(r:RwL H l ts gs)(h:∀zs,H l=some (.lst zs)->H' l=some (.lst zs))(tp:∀t xs,H t=some (.tup xs)->H' t=some (.tup xs)): RwL H' l ts gs :=
 ⟨h _ r.hl,r.len,fun i t g h1 h2=>tp _ _ (r.at' i t g h1 h2)⟩
theorem RwL.same {H H':Hp}{l:Addr}{ts:List Addr}{gs:List Lf}(r:RwL H l ts gs)(s:Same H H'): RwL H' l ts gs:=r.mv (fun _=>s _ _) fun t xs=>s _ _
theorem RwL.keepN {H H':Hp}{l:Addr}{ts:List Addr}{gs:List Lf}(r:RwL H l ts gs)(s:KeepN H H'): RwL H' l ts gs:=r.mv (fun _=>s.lst) fun t xs=>s.tup
structure Lvs (a:Adr)(H:Hp)(xs:List Addr)(gs:List Lf): Prop where
 len:xs.length=gs.length
 at':∀(i:Nat) x g,xs[i]?=some x->gs[i]?=some g->LfAt a H x g
theorem Lvs.same {a:Adr}{H H':Hp}{xs:List Addr}{gs:List Lf}(r:Lvs a H xs gs)(s:Same H H'): Lvs a H' xs gs:=⟨r.len,fun i x g h1 h2=>(r.at' i x g h1 h2).same s⟩
theorem Lvs.keepN {a:Adr}{H H':Hp}{xs:List Addr}{gs:List Lf}(r:Lvs a H xs gs)(s:KeepN H H'): Lvs a H' xs gs:=⟨r.len,fun i x g h1 h2=>s.lf (r.at' i x g h1 h2)⟩
theorem Lvs.get {a:Adr}{H:Hp}{xs:List Addr}{gs:List Lf}(r:Lvs a H xs gs){i:Nat}{x:Addr}(h:xs[i]?=some x): ∃g,gs[i]?=some g/\LfAt a H x g:=by
 have il:=(List.getElem?_eq_some_iff.mp h).1
 have e:gs[i]?=some (gs[i]'(by rw[<-r.len];exact il)):=List.getElem?_eq_getElem _
 exact⟨_,e,r.at' i x _ h e⟩
theorem RwL.snoc {H:Hp}{l t:Addr}{ts:List Addr}{gs:List Lf}{g:Lf}(r:RwL H l ts gs)(ht:H t=some (.tup g.row)): RwL (upd H l (.lst (ts.map V.ref++[.ref t]))) l (ts++[t]) (gs++[g]):=by
 have tl:∀b xs,H b=some (.tup xs)->upd H l (.lst (ts.map V.ref++[.ref t])) b=some (.tup xs):=fun b xs e=>by rw[upd_ne fun z=>by rw[z,r.hl] at e;cases e];exact e
 refine⟨by rw[upd_same,List.map_append];rfl,by rw[List.length_append,List.length_append,r.len];rfl,fun i t' g' h1 h2=>?_⟩
 by_cases c:i < ts.length
 ·rw[List.getElem?_append_left c] at h1
  rw[List.getElem?_append_left (by rw[<-r.len];exact c)] at h2
  exact tl _ _ (r.at' i t' g' h1 h2)
 ·have il:=(List.getElem?_eq_some_iff.mp h1).1
  rw[List.length_append] at il
  have ei:i=ts.length:=by simp at il;omega
  rw[ei,List.getElem?_append_right (Nat.le_refl _),Nat.sub_self] at h1
  rw[ei,r.len,List.getElem?_append_right (Nat.le_refl _),Nat.sub_self] at h2
  cases h1;cases h2
  exact tl _ _ ht
theorem Lvs.keepL {a:Adr}{H H':Hp}{xs:List Addr}{gs:List Lf}(r:Lvs a H xs gs)(s:KeepL H H'): Lvs a H' xs gs:=⟨r.len,fun i x g h1 h2=>s.lf (r.at' i x g h1 h2)⟩
theorem RwL.clr {H:Hp}{l b:Addr}{ts:List Addr}{gs:List Lf}{u:HO}{zs:List V}(r:RwL H l ts gs)(hb:H b=some (.lst zs))(n:l≠b): RwL (upd H b u) l ts gs :=
 r.mv (fun ws e=>by rw[upd_ne n];exact e) fun t xs e=>(KeepL.upd hb).tup e
theorem SpAt.ib {a:Adr}{H:Hp}{p:Addr}{ns:List Int}{low task:Int}{nd:Ix->Option Addr}{fp:List Addr}{cn:Nat}(S:SpAt a H p ns low task nd fp cn): ∀π x,nd π=some x->Fit (ns.take π.length) π:=by
 obtain⟨dx,sh,tr,dt,sh2,top,dxs,ts,h1,h2,h3,_⟩:=S
 exact h3.ib
theorem SpAt.cov {a:Adr}{H:Hp}{p:Addr}{ns ks:List Int}{low task:Int}{nd:Ix->Option Addr}{fp:List Addr}{cn:Nat}(S:SpAt a H p ns low task nd fp cn)(km:∀m,0<=m->m < pgs ns->(nd (parts ns m)).isSome=true->m∈ks): Cov ns.length nd (ks.map (parts ns)):=fun π x h hl=>by
 have f:=S.ib π x h
 rw[hl,List.take_length] at f
 have gl:=glue_lt S.good.nn f
 have e:=parts_glue f
 exact List.mem_map.mpr ⟨glue (ns.zip π),km _ gl.1 gl.2 (by rw[e,h];rfl),e⟩
abbrev Mf:=Int->Option Lf
def Mf.put (M:Mf)(n:Int)(v:Option Lf): Mf:=fun m=>if m=n then v else M m
theorem Mf.put_at {M:Mf}{n:Int}{v:Option Lf}: M.put n v n=v:=if_pos rfl
theorem Mf.put_ne {M:Mf}{n m:Int}{v:Option Lf}(h:m≠n): M.put n v m=M m:=if_neg h
structure Ab (a:Adr)(H:Hp)(ns:List Int)(nd:Ix->Option Addr)(M:Mf): Prop where
 no:∀n,0<=n->n < pgs ns->M n=none->nd (parts ns n)=none
 so:∀n g,0<=n->n < pgs ns->M n=some g->∃x,nd (parts ns n)=some x/\LfAt a H x g
theorem Ab.kept {a:Adr}{H H':Hp}{ns:List Int}{nd:Ix->Option Addr}{M:Mf}(A:Ab a H ns nd M)(s:KeepN H H'): Ab a H' ns nd M :=
 ⟨A.no,fun n g h1 h2 h3=>let ⟨x,e1,e2⟩:=A.so n g h1 h2 h3;⟨x,e1,s.lf e2⟩⟩
theorem Ab.same {a:Adr}{H H':Hp}{ns:List Int}{nd:Ix->Option Addr}{M:Mf}(A:Ab a H ns nd M)(s:Same H H'): Ab a H' ns nd M:=A.kept (KeepN.same s)
structure Kp (H:Hp)(d:Addr)(M:Mf)(kvs:List (Key×V))(ks:List Int): Prop where
 h:H d=some (.dK kvs)
 ik:IKeys kvs ks
 nd:(kvs.map (·.1)).Nodup
 no:∀n,M n=none->valV kvs (.inl n)=none
 so:∀n g,M n=some g->∃t,valV kvs (.inl n)=some (.ref t)/\H t=some (.tup g.row)
theorem Kp.mem {H:Hp}{d:Addr}{M:Mf}{kvs:List (Key×V)}{ks:List Int}(k:Kp H d M kvs ks)(n:Int): n∈ks↔(M n).isSome=true:=by
 rw[iKeys_mem k.ik]
 cases e:M n with
 | none=>rw[k.no n e];simp
 | some g =>
  obtain⟨t,e1,_⟩:=k.so n g e
  rw[e1];simp
theorem Kp.keep {H H':Hp}{d:Addr}{M:Mf}{kvs:List (Key×V)}{ks:List Int}(k:Kp H d M kvs ks)(s:KeepN H H')(e:H' d=some (.dK kvs)): Kp H' d M kvs ks :=
 ⟨e,k.ik,k.nd,k.no,fun n g h=>let ⟨t,e1,e2⟩:=k.so n g h;⟨t,e1,s.tup e2⟩⟩
theorem Kp.keepL {H H':Hp}{d:Addr}{M:Mf}{kvs:List (Key×V)}{ks:List Int}(k:Kp H d M kvs ks)(s:KeepL H H'): Kp H' d M kvs ks :=
 ⟨s.dK k.h,k.ik,k.nd,k.no,fun n g h=>let ⟨t,e1,e2⟩:=k.so n g h;⟨t,e1,s.tup e2⟩⟩
theorem Kp.same {H H':Hp}{d:Addr}{M:Mf}{kvs:List (Key×V)}{ks:List Int}(k:Kp H d M kvs ks)(s:Same H H'): Kp H' d M kvs ks:=k.keep (KeepN.same s) (s _ _ k.h)
theorem Kp.put {H:Hp}{d t:Addr}{M:Mf}{kvs:List (Key×V)}{ks:List Int}{n:Int}{g:Lf}(K:Kp H d M kvs ks)(ht:H t=some (.tup g.row)): ∃ks',Kp (upd H d (.dK (putK kvs (.inl n) (.ref t)))) d (M.put n (some g)) (putK kvs (.inl n) (.ref t)) ks':=by
 obtain⟨⟨ks',ik'⟩,nd'⟩:=put_keys n (V.ref t) K.ik K.nd
 have nt:∀b xs,H b=some (.tup xs)->upd H d (.dK (putK kvs (.inl n) (.ref t))) b=some (.tup xs):=fun b xs e=>by
  rw[upd_ne (fun z=>by rw[z,K.h] at e;cases e)];exact e
 refine⟨ks',upd_same,ik',nd',fun m h=>?_,fun m g' h=>?_⟩
 ·have c:m≠n:=fun z=>by rw[z,Mf.put_at] at h;cases h
  rw[Mf.put_ne c] at h
  rw[valV_put,if_neg (fun z=>c (Sum.inl.inj z))]
  exact K.no m h
 ·by_cases c:m=n
  ·subst c
   rw[Mf.put_at] at h
   cases h
   exact⟨t,by rw[valV_put,if_pos rfl],nt _ _ ht⟩
  ·rw[Mf.put_ne c] at h
   obtain⟨t',e1,e2⟩:=K.so m g' h
   exact⟨t',by rw[valV_put,if_neg (fun z=>c (Sum.inl.inj z))];exact e1,nt _ _ e2⟩
theorem Kp.drop {H:Hp}{d:Addr}{M:Mf}{kvs:List (Key×V)}{ks:List Int}(n:Int)(K:Kp H d M kvs ks): ∃ks',Kp (upd H d (.dK (dropK kvs (.inl n)))) d (M.put n none) (dropK kvs (.inl n)) ks':=by
 have nt:∀b xs,H b=some (.tup xs)->upd H d (.dK (dropK kvs (.inl n))) b=some (.tup xs):=fun b xs e=>by
  rw[upd_ne (fun z=>by rw[z,K.h] at e;cases e)];exact e
 refine⟨_,upd_same,drop_keys K.ik,?_,fun m h=>?_,fun m g' h=>?_⟩
 ·have q:=drop_keys (k:=n) K.ik
  have q2:((ks.filter fun j=>decide (j≠n)).map (Sum.inl:Int->Key)).Nodup:=List.pairwise_map.mpr ((iKeys_nd K.ik K.nd).filter _ |>.imp fun h z=>h (Sum.inl.inj z))
  rw[q];exact q2
 ·rw[valV_dropT]
  by_cases c:m=n
  ·rw[if_pos (by rw[c])]
  ·rw[if_neg (fun z=>c (Sum.inl.inj z))]
   rw[Mf.put_ne c] at h
   exact K.no m h
 ·have c:m≠n:=fun z=>by rw[z,Mf.put_at] at h;cases h
  rw[Mf.put_ne c] at h
  obtain⟨t',e1,e2⟩:=K.so m g' h
  exact⟨t',by rw[valV_dropT,if_neg (fun z=>c (Sum.inl.inj z))];exact e1,nt _ _ e2⟩
def Mf.gone (M:Mf)(n k:Int): Mf:=fun m=>if n<=m/\m < n+k then none else M m
def Mf.chg (M:Mf)(n k r:Int): Mf:=fun m=>if n<=m/\m < n+k then (M m).map (Lf.withR r) else M m
theorem Ab.put {a:Adr}{H H':Hp}{ns:List Int}{low:Int}{nd nd':Ix->Option Addr}{M:Mf}{n:Int}{g:Lf}{x:Addr}(A:Ab a H ns nd M)(gd:Good ns low)(k:KeepN H H')(n0:0<=n)(n1:n < pgs ns)(P:Put nd (parts ns n) x nd')(lf:LfAt a H' x g): Ab a H' ns nd' (M.put n (some g)):=by
 refine⟨fun m h1 h2 h3=>?_,fun m g' h1 h2 h3=>?_⟩
 ·have c:m≠n:=fun z=>by rw[z,Mf.put_at] at h3;cases h3
  rw[Mf.put_ne c] at h3
  rw[P.page gd n0 n1 h1 h2,if_neg c]
  exact A.no m h1 h2 h3
 ·rw[P.page gd n0 n1 h1 h2]
  by_cases c:m=n
  ·rw[if_pos c]
   rw[c,Mf.put_at] at h3
   cases h3
   exact⟨x,rfl,lf⟩
  ·rw[if_neg c]
   rw[Mf.put_ne c] at h3
   obtain⟨y,e1,e2⟩:=A.so m g' h1 h2 h3
   exact⟨y,e1,k.lf e2⟩
theorem Ab.gone {a:Adr}{H H':Hp}{ns:List Int}{nd nd':Ix->Option Addr}{M:Mf}{n j:Int}(A:Ab a H ns nd M)(k:KeepN H H')(pv:∀m,0<=m->m < pgs ns->nd' (parts ns m)=goneM (fun m=>nd (parts ns m)) n j m): Ab a H' ns nd' (M.gone n j):=by
 refine⟨fun m h1 h2 h3=>?_,fun m g' h1 h2 h3=>?_⟩
 ·rw[pv m h1 h2]
  unfold goneM
  unfold Mf.gone at h3
  by_cases c:n<=m/\m < n+j
  ·rw[if_pos c]
  ·rw[if_neg c] at h3
   rw[if_neg c]
   exact A.no m h1 h2 h3
 ·rw[pv m h1 h2]
  unfold goneM
  unfold Mf.gone at h3
  by_cases c:n<=m/\m < n+j
  ·rw[if_pos c] at h3;cases h3
  ·rw[if_neg c] at h3
   rw[if_neg c]
   obtain⟨y,e1,e2⟩:=A.so m g' h1 h2 h3
   exact⟨y,e1,k.lf e2⟩
theorem Ab.chg {a:Adr}{H H':Hp}{ns:List Int}{nd nd':Ix->Option Addr}{M:Mf}{n j r:Int}{ys:List Addr}(A:Ab a H ns nd M)(k:KeepN H H')(yl:(ys.length:Int)=j)(all:∀i:Nat,(i:Int) < j->(nd (parts ns (n+i))).isSome=true)
  (ly:∀(i:Nat) x y g,nd (parts ns (n+i))=some x->LfAt a H x g->ys[i]?=some y->LfAt a H' y (g.withR r)) (pv:∀m,0<=m->m < pgs ns->nd' (parts ns m)=laidM (fun m=>nd (parts ns m)) n ys m):Ab a H' ns nd' (M.chg n j r):=by
 refine⟨fun m h1 h2 h3=>?_,fun m g' h1 h2 h3=>?_⟩
 ·rw[pv m h1 h2]
  unfold laidM
  unfold Mf.chg at h3
  rw[yl]
  by_cases c:n<=m/\m < n+j
  ·rw[if_pos c,Option.map_eq_none_iff] at h3
   have:=all (m-n).toNat (by omega)
   rw[show n+((m-n).toNat:Int)=m by omega,A.no m h1 h2 h3] at this
   cases this
  ·rw[if_neg c] at h3
   rw[if_neg c]
   exact A.no m h1 h2 h3
 ·rw[pv m h1 h2]
  unfold laidM
  unfold Mf.chg at h3
  rw[yl]
  by_cases c:n<=m/\m < n+j
  ·rw[if_pos c,Option.map_eq_some_iff] at h3
   obtain⟨g,hg,rfl⟩:=h3
   obtain⟨x,e1,e2⟩:=A.so m g h1 h2 hg
   rw[if_pos c]
   have e:ys[(m-n).toNat]?=some (ys[(m-n).toNat]'(by omega)):=List.getElem?_eq_getElem _
   exact⟨_,e,ly (m-n).toNat x _ g (by rw[show n+((m-n).toNat:Int)=m by omega];exact e1) e2 e⟩
  ·rw[if_neg c] at h3
   rw[if_neg c]
   obtain⟨y,e1,e2⟩:=A.so m g' h1 h2 h3
   exact⟨y,e1,k.lf e2⟩
theorem Ab.isS {a:Adr}{H:Hp}{ns:List Int}{nd:Ix->Option Addr}{M:Mf}(A:Ab a H ns nd M){m:Int}(h1:0<=m)(h2:m < pgs ns): (nd (parts ns m)).isSome=(M m).isSome:=by
 cases e:M m with
 | none=>rw[A.no m h1 h2 e];rfl
 | some g=>obtain⟨x,e1,_⟩:=A.so m g h1 h2 e;rw[e1];rfl
theorem Ab.leaf {a:Adr}{H:Hp}{ns:List Int}{nd:Ix->Option Addr}{M:Mf}(A:Ab a H ns nd M){m:Int}{x:Addr}(h1:0<=m)(h2:m < pgs ns)(h:nd (parts ns m)=some x): ∃g,M m=some g/\LfAt a H x g:=by
 cases e:M m with
 | none=>rw[A.no m h1 h2 e] at h;cases h
 | some g=>obtain⟨y,e1,e2⟩:=A.so m g h1 h2 e;rw[e1] at h;cases h;exact⟨g,rfl,e2⟩
theorem sorted_one:∀{ns ms:List Int},ns.Pairwise (· < ·)->ms.Pairwise (· < ·)->(∀k,k∈ns↔k∈ms)->ns=ms
 | [],[],_,_,_=>rfl
 | [],b::ms,_,_,h=>by have:=(h b).mpr List.mem_cons_self;cases this
 | a::ns,[],_,_,h=>by have:=(h a).mp List.mem_cons_self;cases this
 | a::ns,b::ms,h1,h2,h=>by
  obtain⟨p1,p2⟩:=List.pairwise_cons.mp h1
  obtain⟨q1,q2⟩:=List.pairwise_cons.mp h2
  have e:a=b:=by
   rcases List.mem_cons.mp ((h a).mp List.mem_cons_self) with x | x
   ·exact x
   ·rcases List.mem_cons.mp ((h b).mpr List.mem_cons_self) with y | y
    ·exact y.symm
    ·have:=q1 a x;have:=p1 b y;omega
  subst e
  rw[sorted_one p2 q2 fun k=>⟨fun hk=>?_,fun hk=>?_⟩]
  ·rcases List.mem_cons.mp ((h k).mp (List.mem_cons_of_mem _ hk)) with x | x
   ·have:=p1 k hk;omega
   ·exact x
  ·rcases List.mem_cons.mp ((h k).mpr (List.mem_cons_of_mem _ hk)) with x | x
   ·have:=q1 k hk;omega
   ·exact x
def spAll18 (a:Adr): Sp:=fun vs H Q _=>∃(p d:Addr) (ns:List Int) (low task:Int) (nd:Ix->Option Addr) (fp:List Addr) (cn:Nat) (M:Mf) (kvs:List (Key×V)) (ks:List Int),vs=[.ref p,.ref d]/\SpAt a H p ns low task nd fp cn/\Ab a H ns nd M/\Kp H d M kvs ks/\(∀n g,M n=some g->(0<=n/\n < pgs ns)/\g.ok)/\ks.length < 64/\∀H',Same H H'->Q (.bl true) H'
section
variable {P:Program}{w:World}{K:PySem.W.Frag}{mg:Str->Option Value}{base:Heap}{a:Adr}
theorem ok__law_all {dvs:List V} (R:RawF K mg "_law_all" s__law_all ["_law_space", "_law_own"] dvs) (T:Txt w K mg a)
  (h_Space_rows:HasMe P w K mg base a.c_Space 3 "rows" ["self"] (spSpRows a) [])
  (h__law_whole:HasFn P w K mg base 1 "_law_whole" ["_law_found"] (spWhole) [])
  (h__law_like:HasFn P w K mg base 2 "_law_like" ["_law_found", "_law_due"] (spLikeT) [])
  (h_Fresh_row:HasMe P w K mg base a.c_Fresh 1 "row" ["self"] (spRowK a 0) [])
  (h_Held_row:HasMe P w K mg base a.c_Held 1 "row" ["self"] (spRowK a 1) [])
  (h_Out_row:HasMe P w K mg base a.c_Out 1 "row" ["self"] (spRowK a 2) [])
  (h_Named_row:HasMe P w K mg base a.c_Named 1 "row" ["self"] (spRowK a 3) []) :
  HasFn P w K mg base 4 "_law_all" ["_law_space", "_law_own"] (spAll18 a) dvs:=by
 refine R.ok sc__law_all (fun vs H Q E h=>?_) (fun f cdv A outer s H vs Q E hr h=>?_)
 ·obtain⟨p,d,ns,low,task,nd,fp,cn,M,kvs,ks,rfl,_⟩:=h
  rfl
 obtain⟨p,d,ns,low,task,nd,fp,cn,M,kvs,ks,rfl,S,A0,KP,inn,k63,k⟩:=h
 refine⟨_,(@pss_cons _ _ _ _ _ (@ps_set _ _ 2 _ _ _ _ sc__law_all.nd rfl (by first | exact Or.inl rfl | exact Or.inr rfl) (pe_me0 (pv 0) T.cl_Space h_Space_rows (hr.mono (by decide)) pass_def) (by rfl) (by first | exact Or.inl rfl | exact Or.inr rfl))
   (@pss_cons _ _ _ _ _ (@ps_set _ _ 3 _ _ _ _ sc__law_all.nd rfl (by first | exact Or.inl rfl | exact Or.inr rfl) (pe_callB (call_sortedD hr.hd) (by rfl) T.b_sorted PyProof.Rows.Boot.«sorted» (@pa_cn _ _ _ _ _ (pv 1) pa_nil rfl)) (by rfl) (by first | exact Or.inl rfl | exact Or.inr rfl))
   (@pss_cons _ _ _ _ _ (ps_if (PW.pt (pw_or (pt_not (pt_val (pe_callB call_isinst (by rfl) T.b_isinstance PyProof.Rows.Boot.«isinstance» (@pa_cn _ _ _ _ _ (pv 2) (@pa_cn _ _ _ _ _ (pe_bltn (v:=.ty "list") (by rfl) T.b_list PyProof.Rows.Boot.«list» rfl) pa_nil rfl) rfl)))) (pw_or1 (pt_cmpR op_ne (pe_callB call_len_seq (by rfl) T.b_len PySem.boot_len (@pa_cn _ _ _ _ _ (pv 2) pa_nil rfl)) (pe_callB call_len_seq (by rfl) T.b_len PySem.boot_len (@pa_cn _ _ _ _ _ (pv 3) pa_nil rfl)) (nomark _))))) (@pss_one _ _ _ (@ps_ret _ _ _ _ pe_bl)) pss_nil)
   (@pss_cons _ _ _ _ _ (ps_for own_def rfl (pi_range1 (by rfl) T.b_range (@pa_cn _ _ _ _ _ (pe_callB call_len_seq (by rfl) T.b_len PySem.boot_len (@pa_cn _ _ _ _ _ (pv 3) pa_nil rfl)) pa_nil rfl)) (pg_name (i:=4) sc__law_all.nd rfl (by first | exact Or.inl rfl | exact Or.inr rfl))
   (@pss_cons _ _ _ _ _ (ps_if (PW.pt (pw_or (pt_not (pt_val (pe_callB call_isinst (by rfl) T.b_isinstance PyProof.Rows.Boot.«isinstance» (@pa_cn _ _ _ _ _ (@pe_ix _ _ _ _ _ _ _ ix_list (pv 2) (pv 4) (fun _ _=>rfl)) (@pa_cn _ _ _ _ _ (pe_bltn (v:=.ty "tuple") (by rfl) T.b_tuple PyProof.Rows.Boot.«tuple» rfl) pa_nil rfl) rfl)))) (pw_or (pt_cmpR op_ne (pe_callB call_len_seq (by rfl) T.b_len PySem.boot_len (@pa_cn _ _ _ _ _ (@pe_ix _ _ _ _ _ _ _ ix_list (pv 2) (pv 4) (fun _ _=>rfl)) pa_nil rfl)) pe_int (nomark _)) (pw_or1 (pt_not (pt_val (pe_fn h__law_whole (hr.mono (by decide)) (by rfl) pass_def (@pa_cn _ _ _ _ _ (@pe_ix _ _ _ _ _ _ _ ix_tup (@pe_ix _ _ _ _ _ _ _ ix_list (pv 2) (pv 4) (fun _ _=>rfl)) pe_int (fun _ _=>rfl)) pa_nil rfl)))))))) (@pss_one _ _ _ (@ps_ret _ _ _ _ pe_bl)) pss_nil)
   (@pss_one _ _ _ (ps_if (PW.pt (pw_or (pt_cmpR op_ne (@pe_ix _ _ _ _ _ _ _ ix_tup (@pe_ix _ _ _ _ _ _ _ ix_list (pv 2) (pv 4) (fun _ _=>rfl)) pe_int (fun _ _=>rfl)) (@pe_ix _ _ _ _ _ _ _ ix_list (pv 3) (pv 4) (fun _ _=>rfl)) (nomark _)) (pw_or1 (pt_not (pt_val (pe_fn h__law_like (hr.mono (by decide)) (by rfl) pass_def (@pa_cn _ _ _ _ _ (pe_meD0 (k:=1) (m := "row") (dvs:=[]) (@pe_ix _ _ _ _ _ _ _ ix_tup (@pe_ix _ _ _ _ _ _ _ ix_list (pv 2) (pv 4) (fun _ _=>rfl)) pe_int (fun _ _=>rfl)) (hr.mono (by decide)) pass_def (by rfl)) (@pa_cn _ _ _ _ _ (pe_dget hr.u1 (pv 1) (@pe_ix _ _ _ _ _ _ _ ix_list (pv 3) (pv 4) (fun _ _=>rfl)) (fun _ _=>rfl)) pa_nil rfl) rfl))))))) (@pss_one _ _ _ (@ps_ret _ _ _ _ pe_bl)) pss_nil))))
   (@pss_one _ _ _ (@ps_ret _ _ _ _ pe_bl)))))),?_⟩
 have t1:=T.cl_Space
 have kl:=kit_self K (.type "list")
 have kt:=kit_self K (.type "tuple")
 have gd:=S.good
 obtain⟨dx,sh,tr,dt,sh2,top,dxs,ts,hp,_⟩:=id S
 have cov:=S.cov (ks:=ks) fun m m0 m1 h=>(KP.mem m).mpr (by rw[<-A0.isS m0 m1];exact h)
 have c64:(ks.map (parts ns)).length < 64:=by rw[List.length_map];exact k63
 walk_at "go"
 intro q us R H1 RA lv s1 hq
 have KP1:=KP.same s1
 have hd1:=KP1.h
 have id1:IsD H1 d:=.inl ⟨kvs,Rd.of hd1⟩
 have ik1:=KP1.ik
 walk_at "go"
 intro q2 js hq2 pm srt2
 generalize hh:upd _ q2 _=H2
 obtain⟨s2,e2⟩:=newO hq2 hh
 clear hh
 have jj:R.map (·.1)=js:=by
  refine sorted_one (List.pairwise_map.mpr lv.1) (sorted_lt srt2 (pm.nodup_iff.mpr (iKeys_nd KP1.ik KP1.nd))) fun n=>?_
  rw[pm.mem_iff,KP1.mem,List.mem_map]
  constructor
  ·rintro⟨r,hr,rfl⟩
   obtain⟨h1,h2,h3⟩:=(lv.2 r.1 r.2).mp hr
   rw[List.take_length,span_pgs] at h2
   rw[List.take_length] at h3
   rw[<-A0.isS h1 h2,h3];rfl
  ·intro h
   cases e:M n with
   | none=>rw[e] at h;cases h
   | some g =>
    obtain⟨⟨n0,n1⟩,_⟩:=inn n g e
    obtain⟨x,e1,_⟩:=A0.so n g n0 n1 e
    exact⟨(n,x),(lv.2 n x).mpr ⟨n0,by rw[List.take_length,span_pgs];exact n1,by rw[List.take_length];exact e1⟩,rfl⟩
 subst jj
 have s12:=s1.trans s2
 have hq2':=s2 _ _ RA.l
 have jl:(R.map (·.1)).length < 64:=by rw[pm.length_eq];exact k63
 have l1:(us.map V.ref).length=R.length:=by rw[List.length_map,RA.n]
 have l2:((R.map (·.1)).map V.int).length=R.length:=by rw[List.length_map,List.length_map]
 have tq:TyE K H2 (.ref q) (.type "list"):=.of (.lst hq2')
 walk_at "go"
 refine iteN (fun z=>absurd (by rw[l1,l2]) z) (fun _=>?_)
 clear cov c64 pm srt2 hd1 ik1 id1 tq
 rw[List.length_map] at jl
 walk_at "go"
 refine for_range (fun i σ H'=>Bx ((∃v4,σ=[some (.ref p),some (.ref d),some (.ref q),some (.ref q2),v4])/\∀b u,H2 b=some u->H' b=some u)) ⟨⟨⟨_,rfl⟩,fun _ _ e=>e⟩⟩ ?_ ?_
 ·rintro i σ H3 hi ⟨⟨v4,rfl⟩,s3⟩
  have s23:Same H2 H3:=s3
  have s03:=s12.trans s23
  have il:i < R.length:=by rw[l2] at hi;omega
  have er:R[i]?=some R[i]:=List.getElem?_eq_getElem il
  generalize R[i]=r at er
  obtain⟨n,x⟩:=r
  obtain⟨n0,n1,hx⟩:=(lv.2 n x).mp (List.mem_of_getElem? er)
  rw[List.take_length,span_pgs] at n1
  rw[List.take_length] at hx
  obtain⟨g,hg,lf⟩:=A0.leaf n0 n1 hx
  have ok:=(inn n g hg).2
  have eu:us[i]?=some (us[i]'(by rw[RA.n];exact il)):=List.getElem?_eq_getElem _
  generalize us[i]'(by rw[RA.n];exact il)=u at eu
  have hu:H1 u=some (.tup [.int n,.ref x]):=RA.t i u _ eu er
  have hu3:=s23 _ _ (s2 _ _ hu)
  have hq3:=s23 _ _ hq2'
  have e23:=s23 _ _ e2
  have a1:atI (us.map V.ref) (0+(i:Int))=some (.ref u):=by rw[Int.zero_add];exact atI_nat (by rw[List.getElem?_map,eu];rfl)
  have a2:atI ((R.map (·.1)).map V.int) (0+(i:Int))=some (.int n):=by rw[Int.zero_add];exact atI_nat (by rw[List.getElem?_map,List.getElem?_map,er];rfl)
  have tt:TyE K H3 (.ref u) (.type "tuple"):=.of (.tup hu3)
  have b0:atI [V.int n,V.ref x] 0=some (.int n):=rfl
  have b1:atI [V.int n,V.ref x] 1=some (.ref x):=rfl
  have lf3:=lf.same s03
  obtain⟨C,dxl,fs,f1,f2,f3,f4⟩:∃C dx fs,H3 x=some (.ins C dx fs)/\Cls K C/\HasMe P w K mg base C 1 "row" ["self"] (spRowK a g.kind) []/\fs.lookup ("row" : Str)=none:=by
   obtain⟨dl,hl⟩:=id lf3
   cases g with
   | fresh r=>exact⟨_,_,_,hl,T.cl_Fresh,h_Fresh_row,by walk_at "lk"⟩
   | held r f=>exact⟨_,_,_,hl,T.cl_Held,h_Held_row,by walk_at "lk"⟩
   | out r f=>exact⟨_,_,_,hl,T.cl_Out,h_Out_row,by walk_at "lk"⟩
   | named r n f=>exact⟨_,_,_,hl,T.cl_Named,h_Named_row,by walk_at "lk"⟩
  obtain⟨t,vt,ht⟩:=(KP.same s03).so n g hg
  walk_at "go"
  refine iteNS rfl ?_
  walk_at "go"
  intro v hv
  generalize hh:upd _ v _=H4
  obtain⟨s4,e4⟩:=newO hv hh
  clear hh
  have hd4:=s4 _ _ (KP.same s03).h
  have gg:DGet H4 d (.int n) (valV kvs (.inl n)):=DGet.k (k:=Sum.inl n) hd4
  rw[vt] at gg
  have ht4:=s4 _ _ ht
  have e24:=s4 _ _ e23
  walk_at "go"
  exact⟨⟨⟨_,rfl⟩,fun b u' e=>s4 _ _ (s3 _ _ e)⟩⟩
 ·rintro σ H3 ⟨⟨v4,rfl⟩,s3⟩
  walk_at "go"
  exact k H3 (s12.trans s3)
end
end K18

set_option maxHeartbeats 4000000
namespace K18
open PySem L2
def FltE (H:Hp)(e:Addr)(C:Addr)(task ad:Int)(dd:Str): Prop:=∃d,H e=some (exO e (.ref C) (some d))/\H d=some (xdW d (fltF (.int task) (.int ad) (.str dd)))
theorem FltE.same {H H':Hp}{e C:Addr}{task ad:Int}{dd:Str}(h:FltE H e C task ad dd)(s:Same H H'): FltE H' e C task ad dd:=let ⟨d,q1,q2⟩:=h;⟨d,s _ _ q1,s _ _ q2⟩
def Told18 (a:Adr)(H:Hp)(v:V)(i:Int): Prop:=(v=.non/\i=0)\/(∃e,v=.ref e/\H e=some (exO e (.ref a.c_NoStretch) none)/\i=1)\/(∃e,v=.ref e/\H e=some (exO e (.ref a.c_NoRights) none)/\i=2)\/(∃e task ad dd,v=.ref e/\FltE H e a.c_Unmapped task ad dd/\i=3)
def spCode18 (a:Adr): Sp:=fun vs H Q _=>∃(v:V) (i:Int),vs=[v]/\Told18 a H v i/\∀H',Same H H'->Q (.int i) H'
section
variable {P:Program}{w:World}{K:PySem.W.Frag}{mg:Str->Option Value}{base:Heap}{a:Adr}
theorem ok__law_code {dvs:List V} (R:RawF K mg "_law_code" s__law_code ["_law_refusal"] dvs) (T:Txt w K mg a) :
  HasFn P w K mg base 1 "_law_code" ["_law_refusal"] (spCode18 a) dvs:=by
 refine R.ok sc__law_code (fun vs H Q E h=>?_) (fun f cdv A outer s H vs Q E hr h=>?_)
 ·obtain⟨v,i,rfl,_⟩:=h
  rfl
 obtain⟨v,i,rfl,tl,k⟩:=h
 refine⟨_,(@pss_cons _ _ _ _ _ (ps_if (pt_cmpR op_isN (pv 0) pe_non (nomark _)) (@pss_one _ _ _ (@ps_ret _ _ _ _ pe_int)) pss_nil)
   (@pss_cons _ _ _ _ _ (ps_if (PW.pt (pw_or (pt_not (pt_val (pe_callB call_isinst (by rfl) T.b_isinstance PyProof.Rows.Boot.«isinstance» (@pa_cn _ _ _ _ _ (pv 0) (@pa_cn _ _ _ _ _ (pe_bltn (v:=.ty "ValueError") (by rfl) T.b_ValueError PyProof.Rows.Boot.«ValueError» rfl) pa_nil rfl) rfl)))) (pw_or1 (pt_val (pe_callB call_isinstT (by rfl) T.b_isinstance PyProof.Rows.Boot.«isinstance» (@pa_cn _ _ _ _ _ (pv 0) (@pa_cn _ _ _ _ _ (@pe_tup _ _ _ _ _ (@pa_cn _ _ _ _ _ (pe_glob (v:=.ref a.c_Barred) (by rfl) T.m_Barred rfl) (@pa_cn _ _ _ _ _ (pe_glob (v:=.ref a.c_NoAddress) (by rfl) T.m_NoAddress rfl) (@pa_cn _ _ _ _ _ (pe_glob (v:=.ref a.c_Taken) (by rfl) T.m_Taken rfl) pa_nil rfl) rfl) rfl)) pa_nil rfl) rfl)))))) (@pss_one _ _ _ (@ps_ret _ _ _ _ pe_int)) pss_nil)
   (@pss_cons _ _ _ _ _ (@ps_set _ _ 1 _ _ _ _ sc__law_code.nd rfl (by first | exact Or.inl rfl | exact Or.inr rfl) (@pe_lst _ _ _ _ (@pa_cn _ _ _ _ _ (pe_callB call_isinst (by rfl) T.b_isinstance PyProof.Rows.Boot.«isinstance» (@pa_cn _ _ _ _ _ (pv 0) (@pa_cn _ _ _ _ _ (pe_glob (v:=.ref a.c_NoStretch) (by rfl) T.m_NoStretch rfl) pa_nil rfl) rfl)) (@pa_cn _ _ _ _ _ (pe_callB call_isinst (by rfl) T.b_isinstance PyProof.Rows.Boot.«isinstance» (@pa_cn _ _ _ _ _ (pv 0) (@pa_cn _ _ _ _ _ (pe_glob (v:=.ref a.c_NoRights) (by rfl) T.m_NoRights rfl) pa_nil rfl) rfl)) (@pa_cn _ _ _ _ _ (pe_callB call_isinst (by rfl) T.b_isinstance PyProof.Rows.Boot.«isinstance» (@pa_cn _ _ _ _ _ (pv 0) (@pa_cn _ _ _ _ _ (pe_glob (v:=.ref a.c_Unmapped) (by rfl) T.m_Unmapped rfl) pa_nil rfl) rfl)) pa_nil rfl) rfl) rfl)) (by rfl) (by first | exact Or.inl rfl | exact Or.inr rfl))
   (@pss_cons _ _ _ _ _ (ps_if (pt_cmpR op_ne (pe_bm PySem.F.plainAttrs_list PySem.F.slot_list_count PySem.F.type_list_count mt_countV (pv 1) (@pa_cn _ _ _ _ _ pe_bl pa_nil rfl)) pe_int (nomark _)) (@pss_one _ _ _ (@ps_ret _ _ _ _ pe_int)) pss_nil)
   (@pss_one _ _ _ (@ps_ret _ _ _ _ (pe_op op_add pe_int (pe_bm PySem.F.plainAttrs_list PySem.F.slot_list_index PySem.F.type_list_index mt_indexV (pv 1) (@pa_cn _ _ _ _ _ pe_bl pa_nil rfl))))))))),?_⟩
 rcases tl with ⟨rfl,rfl⟩ | ⟨e,rfl,he,rfl⟩ | ⟨e,rfl,he,rfl⟩ | ⟨e,task,ad,dd,rfl,F,rfl⟩
 ·walk_at "go"
  exact k H (.refl _)
 ·have ty:TyE K H (.ref e) (.ref a.c_NoStretch):=.exc he T.i_NoStretch T.isk
  have f0:=T.k_SS;have f1:=T.k_SR;have f2:=T.k_SU;have f3:=T.k_SV;have f4:=T.k_SN
  walk_at "go"
  intro tq htq
  generalize hh:upd _ tq _=H1
  obtain⟨s1,e1⟩:=newO htq hh
  clear hh
  have ty1:TyE K H1 (.ref e) (.ref a.c_NoStretch):=.exc (s1 _ _ he) T.i_NoStretch T.isk
  walk_at "go"
  intro lq hlq
  generalize hh:upd _ lq _=H2
  obtain⟨s2,e2⟩:=newO hlq hh
  clear hh
  have fl:[V.bl true,V.bl false,V.bl false].all flatV=true:=rfl
  have fy:flatV (V.bl true)=true:=rfl
  have q1:∃z,[V.bl true,V.bl false,V.bl false][0]?=some z/\eqV z (V.bl true)=true:=⟨_,rfl,rfl⟩
  have q2:∀m z,m < 0->[V.bl true,V.bl false,V.bl false][m]?=some z->eqV z (V.bl true)=false:=fun m z hm hz=>by
   match m,hm with
   | m+0,hm=>omega
  walk_at "go"
  exact k H2 (s1.trans s2)
 ·have ty:TyE K H (.ref e) (.ref a.c_NoRights):=.exc he T.i_NoRights T.isk
  have f0:=T.k_RS;have f1:=T.k_RR;have f2:=T.k_RU;have f3:=T.k_RV;have f4:=T.k_RN
  walk_at "go"
  intro tq htq
  generalize hh:upd _ tq _=H1
  obtain⟨s1,e1⟩:=newO htq hh
  clear hh
  have ty1:TyE K H1 (.ref e) (.ref a.c_NoRights):=.exc (s1 _ _ he) T.i_NoRights T.isk
  walk_at "go"
  intro lq hlq
  generalize hh:upd _ lq _=H2
  obtain⟨s2,e2⟩:=newO hlq hh
  clear hh
  have fl:[V.bl false,V.bl true,V.bl false].all flatV=true:=rfl
  have fy:flatV (V.bl true)=true:=rfl
  have q1:∃z,[V.bl false,V.bl true,V.bl false][1]?=some z/\eqV z (V.bl true)=true:=⟨_,rfl,rfl⟩
  have q2:∀m z,m < 1->[V.bl false,V.bl true,V.bl false][m]?=some z->eqV z (V.bl true)=false:=fun m z hm hz=>by
   match m,hm with
   | 0,_=>cases hz;rfl
   | m+1,hm=>omega
  walk_at "go"
  exact k H2 (s1.trans s2)
 ·obtain⟨d,he,hd⟩:=F
  have ty:TyE K H (.ref e) (.ref a.c_Unmapped):=.excd he hd T.i_Unmapped T.isk
  have f0:=T.k_US;have f1:=T.k_UR;have f2:=T.k_UU;have f3:=T.k_UV;have f4:=T.k_UN
  walk_at "go"
  intro tq htq
  generalize hh:upd _ tq _=H1
  obtain⟨s1,e1⟩:=newO htq hh
  clear hh
  have ty1:TyE K H1 (.ref e) (.ref a.c_Unmapped):=.excd (s1 _ _ he) (s1 _ _ hd) T.i_Unmapped T.isk
  walk_at "go"
  intro lq hlq
  generalize hh:upd _ lq _=H2
  obtain⟨s2,e2⟩:=newO hlq hh
  clear hh
  have fl:[V.bl false,V.bl false,V.bl true].all flatV=true:=rfl
  have fy:flatV (V.bl true)=true:=rfl
  have q1:∃z,[V.bl false,V.bl false,V.bl true][2]?=some z/\eqV z (V.bl true)=true:=⟨_,rfl,rfl⟩
  have q2:∀m z,m < 2->[V.bl false,V.bl false,V.bl true][m]?=some z->eqV z (V.bl true)=false:=fun m z hm hz=>by
   match m,hm with
   | 0,_=>cases hz;rfl
   | 1,_=>cases hz;rfl
   | m+2,hm=>omega
  walk_at "go"
  exact k H2 (s1.trans s2)
end
theorem SpAt.inr {a:Adr}{H:Hp}{p:Addr}{ns:List Int}{low task:Int}{nd:Ix->Option Addr}{fp:List Addr}{cn:Nat}{m:Int}{x:Addr}(S:SpAt a H p ns low task nd fp cn)(h:nd (parts ns m)=some x): ∃m',0<=m'/\m' < pgs ns/\nd (parts ns m')=some x:=by
 have g:=S.good
 obtain⟨dx,sh,tr,dt,sh2,top,dxs,ts,h1,h2,h3,_⟩:=S
 have f:=h3.ib _ x h
 rw[parts_len,List.take_length] at f
 have gl:=glue_lt g.nn f
 exact⟨_,gl.1,gl.2,by rw[parts_glue f];exact h⟩
def spDone18 (a:Adr): Sp:=fun vs H Q _=>∃(p:Addr) (way:Str) (f s r:Int) (ns:List Int) (low task:Int) (nd:Ix->Option Addr) (fp:List Addr) (cn:Nat),vs=[.ref p,.str way,.int f,.int s,.int r]/\SpAt a H p ns low task nd fp cn/\cn < 90000/\(∀m x,0<=m->m < pgs ns->nd (parts ns m)=some x->∃g:Lf,LfAt a H x g)/\(way = "unmap" ∨ way = "rights") ∧
 (¬Strt ns f s->∀t e H',H' t=some (.tup [.non,.ref e])->H' e=some (exO e (.ref a.c_NoStretch) none)->Same H H'->Q (.ref t) H') ∧
 (Strt ns f s->way = "rights" -> ¬OkR r->∀t e H',H' t=some (.tup [.non,.ref e])->H' e=some (exO e (.ref a.c_NoRights) none)->Same H H'->Q (.ref t) H') ∧
 (Strt ns f s->(way = "rights" -> OkR r)->∀j:Nat,(j:Int) < s->Hole ns nd f j->∀t e H',H' t=some (.tup [.non,.ref e])->FltE H' e a.c_Unmapped task ((f+j)*plc low) way->Same H H'->Q (.ref t) H') ∧
 (Strt ns f s->way = "unmap" -> ∀(t q:Addr) (xs:List Addr) nd' H',H' t=some (.tup [.ref q,.non])->H' q=some (.lst (xs.map V.ref))->H q=none->(xs.length:Int)=s->(∀(i:Nat) x,xs[i]?=some x->nd (parts ns (f+i))=some x)->SpAt a H' p ns low task nd' fp cn->(∀m',0<=m'->m' < pgs ns->nd' (parts ns m')=goneM (fun m=>nd (parts ns m)) f s m')->L2.Fr fp fp H H'->Q (.ref t) H') ∧
 (Strt ns f s->way = "rights" -> OkR r->(∀j:Nat,(j:Int) < s->(nd (parts ns (f+j))).isSome=true)->∀(t:Addr) (ys:List Addr) nd' fp' H',H' t=some (.tup [.non,.non])->(ys.length:Int)=s->SpAt a H' p ns low task nd' fp' (cn+64)->(∀(i:Nat) x y g,nd (parts ns (f+i))=some x->LfAt a H x g->ys[i]?=some y->LfAt a H' y (g.withR r))->(∀m',0<=m'->m' < pgs ns->nd' (parts ns m')=laidM (fun m=>nd (parts ns m)) f ys m')->L2.Fr fp fp' H H'->(∀b∈fp,b∈fp')->Q (.ref t) H')
section
variable {P:Program}{w:World}{K:PySem.W.Frag}{mg:Str->Option Value}{base:Heap}{a:Adr}
theorem ok__law_done {dvs:List V} (R:RawF K mg "_law_done" s__law_done ["_law_space", "_law_way", "_law_first", "_law_many", "_law_rights"] dvs) (T:Txt w K mg a)
  (h_Space_lift:HasMe P w K mg base a.c_Space 8 "lift" ["self", "first", "many"] (spLift a) [])
  (h_Space_change:HasMe P w K mg base a.c_Space 8 "change" ["self", "first", "many", "rights"] (spChange a) []) :
  HasFn P w K mg base 9 "_law_done" ["_law_space", "_law_way", "_law_first", "_law_many", "_law_rights"] (spDone18 a) dvs:=by
 refine R.ok sc__law_done (fun vs H Q E h=>?_) (fun f cdv A outer s H vs Q E hr h=>?_)
 ·obtain⟨p,way,fi,sn,r,ns,low,task,nd,fp,cn,rfl,_⟩:=h
  rfl
 obtain⟨p,way,fi,sn,r,ns,low,task,nd,fp,cn,rfl,S,cc,lv,hw,k1,k2,k3,k4,k5⟩:=h
 refine⟨_,(@pss_cons _ _ _ _ _ (@ps_set _ _ 5 _ _ _ _ sc__law_done.nd rfl (by first | exact Or.inl rfl | exact Or.inr rfl) pe_non (by rfl) (by first | exact Or.inl rfl | exact Or.inr rfl))
   (@pss_cons _ _ _ _ _ (@ps_set _ _ 6 _ _ _ _ sc__law_done.nd rfl (by first | exact Or.inl rfl | exact Or.inr rfl) pe_non (by rfl) (by first | exact Or.inl rfl | exact Or.inr rfl))
   (@pss_cons _ _ _ _ _ (ps_try_as (i:=7) rfl rfl rfl rfl T.x_LeafError (by rfl) T.m_LeafError sc__law_done.nd rfl rfl
   (fun pn xe EX hx=>(@pss_one _ _ _ (ps_if (pt_cmpR op_eq (pv 1) pe_str (nomark _)) (@pss_one _ _ _ (@ps_set _ _ 5 _ _ _ _ sc__law_done.nd rfl (by first | exact Or.inl rfl | exact Or.inr rfl) (pe_me (pv 0) T.cl_Space h_Space_lift (hr.mono (by decide)) hx (@pa_cn _ _ _ _ _ (pv 2) (@pa_cn _ _ _ _ _ (pv 3) pa_nil rfl) rfl)) (by rfl) (by first | exact Or.inl rfl | exact Or.inr rfl))) (@pss_one _ _ _ (ps_expr (pe_me (pv 0) T.cl_Space h_Space_change (hr.mono (by decide)) hx (@pa_cn _ _ _ _ _ (pv 2) (@pa_cn _ _ _ _ _ (pv 3) (@pa_cn _ _ _ _ _ (pv 4) pa_nil rfl) rfl) rfl)))))))
   (fun pn A' xe=>(@pss_one _ _ _ (@ps_set _ _ 6 _ _ _ _ sc__law_done.nd rfl (by first | exact Or.inl rfl | exact Or.inr rfl) (pv 7) (by rfl) (by first | exact Or.inl rfl | exact Or.inr rfl)))))
   (@pss_one _ _ _ (@ps_ret _ _ _ _ (@pe_tup _ _ _ _ _ (@pa_cn _ _ _ _ _ (pv 5) (@pa_cn _ _ _ _ _ (pv 6) pa_nil rfl) rfl))))))),?_⟩
 have t1:=T.cl_Space
 have m1:=T.s_NoStretch;have m2:=T.s_Unmapped;have m3:=T.s_NoRights
 have SA:=S
 obtain⟨dx,sh,tr,dt,sh2,top,dxs,ts,hp,_⟩:=id S
 rcases hw with rfl | rfl
 ·walk_at "go"
  refine⟨fun z=>?_,fun st j jl ho d H1 hd s1=>?_,fun st xs xl xa q nd' H1 S1 hq pv fr q0=>?_⟩
  ·walk_at "go"
   intro e he
   generalize hh:upd _ e _=H1
   obtain⟨s1,e1⟩:=newO he hh
   clear hh
   walk_at "go"
   intro t ht
   generalize hh:upd _ t _=H2
   obtain⟨s2,e2⟩:=newO ht hh
   clear hh
   exact k1 z t e H2 e2 (s2 _ _ e1) (s1.trans s2)
  ·walk_at "go"
   intro e he
   generalize hh:upd _ e _=H2
   obtain⟨s2,e2⟩:=newO he hh
   clear hh
   walk_at "go"
   intro t ht
   generalize hh:upd _ t _=H3
   obtain⟨s3,e3⟩:=newO ht hh
   clear hh
   exact k3 st (fun z=>absurd z (by decide +kernel)) j jl ho t e H3 e3 ⟨d,s3 _ _ e2,s3 _ _ (s2 _ _ hd)⟩ ((s1.trans s2).trans s3)
  ·walk_at "go"
   intro t ht
   generalize hh:upd _ t _=H2
   obtain⟨s2,e2⟩:=newO ht hh
   clear hh
   exact k4 st rfl t q xs nd' H2 e2 (s2 _ _ hq) q0 xl xa (S1.same s2) pv (fr.trans (L2.Fr.same s2))
 ·have lvi:∀(i:Nat) x,(i:Int) < sn->nd (parts ns (fi+i))=some x->∃g,LfAt a H x g:=fun i x il e=>by
   obtain⟨m',h1,h2,h3⟩:=SA.inr e
   exact lv m' x h1 h2 h3
  walk_at "go"
  refine⟨fun z=>?_,fun st bad H1 s1=>?_,fun st okr j jl ho d H1 hd s1=>?_,fun st okr all ys nd' fp' H1 yl S1 ly pv fr sub=>?_⟩
  ·walk_at "go"
   intro e he
   generalize hh:upd _ e _=H1
   obtain⟨s1,e1⟩:=newO he hh
   clear hh
   walk_at "go"
   intro t ht
   generalize hh:upd _ t _=H2
   obtain⟨s2,e2⟩:=newO ht hh
   clear hh
   exact k1 z t e H2 e2 (s2 _ _ e1) (s1.trans s2)
  ·walk_at "go"
   intro e he
   generalize hh:upd _ e _=H2
   obtain⟨s2,e2⟩:=newO he hh
   clear hh
   walk_at "go"
   intro t ht
   generalize hh:upd _ t _=H3
   obtain⟨s3,e3⟩:=newO ht hh
   clear hh
   exact k2 st rfl bad t e H3 e3 (s3 _ _ e2) ((s1.trans s2).trans s3)
  ·walk_at "go"
   intro e he
   generalize hh:upd _ e _=H2
   obtain⟨s2,e2⟩:=newO he hh
   clear hh
   walk_at "go"
   intro t ht
   generalize hh:upd _ t _=H3
   obtain⟨s3,e3⟩:=newO ht hh
   clear hh
   exact k3 st (fun _=>okr) j jl ho t e H3 e3 ⟨d,s3 _ _ e2,s3 _ _ (s2 _ _ hd)⟩ ((s1.trans s2).trans s3)
  ·walk_at "go"
   intro t ht
   generalize hh:upd _ t _=H2
   obtain⟨s2,e2⟩:=newO ht hh
   clear hh
   exact k5 st rfl okr all t ys nd' fp' H2 e2 yl (S1.same s2) (fun i x y g a1 a2 a3=>(ly i x y g a1 a2 a3).same s2) pv (fr.trans (L2.Fr.same s2)) sub
end
end K18

set_option maxHeartbeats 4000000
namespace K18
open PySem L2
def spLayRef18 (a:Adr): Sp:=fun vs H Q _=>∃(p:Addr) (f m:Int) (ns:List Int) (low task:Int) (nd:Ix->Option Addr) (fp:List Addr) (cn:Nat),vs=[.ref p,.int f,.int m]/\SpAt a H p ns low task nd fp cn/\cn < 90000/\0<=m/\m<=65/\¬Strt ns f m/\∀H',Same H H'->Q (.bl true) H'
def spOut18 (a:Adr): Sp:=fun vs H Q _=>∃(p:Addr) (b:Bool) (n:Int) (ns:List Int) (low task:Int) (nd:Ix->Option Addr) (fp:List Addr) (cn:Nat),vs=[.ref p,.bl b,.int n]/\SpAt a H p ns low task nd fp cn/\cn < 90000/\¬(0<=n/\n < pgs ns)/\∀H',Same H H'->Q (.bl true) H'
section
variable {P:Program}{w:World}{K:PySem.W.Frag}{mg:Str->Option Value}{base:Heap}{a:Adr}
theorem ok__law_lay_refused {dvs:List V} (R:RawF K mg "_law_lay_refused" s__law_lay_refused ["_law_space", "_law_first", "_law_many"] dvs) (T:Txt w K mg a)
  (h_Space_lay:HasMe P w K mg base a.c_Space 7 "lay" ["self", "first", "leaves"] (spSpLay a) [])
  (h_Fresh___init__:HasMk P w K mg base a.c_Fresh 2 ["self", "rights"] (spLeafInit a K) [])
  (h__law_code:HasFn P w K mg base 1 "_law_code" ["_law_refusal"] (spCode18 a) []) :
  HasFn P w K mg base 8 "_law_lay_refused" ["_law_space", "_law_first", "_law_many"] (spLayRef18 a) dvs:=by
 refine R.ok sc__law_lay_refused (fun vs H Q E h=>?_) (fun f cdv A outer s H vs Q E hr h=>?_)
 ·obtain⟨p,fi,m,ns,low,task,nd,fp,cn,rfl,_⟩:=h
  rfl
 obtain⟨p,fi,m,ns,low,task,nd,fp,cn,rfl,S,cc,m0,m65,bad,k⟩:=h
 refine⟨_,(pss_cons (ps_set (i:=3) sc__law_lay_refused.nd rfl (by first | exact Or.inl rfl | exact Or.inr rfl) pe_non)
   (pss_cons (ps_try_as (i:=4) rfl rfl rfl rfl T.x_LeafError (by rfl) T.m_LeafError sc__law_lay_refused.nd rfl rfl
   (fun pn xe EX hx=>(pss_one (ps_expr (pe_me (pv 0) T.cl_Space h_Space_lay (hr.mono (by decide)) hx (pa_cn (pv 1) (pa_cn (pe_comp (xs:=["_law_k"]) (N':=["_law_space", "_law_first", "_law_many", "_law_refusal", "e"]) rfl ⟨rfl,by decide +kernel,by decide +kernel,by dsimp only [cxOf,PyProof.Rows.envOfC];decide +kernel,by decide +kernel,by dsimp only [cxOf];decide +kernel,rfl⟩ (pi_range1 (by rfl) T.b_range (pa_cn (pv 2) pa_nil rfl)) (fun _ _ _ _ _=>(pg_name (i:=0) (by dsimp only [cxComp];decide +kernel) rfl (by first | exact Or.inl rfl | exact Or.inr rfl))) (fun _ _ _ _ _=>pts_nil) (fun _ _ _ _ _=>(pe_mk h_Fresh___init__ (hr.mono (by decide)) (by rfl) (by exact T.m_Fresh) pass_none (pa_cn (pe_op op_mod (pv 0) pe_int) pa_nil rfl)))) pa_nil rfl) rfl)))))
   (fun pn A' xe=>(pss_one (ps_set (i:=3) sc__law_lay_refused.nd rfl (by first | exact Or.inl rfl | exact Or.inr rfl) (pv 4)))))
   (pss_one (ps_ret (pe_cmpR op_eq (pe_fn h__law_code (hr.mono (by decide)) (by rfl) pass_def (pa_cn (pv 3) pa_nil rfl)) pe_int (nomark _)))))),?_⟩
 have t1:=T.cl_Space;have t2:=T.s_NoStretch
 obtain⟨dx,sh,tr,dt,sh2,top,dxs,ts,hp,_⟩:=id S
 obtain⟨mn,rfl⟩:∃mn:Nat,m=(mn:Int):=⟨m.toNat,by omega⟩
 walk_at "go"
 intro acc hacc
 refine comp_rangeI (fun i ys H'=>Bx (∃xs:List Addr,ys=xs.map V.ref/\H' acc=some (.lst ys)/\xs.length=i/\(∀x∈xs,∃g,LfAt a H' x g)/\∀b u,H b=some u->H' b=some u)) (by rw[sizeLine_eq];omega) ⟨⟨[],rfl,upd_same,rfl,fun x hx=>(nomatch hx),same_upd hacc⟩⟩ (fun i ys H' z=>?_) (fun i ys H' hi z R r=>?_) (fun ys H1 z=>?_)
 ·obtain⟨xs,z1,z2,z3,_⟩:=z.o
  exact⟨z2,by rw[z1,List.length_map];exact z3⟩
 ·obtain⟨xs,z1,z2,z3,z4,z5⟩:=z.o
  have ok:OkR ((0+(i:Int))%4):=⟨by omega,by omega⟩
  walk_at "go"
  refine fun y dy hy hdy ny=>⟨y,dy,a.c_Fresh,(0+(i:Int))%4,rfl,upd_same,T.cl_Fresh,T.n_Fresh_rights,fun _=>⟨rfl,?_⟩,fun z=>absurd ok z⟩
  generalize hh:upd (upd (upd _ dy _) y _) y _=H2
  obtain⟨s2,e2⟩:=newI hy hdy hh
  clear hh
  have a2:=s2 _ _ z2
  refine r _ _ a2 ⟨⟨xs++[y],by rw[z1,List.map_append];rfl,upd_same,by rw[List.length_append,z3];rfl,fun x hx=>?_,fun b u e=>by rw[upd_ne (ne_of_none e hacc)];exact s2 _ _ (z5 _ _ e)⟩⟩
  rcases List.mem_append.mp hx with w | w
  ·obtain⟨g,lf⟩:=z4 x w
   exact⟨g,(KeepL.upd a2).lf (lf.same s2)⟩
  ·rw[List.mem_singleton.mp w]
   exact⟨.fresh ((0+(i:Int))%4),(KeepL.upd a2).lf ⟨dy,e2⟩⟩
 obtain⟨xs,z1,hl1,xl,lx,s1⟩:=z.o
 subst z1
 have s01:Same H H1:=s1
 have S1:=S.same s01
 have hp1:=s01 _ _ hp
 have lc:cn+xs.length < 100000:=by omega
 walk_at "go"
 have xm:(xs.length:Int)=(mn:Int):=by omega
 rw[xm]
 refine⟨fun _=>?_,fun st=>absurd st bad,fun st=>absurd st bad⟩
 walk_at "go"
 intro e he
 generalize hh:upd _ e _=H2
 obtain⟨s2,e2⟩:=newO he hh
 clear hh
 have tl:Told18 a H2 (.ref e) 1:=.inr (.inl ⟨e,rfl,e2,rfl⟩)
 walk_at "go"
 intro H3 s3
 walk_at "go"
 exact k H3 ((s01.trans s2).trans s3)
theorem ok__law_outside {dvs:List V} (R:RawF K mg "_law_outside" s__law_outside ["_law_space", "_law_asks", "_law_page"] dvs) (T:Txt w K mg a)
  (h_Space_leaf:HasMe P w K mg base a.c_Space 6 "leaf" ["self", "page"] (spSpLeaf a) [])
  (h_Space_put:HasMe P w K mg base a.c_Space 6 "put" ["self", "page", "leaf"] (spSpPut a) [])
  (h_Fresh___init__:HasMk P w K mg base a.c_Fresh 2 ["self", "rights"] (spLeafInit a K) []) :
  HasFn P w K mg base 7 "_law_outside" ["_law_space", "_law_asks", "_law_page"] (spOut18 a) dvs:=by
 refine R.ok sc__law_outside (fun vs H Q E h=>?_) (fun f cdv A outer s H vs Q E hr h=>?_)
 ·obtain⟨p,b,n,ns,low,task,nd,fp,cn,rfl,_⟩:=h
  rfl
 obtain⟨p,b,n,ns,low,task,nd,fp,cn,rfl,S,cc,bad,k⟩:=h
 refine⟨_,(@pss_cons _ _ _ _ _ (@ps_set _ _ 3 _ _ _ _ sc__law_outside.nd rfl (by first | exact Or.inl rfl | exact Or.inr rfl) pe_non (by rfl) (by first | exact Or.inl rfl | exact Or.inr rfl))
   (@pss_cons _ _ _ _ _ (ps_try_as (i:=4) rfl rfl rfl rfl T.x_LeafError (by rfl) T.m_LeafError sc__law_outside.nd rfl rfl
   (fun pn xe EX hx=>(@pss_one _ _ _ (ps_if (pt_val (pv 1)) (@pss_one _ _ _ (ps_expr (pe_me (pv 0) T.cl_Space h_Space_leaf (hr.mono (by decide)) hx (@pa_cn _ _ _ _ _ (pv 2) pa_nil rfl)))) (@pss_one _ _ _ (ps_expr (pe_me (pv 0) T.cl_Space h_Space_put (hr.mono (by decide)) hx (@pa_cn _ _ _ _ _ (pv 2) (@pa_cn _ _ _ _ _ (pe_mk h_Fresh___init__ (hr.mono (by decide)) (by rfl) T.m_Fresh hx (@pa_cn _ _ _ _ _ pe_int pa_nil rfl)) pa_nil rfl) rfl)))))))
   (fun pn A' xe=>(@pss_one _ _ _ (@ps_set _ _ 3 _ _ _ _ sc__law_outside.nd rfl (by first | exact Or.inl rfl | exact Or.inr rfl) (pv 4) (by rfl) (by first | exact Or.inl rfl | exact Or.inr rfl)))))
   (@pss_cons _ _ _ _ _ (ps_if (PW.pt (pw_or (pt_not (pt_val (pe_callB call_isinst (by rfl) T.b_isinstance PyProof.Rows.Boot.«isinstance» (@pa_cn _ _ _ _ _ (pv 3) (@pa_cn _ _ _ _ _ (pe_glob (v:=.ref a.c_NoAddress) (by rfl) T.m_NoAddress rfl) pa_nil rfl) rfl)))) (pw_or1 (pt_not (pt_val (pe_callB call_isinst (by rfl) T.b_isinstance PyProof.Rows.Boot.«isinstance» (@pa_cn _ _ _ _ _ (pv 3) (@pa_cn _ _ _ _ _ (pe_bltn (v:=.ty "ValueError") (by rfl) T.b_ValueError PyProof.Rows.Boot.«ValueError» rfl) pa_nil rfl) rfl))))))) (@pss_one _ _ _ (@ps_ret _ _ _ _ pe_bl)) pss_nil)
   (@pss_one _ _ _ (@ps_ret _ _ _ _ (pe_not (pe_callB call_isinstT (by rfl) T.b_isinstance PyProof.Rows.Boot.«isinstance» (@pa_cn _ _ _ _ _ (pv 3) (@pa_cn _ _ _ _ _ (@pe_tup _ _ _ _ _ (@pa_cn _ _ _ _ _ (pe_glob (v:=.ref a.c_NoStretch) (by rfl) T.m_NoStretch rfl) (@pa_cn _ _ _ _ _ (pe_glob (v:=.ref a.c_NoRights) (by rfl) T.m_NoRights rfl) (@pa_cn _ _ _ _ _ (pe_glob (v:=.ref a.c_Taken) (by rfl) T.m_Taken rfl) (@pa_cn _ _ _ _ _ (pe_glob (v:=.ref a.c_Barred) (by rfl) T.m_Barred rfl) (@pa_cn _ _ _ _ _ (pe_glob (v:=.ref a.c_Unmapped) (by rfl) T.m_Unmapped rfl) pa_nil rfl) rfl) rfl) rfl) rfl)) pa_nil rfl) rfl)))))))),?_⟩
 have t1:=T.cl_Space;have t2:=T.s_NoAddress
 have q1:=T.k_AA;have q2:=T.k_AV;have q3:=T.k_AN
 obtain⟨dx,sh,tr,dt,sh2,top,dxs,ts,hp,_⟩:=id S
 cases b with
 | true =>
  walk_at "go"
  refine fun _=>?_
  walk_at "go"
  intro e he
  generalize hh:upd _ e _=H1
  obtain⟨s1,e1⟩:=newO he hh
  clear hh
  have ty:TyE K H1 (.ref e) (.ref a.c_NoAddress):=.exc e1 T.i_NoAddress T.isk
  walk_at "go"
  intro tu htu
  generalize hh:upd _ tu _=H2
  obtain⟨s2,e2⟩:=newO htu hh
  clear hh
  have ty2:TyE K H2 (.ref e) (.ref a.c_NoAddress):=.exc (s2 _ _ e1) T.i_NoAddress T.isk
  walk_at "go"
  exact k H2 (s1.trans s2)
 | false =>
  have ok3:OkR 3:=by decide
  walk_at "go"
  refine fun y dy hy hdy ny=>⟨y,dy,a.c_Fresh,3,rfl,upd_same,T.cl_Fresh,T.n_Fresh_rights,fun _=>⟨rfl,?_⟩,fun z=>absurd ok3 z⟩
  generalize hh:upd (upd (upd _ dy _) y _) y _=H0
  obtain⟨s0,e0⟩:=newI hy hdy hh
  clear hh
  have S0:=S.same s0
  have hp0:=s0 _ _ hp
  have cc0:cn < 100000:=by omega
  have ly:∃u,H0 y=some u:=⟨_,e0⟩
  walk_at "go"
  refine fun _=>?_
  walk_at "go"
  intro e he
  generalize hh:upd _ e _=H1
  obtain⟨s1,e1⟩:=newO he hh
  clear hh
  have ty:TyE K H1 (.ref e) (.ref a.c_NoAddress):=.exc e1 T.i_NoAddress T.isk
  walk_at "go"
  intro tu htu
  generalize hh:upd _ tu _=H2
  obtain⟨s2,e2⟩:=newO htu hh
  clear hh
  have ty2:TyE K H2 (.ref e) (.ref a.c_NoAddress):=.exc (s2 _ _ e1) T.i_NoAddress T.isk
  walk_at "go"
  exact k H2 ((s0.trans s1).trans s2)
end
end K18

set_option maxHeartbeats 4000000
namespace K18
open PySem L2
theorem gone_succ (M:Mf)(f:Int)(i:Nat): (M.gone f i).put (f+i) none=M.gone f ((i+1:Nat):Int):=funext fun m=>by
 unfold Mf.gone
 by_cases c:m=f+i
 ·rw[c,Mf.put_at,if_pos (by omega)]
 ·rw[Mf.put_ne c]
  by_cases c2:f<=m/\m < f+i
  ·rw[if_pos c2,if_pos (by omega)]
  ·rw[if_neg c2,if_neg (by omega)]
theorem gone_at (M:Mf)(f:Int)(i:Nat): (M.gone f i) (f+i)=M (f+i):=by unfold Mf.gone;rw[if_neg (by omega)]
theorem gone_zero (M:Mf)(f:Int): M.gone f ((0:Nat):Int)=M:=funext fun m=>by unfold Mf.gone;rw[if_neg (by omega)]
def spLifted18 (a:Adr): Sp:=fun vs H Q _=>∃(q d hl:Addr) (f:Int) (m:Nat) (xs hs:List Addr) (M:Mf) (kvs:List (Key×V)) (ks:List Int),vs=[.ref q,.ref d,.int f,.int (m:Int),.ref hl]/\H q=some (.lst (xs.map V.ref))/\xs.length=m/\m<=64/\Kp H d M kvs ks/\(∀(i:Nat) x,xs[i]?=some x->∃g,M (f+i)=some g/\LfAt a H x g/\g.ok)/\H hl=some (.lst (hs.map V.ref))/\hs.length < 1000/\q≠hl ∧
 ∀t r ts gs kvs' ks' H',Kp H' d (M.gone f m) kvs' ks'->H' hl=some (.lst ((hs++[t]).map V.ref))->H' t=some (.tup [.ref q,.ref r])->RwL H' r ts gs->Lvs a H' xs gs->(∀g∈gs,Lf.ok g)->r≠hl->(∀b u,H b=some u->b≠d->b≠hl->H' b=some u)->Q (.bl true) H'
section
variable {P:Program}{w:World}{K:PySem.W.Frag}{mg:Str->Option Value}{base:Heap}{a:Adr}
theorem ok__law_lifted {dvs:List V} (R:RawF K mg "_law_lifted" s__law_lifted ["_law_found", "_law_own", "_law_first", "_law_many", "_law_held"] dvs) (T:Txt w K mg a)
  (h__law_like:HasFn P w K mg base 2 "_law_like" ["_law_found", "_law_due"] (spLikeT) [])
  (h_Fresh_row:HasMe P w K mg base a.c_Fresh 1 "row" ["self"] (spRowK a 0) [])
  (h_Held_row:HasMe P w K mg base a.c_Held 1 "row" ["self"] (spRowK a 1) [])
  (h_Out_row:HasMe P w K mg base a.c_Out 1 "row" ["self"] (spRowK a 2) [])
  (h_Named_row:HasMe P w K mg base a.c_Named 1 "row" ["self"] (spRowK a 3) []) :
  HasFn P w K mg base 3 "_law_lifted" ["_law_found", "_law_own", "_law_first", "_law_many", "_law_held"] (spLifted18 a) dvs:=by
 refine R.ok sc__law_lifted (fun vs H Q E h=>?_) (fun f cdv A outer s H vs Q E hr h=>?_)
 ·obtain⟨q,d,hl,fi,m,xs,hs,M,kvs,ks,rfl,_⟩:=h
  rfl
 obtain⟨q,d,hl,fi,m,xs,hs,M,kvs,ks,rfl,hq,xl,m64,KP,lx,hhl,hs1,nqh,k⟩:=h
 refine⟨_,(pss_cons (ps_if (PW.pt (pw_or (pt_not (pt_val (pe_callB call_isinst (by rfl) T.b_isinstance PyProof.Rows.Boot.«isinstance» (pa_cn (pv 0) (pa_cn (pe_bltn (v:=.ty "list") (by rfl) T.b_list PyProof.Rows.Boot.«list» rfl) pa_nil rfl) rfl)))) (pw_or1 (pt_cmpR op_ne (pe_callB call_len_seq (by rfl) T.b_len PySem.boot_len (pa_cn (pv 0) pa_nil rfl)) (pv 3) (nomark _))))) (pss_one (ps_ret pe_bl)) pss_nil)
   (pss_cons (ps_set (i:=5) sc__law_lifted.nd rfl (by first | exact Or.inl rfl | exact Or.inr rfl) (pe_comp (xs:=["_law_k"]) (N':=["_law_found", "_law_own", "_law_first", "_law_many", "_law_held", "_law_rows"]) rfl ⟨rfl,by decide +kernel,by decide +kernel,by dsimp only [cxOf,PyProof.Rows.envOfC];decide +kernel,by decide +kernel,by dsimp only [cxOf];decide +kernel,rfl⟩ (pi_range1 (by rfl) T.b_range (pa_cn (pv 3) pa_nil rfl)) (fun _ _ _ _ _=>(pg_name (i:=0) (by dsimp only [cxComp];decide +kernel) rfl (by first | exact Or.inl rfl | exact Or.inr rfl))) (fun _ _ _ _ _=>pts_nil) (fun _ _ _ _ _=>(pe_dpop1 (pv 2) (pe_op op_add (pv 3) (pv 0)) ⟨rfl,rfl,rfl,rfl⟩))))
   (pss_cons (ps_expr (pe_bm PySem.F.plainAttrs_list PySem.F.slot_list_append PySem.F.type_list_append mt_append (pv 4) (pa_cn (pe_tup (pa_cn (pv 0) (pa_cn (pv 5) pa_nil rfl) rfl)) pa_nil rfl)))
   (pss_one (ps_ret (pe_callB (call_allL rfl) (by rfl) T.b_all PyProof.Rows.Boot.«all» (pa_cn (pe_comp (xs:=["_law_k"]) (N':=["_law_found", "_law_own", "_law_first", "_law_many", "_law_held", "_law_rows"]) rfl ⟨rfl,by decide +kernel,by decide +kernel,by dsimp only [cxOf,PyProof.Rows.envOfC];decide +kernel,by decide +kernel,by dsimp only [cxOf];decide +kernel,rfl⟩ (pi_range1 (by rfl) T.b_range (pa_cn (pv 3) pa_nil rfl)) (fun _ _ _ _ _=>(pg_name (i:=0) (by dsimp only [cxComp];decide +kernel) rfl (by first | exact Or.inl rfl | exact Or.inr rfl))) (fun _ _ _ _ _=>pts_nil) (fun _ _ _ _ _=>(pe_fn h__law_like (hr.mono (by decide)) (by rfl) pass_none (pa_cn (pe_meDK0 (P:=P) (w:=w) (K:=K) (mg:=mg) (base:=base) rfl rfl rfl rfl rfl (k:=1) (m := "row") (dvs:=[]) (pe_ix (ix_listK (K:=K) rfl) (pv 1) (pv 0) (fun _ _=>rfl)) (hr.mono (by decide)) pass_none (by rfl)) (pa_cn (pe_ix (ix_listK (K:=K) rfl) (pv 6) (pv 0) (fun _ _=>rfl)) pa_nil rfl) rfl)))) pa_nil rfl))))))),?_⟩
 have kl:=kit_self K (.type "list")
 have tq:TyE K H (.ref q) (.type "list"):=.of (.lst hq)
 have l1:(xs.map V.ref).length=m:=by rw[List.length_map,xl]
 have nqd:q≠d:=fun z=>by rw[z,KP.h] at hq;cases hq
 have nhd:hl≠d:=fun z=>by rw[z,KP.h] at hhl;cases hhl
 walk_at "go"
 refine iteN (fun z=>absurd (by rw[l1]) z) (fun _=>?_)
 walk_at "go"
 intro acc hacc
 have nad:d≠acc:=ne_of_none KP.h hacc
 have nah:hl≠acc:=ne_of_none hhl hacc
 refine comp_rangeI (fun i ys H'=>Bx (∃ts gs kvs' ks',ys=ts.map V.ref/\RwL H' acc ts gs/\ts.length=i/\(∀j:Nat,j < i->gs[j]?=M (fi+j))/\Kp H' d (M.gone fi i) kvs' ks'/\∀b u,H b=some u->b≠d->H' b=some u)) (by rw[sizeLine_eq];omega) ⟨⟨[],[],kvs,ks,rfl,⟨upd_same,rfl,fun i t g h=>(by cases h)⟩,rfl,fun j h=>absurd h (Nat.not_lt_zero _),by rw[gone_zero];exact KP.same (same_upd hacc),fun b u e _=>same_upd hacc _ _ e⟩⟩ (fun i ys H' z=>?_) (fun i ys H' hi z R r=>?_) (fun ys H1 z=>?_)
 ·obtain⟨ts,gs,kvs',ks',z1,z2,z3,_⟩:=z.o
  exact⟨by rw[z1];exact z2.hl,by rw[z1,List.length_map];exact z3⟩
 ·obtain⟨ts,gs,kvs',ks',z1,z2,z3,z4,z5,z6⟩:=z.o
  have im:i < m:=by omega
  have ex:xs[i]?=some (xs[i]'(by omega)):=List.getElem?_eq_getElem _
  obtain⟨g,hg,_,_⟩:=lx i _ ex
  obtain⟨t,vt,ht⟩:=z5.so (fi+i) g (by rw[gone_at];exact hg)
  have hd':=z5.h
  have id':IsD H' d:=.inl ⟨kvs',Rd.of hd'⟩
  have kn:V.int (fi+(0+(i:Int)))=kV (Sum.inl (fi+(0+(i:Int))):Key):=rfl
  have vt':valV kvs' (Sum.inl (fi+(0+(i:Int))))=some (.ref t):=by rw[Int.zero_add];exact vt
  walk_at "go"
  rw[Int.zero_add]
  obtain⟨ks2,KP2⟩:=z5.drop (fi+i)
  rw[gone_succ] at KP2
  subst z1
  have a2:upd H' d (.dK (dropK kvs' (.inl (fi+(i:Int))))) acc=some (.lst (ts.map V.ref)):=by rw[upd_ne nad.symm];exact z2.hl
  have rw2:RwL (upd H' d (.dK (dropK kvs' (.inl (fi+(i:Int)))))) acc ts gs:=z2.mv (fun zs e=>by rw[upd_ne nad.symm];exact e) fun t xs e=>by rw[upd_ne fun z=>by rw[z,hd'] at e;cases e];exact e
  have ht2:upd H' d (.dK (dropK kvs' (.inl (fi+(i:Int))))) t=some (.tup g.row):=by rw[upd_ne fun z=>by rw[z,hd'] at ht;cases ht];exact ht
  have k2:∀b u,H b=some u->b≠d->upd H' d (.dK (dropK kvs' (.inl (fi+(i:Int))))) b=some u:=fun b u e nb=>by rw[upd_ne nb];exact z6 b u e nb
  refine r _ _ a2 ⟨⟨ts++[t],gs++[g],_,ks2,by rw[List.map_append];rfl,rw2.snoc ht2,by rw[List.length_append,z3];rfl,fun j hj=>?_,KP2.keepL (KeepL.upd a2),fun b u e nb=>by rw[upd_ne (ne_of_none e hacc)];exact k2 b u e nb⟩⟩
  have gl:gs.length=i:=by rw[<-z2.len];exact z3
  by_cases c:j < i
  ·rw[List.getElem?_append_left (by omega)];exact z4 j c
  ·have ej:j=i:=by omega
   rw[ej,List.getElem?_append_right (by omega),gl,Nat.sub_self];exact hg.symm
 obtain⟨ts,gs,kvs',ks',z1,RW,tl,ga,KP1,k1⟩:=z.o
 subst z1
 rw[Int.toNat_natCast] at tl ga KP1
 have gl:gs.length=m:=by rw[<-RW.len];exact tl
 have LV:Lvs a H1 xs gs:=⟨by rw[xl,gl],fun i x g h1 h2=>by
  obtain⟨g',e1,⟨dl,e2⟩,_⟩:=lx i x h1
  have il:=(List.getElem?_eq_some_iff.mp h1).1
  rw[ga i (by omega),e1] at h2
  cases h2
  exact⟨dl,k1 _ _ e2 fun z=>by rw[z,KP.h] at e2;cases e2⟩⟩
 have oks:∀g∈gs,Lf.ok g:=fun g hg=>by
  obtain⟨j,hj,rfl⟩:=List.mem_iff_getElem.mp hg
  have ex:xs[j]?=some (xs[j]'(by omega)):=List.getElem?_eq_getElem _
  obtain⟨g',e1,_,e3⟩:=lx j _ ex
  have e4:=ga j (by omega)
  rw[List.getElem?_eq_getElem hj,e1] at e4
  cases e4
  exact e3
 have hq1:=k1 _ _ hq nqd
 have hh1:=k1 _ _ hhl nhd
 have zl:(hs.map V.ref).length < sizeLine:=by rw[List.length_map,sizeLine_eq];omega
 walk_at "go"
 intro t ht
 generalize hh:upd _ t _=H2
 obtain⟨s2,e2⟩:=newO ht hh
 clear hh
 have hh2:=s2 _ _ hh1
 have kl2:=KeepL.upd (u:=.lst (hs.map V.ref++[.ref t])) hh2
 have hq3:upd H2 hl (.lst (hs.map V.ref++[.ref t])) q=some (.lst (xs.map V.ref)):=by rw[upd_ne nqh];exact s2 _ _ hq1
 have RW3:=(RW.same s2).clr (u:=.lst (hs.map V.ref++[.ref t])) hh2 nah.symm
 have LV3:=(LV.same s2).keepL kl2
 have KP3:=(KP1.same s2).keepL kl2
 have e3:=kl2.tup e2
 have hh3:upd H2 hl (.lst (hs.map V.ref++[.ref t])) hl=some (.lst ((hs++[t]).map V.ref)):=by rw[upd_same,List.map_append];rfl
 have k3:∀b u,H b=some u->b≠d->b≠hl->upd H2 hl (.lst (hs.map V.ref++[.ref t])) b=some u:=fun b u e n1 n2=>by rw[upd_ne n2];exact s2 _ _ (k1 b u e n1)
 walk_at "go"
 generalize upd H2 hl (.lst (hs.map V.ref++[.ref t]))=H3 at hq3 RW3 LV3 KP3 e3 hh3 k3 kl2 ⊢
 intro acc2 hacc2
 refine comp_rangeI (fun i ys H'=>Bx (ys=(List.replicate i true).map V.bl/\H' acc2=some (.lst ys)/\∀b u,H3 b=some u->H' b=some u)) (by rw[sizeLine_eq];omega) ⟨⟨rfl,upd_same,same_upd hacc2⟩⟩ (fun i ys H' z=>?_) (fun i ys H' hi z R r=>?_) (fun ys H4 z=>?_)
 ·obtain⟨z1,z2,_⟩:=z.o
  exact⟨z2,by rw[z1,List.length_map,List.length_replicate]⟩
 ·obtain⟨z1,z2,z3⟩:=z.o
  have s3':Same H3 H':=z3
  have im:i < m:=by omega
  have ex:xs[i]?=some (xs[i]'(by omega)):=List.getElem?_eq_getElem _
  generalize xs[i]'(by omega)=x at ex
  have et:ts[i]?=some (ts[i]'(by omega)):=List.getElem?_eq_getElem _
  generalize ts[i]'(by omega)=tr at et
  obtain⟨g,eg,lf⟩:=LV3.get ex
  have lf':=lf.same s3'
  have ok:=oks g (List.mem_of_getElem? eg)
  have hq':=s3' _ _ hq3
  have hr':=s3' _ _ RW3.hl
  have ht':=s3' _ _ (RW3.at' i tr g et eg)
  have a1:atI (xs.map V.ref) (0+(i:Int))=some (.ref x):=by rw[Int.zero_add];exact atI_nat (by rw[List.getElem?_map,ex];rfl)
  have a2:atI (ts.map V.ref) (0+(i:Int))=some (.ref tr):=by rw[Int.zero_add];exact atI_nat (by rw[List.getElem?_map,et];rfl)
  obtain⟨C,dxl,fs,f1,f2,f3,f4⟩:∃C dx fs,H' x=some (.ins C dx fs)/\Cls K C/\HasMe P w K mg base C 1 "row" ["self"] (spRowK a g.kind) []/\fs.lookup ("row" : Str)=none:=by
   obtain⟨dl,hl⟩:=id lf'
   cases g with
   | fresh r=>exact⟨_,_,_,hl,T.cl_Fresh,h_Fresh_row,by walk_at "lk"⟩
   | held r f=>exact⟨_,_,_,hl,T.cl_Held,h_Held_row,by walk_at "lk"⟩
   | out r f=>exact⟨_,_,_,hl,T.cl_Out,h_Out_row,by walk_at "lk"⟩
   | named r n f=>exact⟨_,_,_,hl,T.cl_Named,h_Named_row,by walk_at "lk"⟩
  walk_at "go"
  intro v hv
  generalize hh:upd _ v _=H5
  obtain⟨s5,e5⟩:=newO hv hh
  clear hh
  have a5:=s5 _ _ z2
  have ht5:=s5 _ _ ht'
  have hr5:=s5 _ _ hr'
  walk_at "go"
  refine r _ _ a5 ⟨⟨by rw[z1,List.replicate_succ',List.map_append];rfl,upd_same,fun b u e=>by rw[upd_ne (ne_of_none e hacc2)];exact s5 _ _ (z3 _ _ e)⟩⟩
 obtain⟨z1,z2,z3⟩:=z.o
 rw[Int.toNat_natCast] at z1
 subst z1
 have s34:Same H3 H4:=z3
 have S4:SqL K H4 acc2 ((List.replicate m true).map V.bl):=SqL.of z2
 have ba:(List.replicate m true).all id=true:=by rw[List.all_replicate];cases m<;>simp
 walk_at "go"
 rw[ba]
 exact k t acc ts gs kvs' ks' H4 (KP3.same s34) (s34 _ _ hh3) (s34 _ _ e3) (RW3.same s34) (LV3.same s34) oks nah.symm fun b u e n1 n2=>s34 _ _ (k3 b u e n1 n2)
end
end K18

set_option maxHeartbeats 4000000
namespace K18
open PySem L2
def HeldT (a:Adr)(H:Hp)(hl t:Addr): Prop:=∃q r xs ts gs,H t=some (.tup [.ref q,.ref r])/\H q=some (.lst (xs.map V.ref))/\q≠hl/\RwL H r ts gs/\r≠hl/\Lvs a H xs gs/\gs.length<=64/\∀g∈gs,Lf.ok g
structure W18 (a:Adr)(H:Hp)(p d hl:Addr)(ns:List Int)(low task base:Int)(long:Nat)(nd:Ix->Option Addr)(fp:List Addr)(cn:Nat)(M:Mf)(kvs:List (Key×V))(ks:List Int)(hs:List Addr): Prop where
 S:SpAt a H p ns low task nd fp cn
 A:Ab a H ns nd M
 KP:Kp H d M kvs ks
 inn:∀n g,M n=some g->(base<=n/\n < base+long)/\g.ok
 nf:d∉fp
 hh:H hl=some (.lst (hs.map V.ref))
 he:∀t∈hs,HeldT a H hl t
 b0:0<=base
 b1:base+long<=pgs ns
 lg:long<=60
section
variable {a:Adr}{H H':Hp}{p d hl:Addr}{ns:List Int}{low task base:Int}{long:Nat}{nd nd':Ix->Option Addr}{fp fp':List Addr}{cn cn':Nat}{M M':Mf}{kvs kvs':List (Key×V)}{ks ks':List Int}{hs:List Addr}
theorem HeldT.same {t:Addr}(h:HeldT a H hl t)(s:Same H H'): HeldT a H' hl t:=by
 obtain⟨q,r,xs,ts,gs,h1,h2,h3,h4,h5,h6,h7⟩:=h
 exact⟨q,r,xs,ts,gs,s _ _ h1,s _ _ h2,h3,h4.same s,h5,h6.same s,h7⟩
theorem HeldT.keepN {t:Addr}(h:HeldT a H hl t)(s:KeepN H H'): HeldT a H' hl t:=by
 obtain⟨q,r,xs,ts,gs,h1,h2,h3,h4,h5,h6,h7⟩:=h
 exact⟨q,r,xs,ts,gs,s.tup h1,s.lst h2,h3,h4.keepN s,h5,h6.keepN s,h7⟩
theorem HeldT.off {t:Addr}(h:HeldT a H hl t)(k:∀b u,H b=some u->b≠d->b≠hl->H' b=some u)(hd:∃kv:List (Key×V),H d=some (.dK kv))(hh:∃zs:List V,H hl=some (.lst zs)): HeldT a H' hl t:=by
 obtain⟨q,r,xs,ts,gs,h1,h2,h3,h4,h5,h6,h7⟩:=h
 obtain⟨kv,hd⟩:=hd
 obtain⟨zs,hh⟩:=hh
 have tp:∀b ys,H b=some (.tup ys)->H' b=some (.tup ys):=fun b ys e=>k b _ e (fun z=>by rw[z,hd] at e;cases e) fun z=>by rw[z,hh] at e;cases e
 have ls:∀b ys,H b=some (.lst ys)->b≠hl->H' b=some (.lst ys):=fun b ys e n=>k b _ e (fun z=>by rw[z,hd] at e;cases e) n
 refine⟨q,r,xs,ts,gs,tp _ _ h1,ls _ _ h2 h3,h3,h4.mv (fun zs e=>ls _ _ e h5) tp,h5,⟨h6.len,fun i x g e1 e2=>?_⟩,h7⟩
 obtain⟨dx,e⟩:=h6.at' i x g e1 e2
 exact⟨dx,k _ _ e (fun z=>by rw[z,hd] at e;cases e) fun z=>by rw[z,hh] at e;cases e⟩
theorem W18.same (W:W18 a H p d hl ns low task base long nd fp cn M kvs ks hs)(s:Same H H'): W18 a H' p d hl ns low task base long nd fp cn M kvs ks hs :=
 { W with S:=W.S.same s,A:=W.A.same s,KP:=W.KP.same s,hh:=s _ _ W.hh,he:=fun t ht=>(W.he t ht).same s }
theorem W18.few (W:W18 a H p d hl ns low task base long nd fp cn M kvs ks hs): ks.length<=long:=by
 have h:=len_inj (fun n:Int=>(n-base).toNat) (ms:=ks) (L:=List.range long) (iKeys_nd W.KP.ik W.KP.nd) (fun x hx y hy e=>?_) fun x hx=>?_
 ·rw[List.length_range] at h;exact h
 ·have q1:=(W.KP.mem x).mp hx
  have q2:=(W.KP.mem y).mp hy
  cases e1:M x with
  | none=>rw[e1] at q1;cases q1
  | some g =>
   cases e2:M y with
   | none=>rw[e2] at q2;cases q2
   | some g' =>
    have i1:=(W.inn x g e1).1
    have i2:=(W.inn y g' e2).1
    have e:(x-base).toNat=(y-base).toNat:=e
    omega
 ·have q1:=(W.KP.mem x).mp hx
  cases e1:M x with
  | none=>rw[e1] at q1;cases q1
  | some g =>
   have i1:=(W.inn x g e1).1
   exact List.mem_range.mpr (by show (x-base).toNat < long;omega)
end
end K18

set_option maxHeartbeats 4000000
namespace K18
open PySem L2
def KeepH (hl:Addr)(H H':Hp): Prop:=∀b u,H b=some u->(∀kv:List (Key×V),u≠.dK kv)->b≠hl->H' b=some u
theorem KeepH.same {hl:Addr}{H H':Hp}(s:Same H H'): KeepH hl H H':=fun b u e _ _=>s b u e
theorem KeepH.keepN {hl:Addr}{H H':Hp}(s:KeepN H H'): KeepH hl H H':=fun b u e n _=>s b u e n
theorem KeepH.trans {hl:Addr}{H H' H'':Hp}(k:KeepH hl H H')(k':KeepH hl H' H''): KeepH hl H H'':=fun b u e n1 n2=>k' b u (k b u e n1 n2) n1 n2
theorem KeepH.lst {hl:Addr}{H H':Hp}(k:KeepH hl H H'){b:Addr}{xs:List V}(e:H b=some (.lst xs))(n:b≠hl): H' b=some (.lst xs):=k b _ e (fun _ w=>by cases w) n
theorem SpAt.off {a:Adr}{H H':Hp}{p d hl:Addr}{ns:List Int}{low task:Int}{nd:Ix->Option Addr}{fp:List Addr}{cn:Nat}{kv:List (Key×V)}{zs:List V}(S:SpAt a H p ns low task nd fp cn)(k:∀b u,H b=some u->b≠d->b≠hl->H' b=some u)(nf:d∉fp)(hd:H d=some (.dK kv))(hh:H hl=some (.lst zs)): SpAt a H' p ns low task nd fp cn:=by
 have ki:∀b C dx fs,H b=some (.ins C dx fs)->H' b=some (.ins C dx fs):=fun b C dx fs e=>k b _ e (fun z=>by rw[z,hd] at e;cases e) fun z=>by rw[z,hh] at e;cases e
 have kt:∀b ys,H b=some (.tup ys)->H' b=some (.tup ys):=fun b ys e=>k b _ e (fun z=>by rw[z,hd] at e;cases e) fun z=>by rw[z,hh] at e;cases e
 obtain⟨dx,sh,tr,dt,sh2,top,dxs,ts,h1,h2,h3,h4,h4',h5⟩:=S
 refine⟨dx,sh,tr,dt,sh2,top,dxs,ts,ki _ _ _ _ h1,ki _ _ _ _ h2,?_,ki _ _ _ _ h4,kt _ _ h4',h5⟩
 obtain⟨⟨dy,sh,top,q1,⟨dz,tz,q2,q3⟩,q4⟩,g,fu,ib⟩:=h3
 exact⟨⟨dy,sh,top,ki _ _ _ _ q1,⟨dz,tz,ki _ _ _ _ q2,kt _ _ q3⟩,q4.keep fun b u e m=>k b u e (fun z=>nf (z ▸ m)) fun z=>by obtain⟨kv,e'⟩:=q4.lv b m;rw[z,hh] at e';cases e'⟩,g,fu,ib⟩
theorem SpAt.offd {a:Adr}{H H':Hp}{p d:Addr}{ns:List Int}{low task:Int}{nd:Ix->Option Addr}{fp:List Addr}{cn:Nat}{kv:List (Key×V)}(S:SpAt a H p ns low task nd fp cn)(k:∀b u,H b=some u->b≠d->H' b=some u)(nf:d∉fp)(hd:H d=some (.dK kv)): SpAt a H' p ns low task nd fp cn:=by
 have ki:∀b C dx fs,H b=some (.ins C dx fs)->H' b=some (.ins C dx fs):=fun b C dx fs e=>k b _ e (fun z=>by rw[z,hd] at e;cases e)
 have kt:∀b ys,H b=some (.tup ys)->H' b=some (.tup ys):=fun b ys e=>k b _ e (fun z=>by rw[z,hd] at e;cases e)
 obtain⟨dx,sh,tr,dt,sh2,top,dxs,ts,h1,h2,h3,h4,h4',h5⟩:=S
 refine⟨dx,sh,tr,dt,sh2,top,dxs,ts,ki _ _ _ _ h1,ki _ _ _ _ h2,?_,ki _ _ _ _ h4,kt _ _ h4',h5⟩
 obtain⟨⟨dy,sh,top,q1,⟨dz,tz,q2,q3⟩,q4⟩,g,fu,ib⟩:=h3
 exact⟨⟨dy,sh,top,ki _ _ _ _ q1,⟨dz,tz,ki _ _ _ _ q2,kt _ _ q3⟩,q4.keep fun b u e m=>k b u e (fun z=>nf (z ▸ m))⟩,g,fu,ib⟩
theorem lf_off {a:Adr}{H H':Hp}{d hl x:Addr}{g:Lf}{kv:List (Key×V)}{zs:List V}(k:∀b u,H b=some u->b≠d->b≠hl->H' b=some u)(hd:H d=some (.dK kv))(hh:H hl=some (.lst zs))(h:LfAt a H x g): LfAt a H' x g:=by
 obtain⟨dx,e⟩:=h
 exact⟨dx,k _ _ e (fun z=>by rw[z,hd] at e;cases e) fun z=>by rw[z,hh] at e;cases e⟩
theorem chg_at (M:Mf)(f r:Int)(i:Nat): (M.chg f i r) (f+i)=M (f+i):=by unfold Mf.chg;rw[if_neg (by omega)]
theorem chg_zero (M:Mf)(f r:Int): M.chg f ((0:Nat):Int) r=M:=funext fun m=>by unfold Mf.chg;rw[if_neg (by omega)]
theorem chg_succ {M:Mf}{f r:Int}{i:Nat}{g:Lf}(h:M (f+i)=some g): (M.chg f i r).put (f+i) (some (g.withR r))=M.chg f ((i+1:Nat):Int) r:=funext fun m=>by
 unfold Mf.chg
 by_cases c:m=f+i
 ·rw[c,Mf.put_at,if_pos (by omega),h];rfl
 ·rw[Mf.put_ne c]
  by_cases c2:f<=m/\m < f+i
  ·rw[if_pos c2,if_pos (by omega)]
  ·rw[if_neg c2,if_neg (by omega)]
theorem row_with (g:Lf)(r:Int): ∃s,atI g.row 0=some (.str s)/\(g.withR r).row=[.str s,.int r]++g.row.drop 2:=by
 cases g<;>exact⟨_,rfl,rfl⟩
theorem row_cut (g:Lf): cutV g.row (some 2) none=g.row.drop 2:=by cases g<;>rfl
theorem row_part (g:Lf): ¬(HT.sIx g.row.length 0 (some 2)=0/\HT.sIx g.row.length g.row.length none=g.row.length):=fun z=>by
 cases g with
 | fresh r=>exact absurd (show HT.sIx 2 0 (some 2)=0 from z.1) (by decide)
 | held r f=>exact absurd (show HT.sIx 3 0 (some 2)=0 from z.1) (by decide)
 | out r f=>exact absurd (show HT.sIx 3 0 (some 2)=0 from z.1) (by decide)
 | named r n f=>exact absurd (show HT.sIx 4 0 (some 2)=0 from z.1) (by decide)
theorem row_few (g:Lf): g.row.length<=4:=by cases g<;>exact Nat.le_of_ble_eq_true rfl
theorem withR_ok {g:Lf}{r:Int}(h:g.ok): (g.withR r).ok:=by cases g<;>exact h
theorem Kp.few {H:Hp}{d:Addr}{M:Mf}{kvs:List (Key×V)}{ks:List Int}{base:Int}{long:Nat}(KP:Kp H d M kvs ks)(inn:∀n g,M n=some g->base<=n/\n < base+long): kvs.length<=long/\ks.length<=long:=by
 have h:ks.length<=long:=by
  have h:=len_inj (fun n:Int=>(n-base).toNat) (ms:=ks) (L:=List.range long) (iKeys_nd KP.ik KP.nd) (fun x hx y hy e=>?_) fun x hx=>?_
  ·rw[List.length_range] at h;exact h
  ·have q1:=(KP.mem x).mp hx
   have q2:=(KP.mem y).mp hy
   obtain⟨g,e1⟩:=Option.isSome_iff_exists.mp q1
   obtain⟨g',e2⟩:=Option.isSome_iff_exists.mp q2
   have i1:=inn x g e1
   have i2:=inn y g' e2
   have e:(x-base).toNat=(y-base).toNat:=e
   omega
  ·have q1:=(KP.mem x).mp hx
   obtain⟨g,e1⟩:=Option.isSome_iff_exists.mp q1
   have i1:=inn x g e1
   exact List.mem_range.mpr (by show (x-base).toNat < long;omega)
 refine⟨?_,h⟩
 have e:=congrArg List.length KP.ik
 rw[List.length_map,List.length_map] at e
 omega
theorem Mf.chg_inn {M:Mf}{n k r base:Int}{long:Nat}(h:∀n g,M n=some g->(base<=n/\n < base+long)/\g.ok): ∀m g,M.chg n k r m=some g->(base<=m/\m < base+long)/\g.ok:=fun m g e=>by
 unfold Mf.chg at e
 by_cases c:n<=m/\m < n+k
 ·rw[if_pos c,Option.map_eq_some_iff] at e
  obtain⟨g',h1,rfl⟩:=e
  exact⟨(h m g' h1).1,withR_ok (h m g' h1).2⟩
 ·rw[if_neg c] at e;exact h m g e
def spStep18 (a:Adr): Sp:=fun vs H Q _=>∃(p d sz hl:Addr) (way:Str) (f m r:Int) (ns:List Int) (low task base:Int) (long:Nat) (nd:Ix->Option Addr) (fp:List Addr) (cn:Nat) (M:Mf) (kvs:List (Key×V)) (ks:List Int) (hs:List Addr),vs=[.ref p,.ref d,.ref sz,.str way,.int f,.int m,.int r]/\H sz=some (.tup [.int task,.int low,.int (pgs ns),.ref hl])/\W18 a H p d hl ns low task base long nd fp cn M kvs ks hs/\(way = "unmap" ∨ way = "rights")/\cn < 80000/\hs.length < 1000 ∧
 ∀M' nd' fp' cn' kvs' ks' hs' H',W18 a H' p d hl ns low task base long nd' fp' cn' M' kvs' ks' hs'->cn'<=cn+64->hs'.length<=hs.length+1->KeepH hl H H'->Q (.bl true) H'
section
variable {P:Program}{w:World}{K:PySem.W.Frag}{mg:Str->Option Value}{base:Heap}{a:Adr}
theorem ok__law_step {dvs:List V} (R:RawF K mg "_law_step" s__law_step ["_law_space", "_law_own", "_law_size", "_law_way", "_law_first", "_law_many", "_law_rights"] dvs) (T:Txt w K mg a)
  (h__law_done:HasFn P w K mg base 9 "_law_done" ["_law_space", "_law_way", "_law_first", "_law_many", "_law_rights"] (spDone18 a) [])
  (h__law_code:HasFn P w K mg base 1 "_law_code" ["_law_refusal"] (spCode18 a) [])
  (h__law_whole:HasFn P w K mg base 1 "_law_whole" ["_law_found"] (spWhole) [])
  (h__law_lifted:HasFn P w K mg base 3 "_law_lifted" ["_law_found", "_law_own", "_law_first", "_law_many", "_law_held"] (spLifted18 a) []) :
  HasFn P w K mg base 10 "_law_step" ["_law_space", "_law_own", "_law_size", "_law_way", "_law_first", "_law_many", "_law_rights"] (spStep18 a) dvs:=by
 refine R.ok sc__law_step (fun vs H Q E h=>?_) (fun f cdv A outer s H vs Q E hr h=>?_)
 ·obtain⟨p,d,sz,hl,way,fi,m,r,ns,low,task,base',long,nd,fp,cn,M,kvs,ks,hs,rfl,_⟩:=h
  rfl
 obtain⟨p,d,sz,hl,way,fi,m,r,ns,low,task,base',long,nd,fp,cn,M,kvs,ks,hs,rfl,hsz,W,hw,cc,hs1,k⟩:=h
 let R8:{t:TS // PSs (cxOf (CXE P w) P w K mg base n__law_step "_law_step" (defScope s__law_step) f cdv A outer s H E) ((defBody s__law_step).drop 8) t}:=⟨_,(@pss_cons _ _ _ _ _ (ps_for own_def rfl (pi_range1 (by rfl) T.b_range (@pa_cn _ _ _ _ _ (pv 5) pa_nil rfl)) (pg_name (i:=14) sc__law_step.nd rfl (by first | exact Or.inl rfl | exact Or.inr rfl))
   (@pss_cons _ _ _ _ _ (@ps_set _ _ 15 _ _ _ _ sc__law_step.nd rfl (by first | exact Or.inl rfl | exact Or.inr rfl) (pe_dget hr.u1 (pv 1) (pe_op op_add (pv 4) (pv 14)) (fun _ _=>rfl)) (by rfl) (by first | exact Or.inl rfl | exact Or.inr rfl))
   (@pss_one _ _ _ (@ps_dput _ _ _ _ _ _ _ _ _ hr.u1 (pv 1) (pe_op op_add (pv 4) (pv 14)) (pe_op op_catT (@pe_tup _ _ _ _ _ (@pa_cn _ _ _ _ _ (@pe_ix _ _ _ _ _ _ _ ix_tup (pv 15) pe_int (fun _ _=>rfl)) (@pa_cn _ _ _ _ _ (pv 6) pa_nil rfl) rfl)) (pe_slice sl_tup (pv 15) (po_some pe_int) po_none)) (by rfl)))))
   (@pss_one _ _ _ (@ps_ret _ _ _ _ pe_bl)))⟩
 let R6:{t:TS // PSs (cxOf (CXE P w) P w K mg base n__law_step "_law_step" (defScope s__law_step) f cdv A outer s H E) ((defBody s__law_step).drop 6) t}:=⟨_,(@pss_cons _ _ _ _ _ (ps_if (pt_cmpR op_ne (pv 13) pe_int (nomark _)) (@pss_one _ _ _ (@ps_ret _ _ _ _ pe_bl)) pss_nil)
   (@pss_cons _ _ _ _ _ (ps_if (pt_cmpR op_eq (pv 3) pe_str (nomark _)) (@pss_one _ _ _ (@ps_ret _ _ _ _ (pe_fn h__law_lifted (hr.mono (by decide)) (by rfl) pass_def (@pa_cn _ _ _ _ _ (pv 11) (@pa_cn _ _ _ _ _ (pv 1) (@pa_cn _ _ _ _ _ (pv 4) (@pa_cn _ _ _ _ _ (pv 5) (@pa_cn _ _ _ _ _ (pv 10) pa_nil rfl) rfl) rfl) rfl) rfl)))) pss_nil)
   R8.2))⟩
 let R5:{t:TS // PSs (cxOf (CXE P w) P w K mg base n__law_step "_law_step" (defScope s__law_step) f cdv A outer s H E) ((defBody s__law_step).drop 5) t}:=⟨_,(@pss_cons _ _ _ _ _ (ps_for own_def rfl (pi_range1 (by rfl) T.b_range (@pa_cn _ _ _ _ _ (pv 5) pa_nil rfl)) (pg_name (i:=14) sc__law_step.nd rfl (by first | exact Or.inl rfl | exact Or.inr rfl))
   (@pss_one _ _ _ (ps_if (pt_cmpR (op_notInD hr.u1) (pe_op op_add (pv 4) (pv 14)) (pv 1) (by with_unfolding_all rfl)) (@pss_cons _ _ _ _ _ (ps_if (PW.pt (pw_or (pt_cmpR op_notN (pv 11) pe_non (nomark _)) (pw_or (pt_cmpR op_ne (pv 13) pe_int (nomark _)) (pw_or1 (pt_cmpR op_ne (pe_xfld (pv 12) rfl) (pv 3) (nomark _)))))) (@pss_one _ _ _ (@ps_ret _ _ _ _ pe_bl)) pss_nil)
   (@pss_cons _ _ _ _ _ (ps_if (PW.pt (pw_or (pt_not (pt_val (pe_fn h__law_whole (hr.mono (by decide)) (by rfl) pass_def (@pa_cn _ _ _ _ _ (pe_xfld (pv 12) rfl) pa_nil rfl)))) (pw_or1 (pt_not (pt_val (pe_fn h__law_whole (hr.mono (by decide)) (by rfl) pass_def (@pa_cn _ _ _ _ _ (pe_xfld (pv 12) rfl) pa_nil rfl))))))) (@pss_one _ _ _ (@ps_ret _ _ _ _ pe_bl)) pss_nil)
   (@pss_one _ _ _ (@ps_ret _ _ _ _ (pe_and (pe_cmpR op_eq (pe_xfld (pv 12) rfl) (pv 7) (nomark _)) (pe_one (pe_cmpR op_eq (pe_xfld (pv 12) rfl) (pe_op op_mul (pe_op op_add (pv 4) (pv 14)) (pe_op op_shl pe_int (pv 8))) (nomark _)))))))) pss_nil)))
   R6.2)⟩
 let R4:{t:TS // PSs (cxOf (CXE P w) P w K mg base n__law_step "_law_step" (defScope s__law_step) f cdv A outer s H E) ((defBody s__law_step).drop 4) t}:=⟨_,(@pss_cons _ _ _ _ _ (ps_if (PW.pt (pw_and (pt_cmpR op_eq (pv 3) pe_str (nomark _)) (pw_and1 (pt_not (pt_chain op_le op_le pe_int (pv 6) pe_int))))) (@pss_one _ _ _ (@ps_ret _ _ _ _ (pe_and (pe_cmpR op_isN (pv 11) pe_non (nomark _)) (pe_one (pe_cmpR op_eq (pv 13) pe_int (nomark _)))))) pss_nil)
   R5.2)⟩
 let R3:{t:TS // PSs (cxOf (CXE P w) P w K mg base n__law_step "_law_step" (defScope s__law_step) f cdv A outer s H E) ((defBody s__law_step).drop 3) t}:=⟨_,(@pss_cons _ _ _ _ _ (ps_if (PW.pt (pw_or (pt_not (pt_chain op_le op_le pe_int (pv 5) pe_int)) (pw_or (pt_cmpR op_lt (pv 4) pe_int (nomark _)) (pw_or1 (pt_cmpR op_gt (pe_op op_add (pv 4) (pv 5)) (pv 9) (nomark _)))))) (@pss_one _ _ _ (@ps_ret _ _ _ _ (pe_and (pe_cmpR op_isN (pv 11) pe_non (nomark _)) (pe_one (pe_cmpR op_eq (pv 13) pe_int (nomark _)))))) pss_nil)
   R4.2)⟩
 refine⟨_,(@pss_cons _ _ _ _ _ (ps_asg (pv 2) (pg_tup (n:=4) rfl (pgs_cons (pg_name (i:=7) sc__law_step.nd rfl (by first | exact Or.inl rfl | exact Or.inr rfl)) (pgs_cons (pg_name (i:=8) sc__law_step.nd rfl (by first | exact Or.inl rfl | exact Or.inr rfl)) (pgs_cons (pg_name (i:=9) sc__law_step.nd rfl (by first | exact Or.inl rfl | exact Or.inr rfl)) (pgs_cons (pg_name (i:=10) sc__law_step.nd rfl (by first | exact Or.inl rfl | exact Or.inr rfl)) pgs_nil))))))
   (@pss_cons _ _ _ _ _ (ps_asg (pe_fn h__law_done (hr.mono (by decide)) (by rfl) pass_def (@pa_cn _ _ _ _ _ (pv 0) (@pa_cn _ _ _ _ _ (pv 3) (@pa_cn _ _ _ _ _ (pv 4) (@pa_cn _ _ _ _ _ (pv 5) (@pa_cn _ _ _ _ _ (pv 6) pa_nil rfl) rfl) rfl) rfl) rfl)) (pg_tup (n:=2) rfl (pgs_cons (pg_name (i:=11) sc__law_step.nd rfl (by first | exact Or.inl rfl | exact Or.inr rfl)) (pgs_cons (pg_name (i:=12) sc__law_step.nd rfl (by first | exact Or.inl rfl | exact Or.inr rfl)) pgs_nil))))
   (@pss_cons _ _ _ _ _ (@ps_set _ _ 13 _ _ _ _ sc__law_step.nd rfl (by first | exact Or.inl rfl | exact Or.inr rfl) (pe_fn h__law_code (hr.mono (by decide)) (by rfl) pass_def (@pa_cn _ _ _ _ _ (pv 12) pa_nil rfl)) (by rfl) (by first | exact Or.inl rfl | exact Or.inr rfl))
   R3.2))),?_⟩
 have gd:=W.S.good
 have lv:∀m x,0<=m->m < pgs ns->nd (parts ns m)=some x->∃g:Lf,LfAt a H x g:=fun m x h1 h2 h3=>let ⟨g,_,h⟩:=W.A.leaf h1 h2 h3;⟨g,h⟩
 have WS:=W.S
 have cc9:cn < 90000:=by omega
 have fin:∀H',Same H H'->Q (.bl true) H':=fun H' s=>k M nd fp cn kvs ks hs H' (W.same s) (by omega) (by omega) (KeepH.same s)
 have D3:∀(v12:Option V) (H1:Hp),Same H H1->¬Strt ns fi m->R3.1 { nx:=fun _ H'=>Q .non H',rt:=Q } [some (.ref p),some (.ref d),some (.ref sz),some (.str way),some (.int fi),some (.int m),some (.int r),some (.int task),some (.int low),some (.int (pgs ns)),some (.ref hl),some .non,v12,some (.int 1),none,none] H1:=by
  intro v12 H1 s1 bad
  walk_at "go"
  refine iteD (fun c0=>?_) (fun c0=>?_)
  ·walk_at "go"
   refine iteN (fun c1=>?_) (fun c1=>?_)
   ·walk_at "go"
    exact fin H1 s1
   ·walk_at "go"
    refine iteD (fun c2=>?_) (fun c2=>?_)
    ·walk_at "go"
     exact fin H1 s1
    ·walk_at "go"
     refine iteD (fun c3=>?_) (fun c3=>?_)
     ·walk_at "go"
      exact fin H1 s1
     ·exact absurd ⟨⟨c0,c1⟩,by omega,by omega⟩ bad
  ·walk_at "go"
   exact fin H1 s1
 have P3:∀(v11 v12:Option V) (i:Int) (H1:Hp),Strt ns fi m->R4.1 { nx:=fun _ H'=>Q .non H',rt:=Q } [some (.ref p),some (.ref d),some (.ref sz),some (.str way),some (.int fi),some (.int m),some (.int r),some (.int task),some (.int low),some (.int (pgs ns)),some (.ref hl),v11,v12,some (.int i),none,none] H1->R3.1 { nx:=fun _ H'=>Q .non H',rt:=Q } [some (.ref p),some (.ref d),some (.ref sz),some (.str way),some (.int fi),some (.int m),some (.int r),some (.int task),some (.int low),some (.int (pgs ns)),some (.ref hl),v11,v12,some (.int i),none,none] H1:=by
  intro v11 v12 i H1 st h
  have st1:=st.1.1
  have st2:=st.1.2
  have st3:=st.2.1
  have st4:=st.2.2
  repeat (first | exact h | refine iteD (fun _=>?_) (fun z=>absurd st1 z) | refine iteN (fun z=>absurd st2 z) (fun _=>?_) | refine iteD (fun z=>absurd z (by omega)) (fun _=>?_) | (apply And.intro;(walk_at "cl")) | walk_at "ex")
 have D4:∀(v12:Option V) (H1:Hp),Same H H1->way = "rights" -> ¬OkR r->R4.1 { nx:=fun _ H'=>Q .non H',rt:=Q } [some (.ref p),some (.ref d),some (.ref sz),some (.str way),some (.int fi),some (.int m),some (.int r),some (.int task),some (.int low),some (.int (pgs ns)),some (.ref hl),some .non,v12,some (.int 2),none,none] H1:=by
  intro v12 H1 s1 ew bad
  subst ew
  walk_at "go"
  refine iteD (fun c0=>?_) (fun c0=>?_)
  ·walk_at "go"
   refine iteN (fun c1=>?_) (fun c1=>absurd ⟨c0,c1⟩ bad)
   walk_at "go"
   exact fin H1 s1
  ·walk_at "go"
   exact fin H1 s1
 have P4:∀(v11 v12:Option V) (i:Int) (H1:Hp),(way = "rights" -> OkR r)->R5.1 { nx:=fun _ H'=>Q .non H',rt:=Q } [some (.ref p),some (.ref d),some (.ref sz),some (.str way),some (.int fi),some (.int m),some (.int r),some (.int task),some (.int low),some (.int (pgs ns)),some (.ref hl),v11,v12,some (.int i),none,none] H1->R4.1 { nx:=fun _ H'=>Q .non H',rt:=Q } [some (.ref p),some (.ref d),some (.ref sz),some (.str way),some (.int fi),some (.int m),some (.int r),some (.int task),some (.int low),some (.int (pgs ns)),some (.ref hl),v11,v12,some (.int i),none,none] H1:=by
  intro v11 v12 i H1 okw h
  rcases hw with rfl | rfl
  ·repeat (first | exact h | (apply And.intro;(walk_at "cl")) | walk_at "ex")
  ·have ok:=okw rfl
   have ok1:=ok.1
   have ok2:=ok.2
   repeat (first | exact h | refine iteD (fun _=>?_) (fun z=>absurd ok1 z) | refine iteN (fun z=>absurd ok2 z) (fun _=>?_) | (apply And.intro;(walk_at "cl")) | walk_at "ex")
 have D5:∀(e:Addr) (j:Nat) (H1:Hp),Same H H1->Strt ns fi m->(j:Int) < m->Hole ns nd fi j->FltE H1 e a.c_Unmapped task ((fi+j)*plc low) way->R5.1 { nx:=fun _ H'=>Q .non H',rt:=Q } [some (.ref p),some (.ref d),some (.ref sz),some (.str way),some (.int fi),some (.int m),some (.int r),some (.int task),some (.int low),some (.int (pgs ns)),some (.ref hl),some .non,some (.ref e),some (.int 3),none,none] H1:=by
  intro e j H1 s1 st jm ho flt
  have st3:=st.2.1
  have st4:=st.2.2
  have st2:=st.1.2
  have KP1:=W.KP.same s1
  have hd1:=KP1.h
  have id1:IsD H1 d:=.inl ⟨kvs,Rd.of hd1⟩
  obtain⟨dd,he,hdd⟩:=id flt
  have pl1:(1:Int)*2^low.toNat=plc low:=Int.one_mul _
  have ple:=gd.plc_le
  have plp:=plc_pos low
  have cpl:CPow 1 low:=⟨gd.low0,by have:=gd.low6;omega,by decide⟩
  have g1:=T.xg_Unmapped_task;have g2:=T.xg_Unmapped_address;have g3:=T.xg_Unmapped_deed
  have l1:(fltF (.int task) (.int ((fi+j)*plc low)) (.str way)).lookup ("task" : Str)=some (.int task):=rfl
  have l2:(fltF (.int task) (.int ((fi+j)*plc low)) (.str way)).lookup ("address" : Str)=some (.int ((fi+j)*plc low)):=rfl
  have l3:(fltF (.int task) (.int ((fi+j)*plc low)) (.str way)).lookup ("deed" : Str)=some (.str way):=rfl
  have mm:∀i:Nat,i < j->(M (fi+i)).isSome=true:=fun i hi=>by rw[<-W.A.isS (by omega) (by omega)];exact ho.1 i hi
  have mj:M (fi+j)=none:=by
   cases q:M (fi+j) with
   | none=>rfl
   | some g =>
    obtain⟨x,e1,_⟩:=W.A.so _ g (by omega) (by omega) q
    rw[ho.2] at e1;cases e1
  walk_at "go"
  refine for_range (fun i σ H'=>Bx (i<=j/\H'=H1/\∃v14 v15,σ=[some (.ref p),some (.ref d),some (.ref sz),some (.str way),some (.int fi),some (.int m),some (.int r),some (.int task),some (.int low),some (.int (pgs ns)),some (.ref hl),some .non,some (.ref e),some (.int 3),v14,v15])) ⟨⟨Nat.zero_le _,rfl,_,_,rfl⟩⟩ ?_ ?_
  ·rintro i σ H2 hi ⟨ij,rfl,v14,v15,rfl⟩
   have kn:V.int (fi+(0+(i:Int)))=kV (Sum.inl (fi+(0+(i:Int))):Key):=rfl
   have cmu:CMul (fi+(0+(i:Int))) (1*2^low.toNat):=.inr (by rw[pl1];omega)
   have gg:DGet H2 d (.int (fi+(0+(i:Int)))) (valV kvs (.inl (fi+(0+(i:Int))))):=DGet.k (k:=Sum.inl (fi+(0+(i:Int)))) hd1
   rw[Int.zero_add] at gg cmu
   have nz:fi+(0+(i:Int))=fi+(i:Int):=by omega
   by_cases c:i < j
   ·have ms:=mm i c
    obtain⟨g,hg⟩:∃g,M (fi+i)=some g:=by
     cases q:M (fi+i) with
     | none=>rw[q] at ms;cases ms
     | some g=>exact⟨g,rfl⟩
    obtain⟨t,vt,ht⟩:=KP1.so _ g hg
    rw[vt] at gg
    rw[<-nz] at gg
    walk_at "go"
    exact⟨⟨by omega,rfl,_,_,rfl⟩⟩
   ·have ej:i=j:=by omega
    subst ej
    rw[KP1.no _ mj,<-nz] at gg
    rw[<-nz] at cmu
    walk_at "go"
    refine iteNS rfl ?_
    walk_at "go"
    refine iteD (fun _=>?_) (fun z=>absurd rfl z)
    walk_at "go"
    show Q (.bl (decide (V.int ((fi+(i:Int))*plc low)=V.int ((fi+(0+(i:Int)))*(1*2^low.toNat))))) H2
    rw[decide_eq_true (by rw[pl1,nz])]
    exact fin H2 s1
  ·rintro σ H2 ⟨ij,_⟩
   omega
 have P5:∀(v11 v12:Option V) (i0:Int) (H1:Hp),Kp H1 d M kvs ks->1<=m->m<=64->(∀i:Nat,(i:Int) < m->(M (fi+i)).isSome=true)->(∀v14,R6.1 { nx:=fun _ H'=>Q .non H',rt:=Q } [some (.ref p),some (.ref d),some (.ref sz),some (.str way),some (.int fi),some (.int m),some (.int r),some (.int task),some (.int low),some (.int (pgs ns)),some (.ref hl),v11,v12,some (.int i0),v14,none] H1)->R5.1 { nx:=fun _ H'=>Q .non H',rt:=Q } [some (.ref p),some (.ref d),some (.ref sz),some (.str way),some (.int fi),some (.int m),some (.int r),some (.int task),some (.int low),some (.int (pgs ns)),some (.ref hl),v11,v12,some (.int i0),none,none] H1:=by
  intro v11 v12 i0 H1 KP1 m1 m64 mm h
  have hd1:=KP1.h
  have id1:IsD H1 d:=.inl ⟨kvs,Rd.of hd1⟩
  walk_at "go"
  refine for_range (fun i σ H'=>Bx (H'=H1/\∃v14,σ=[some (.ref p),some (.ref d),some (.ref sz),some (.str way),some (.int fi),some (.int m),some (.int r),some (.int task),some (.int low),some (.int (pgs ns)),some (.ref hl),v11,v12,some (.int i0),v14,none])) ⟨⟨rfl,_,rfl⟩⟩ ?_ ?_
  ·rintro i σ H2 hi ⟨rfl,v14,rfl⟩
   have ms:=mm i (by omega)
   obtain⟨g,hg⟩:∃g,M (fi+i)=some g:=by
    cases q:M (fi+i) with
    | none=>rw[q] at ms;cases ms
    | some g=>exact⟨g,rfl⟩
   obtain⟨t,vt,ht⟩:=KP1.so _ g hg
   have gg:DGet H2 d (.int (fi+(i:Int))) (valV kvs (.inl (fi+(i:Int)))):=DGet.k (k:=Sum.inl (fi+(i:Int))) hd1
   have nz:fi+(0+(i:Int))=fi+(i:Int):=by omega
   rw[vt,<-nz] at gg
   walk_at "go"
   exact⟨⟨rfl,_,rfl⟩⟩
  ·rintro σ H2 ⟨rfl,v14,rfl⟩
   exact h v14
 walk_at "go"
 refine⟨fun bad t e H1 ht he s1=>?_,fun st ew bad t e H1 ht he s1=>?_,fun st okw j jm ho t e H1 ht flt s1=>?_,fun st ew t q xs nd' H1 ht hq q0 xl xa S1 pv fr=>?_,fun st ew okr all t ys nd' fp' H1 ht yl S1 ly pv fr sub=>?_⟩
 ·have tl:Told18 a H1 (.ref e) 1:=.inr (.inl ⟨e,rfl,he,rfl⟩)
  repeat (first | exact fun H2 s2=>D3 _ H2 (s1.trans s2) bad | (apply And.intro;(walk_at "cl")) | walk_at "ex")
 ·have tl:Told18 a H1 (.ref e) 2:=.inr (.inr (.inl ⟨e,rfl,he,rfl⟩))
  repeat (first | exact fun H2 s2=>P3 _ _ _ H2 st (D4 _ H2 (s1.trans s2) ew bad) | (apply And.intro;(walk_at "cl")) | walk_at "ex")
 ·have tl:Told18 a H1 (.ref e) 3:=.inr (.inr (.inr ⟨e,task,_,way,rfl,flt,rfl⟩))
  repeat (first | exact fun H2 s2=>P3 _ _ _ H2 st (P4 _ _ _ H2 okw (D5 e j H2 (s1.trans s2) st jm ho (flt.same s2))) | (apply And.intro;(walk_at "cl")) | walk_at "ex")
 ·subst ew
  have st1:=st.1.1
  have st2:=st.1.2
  have st3:=st.2.1
  have st4:=st.2.2
  obtain⟨mn,rfl⟩:∃mn:Nat,m=(mn:Int):=⟨m.toNat,by omega⟩
  have kn:=WS.keepN fr
  have fd:=L2.Fr.out fr W.KP.h W.nf
  have KP1:=W.KP.keep kn fd.1
  have A1:=W.A.gone kn pv
  have nqh:q≠hl:=fun z=>by rw[z,W.hh] at q0;cases q0
  have xl':xs.length=mn:=by omega
  have mn64:mn<=64:=by omega
  have mm:∀i:Nat,(i:Int) < (mn:Int)->(M (fi+i)).isSome=true:=fun i hi=>by
   have ex:xs[i]?=some (xs[i]'(by omega)):=List.getElem?_eq_getElem _
   rw[<-W.A.isS (by omega) (by omega),xa i _ ex];rfl
  have tl:Told18 a H1 .non 0:=.inl ⟨rfl,rfl⟩
  have D6:∀(v14:Option V) (H2:Hp),Same H1 H2->R6.1 { nx:=fun _ H'=>Q .non H',rt:=Q } [some (.ref p),some (.ref d),some (.ref sz),some (.str "unmap"),some (.int fi),some (.int (mn:Int)),some (.int r),some (.int task),some (.int low),some (.int (pgs ns)),some (.ref hl),some (.ref q),some .non,some (.int 0),v14,none] H2:=by
   intro v14 H2 s2
   have KP2:=KP1.same s2
   have hq2:=s2 _ _ hq
   have hh2:=s2 _ _ (kn.lst W.hh)
   have lx:∀(i:Nat) x,xs[i]?=some x->∃g,M (fi+i)=some g/\LfAt a H2 x g/\g.ok:=fun i x e=>by
    have il:=(List.getElem?_eq_some_iff.mp e).1
    obtain⟨g,e1,e2⟩:=W.A.leaf (by omega) (by omega) (xa i x e)
    exact⟨g,e1,(kn.lf e2).same s2,(W.inn _ g e1).2⟩
   walk_at "go"
   intro t' r' ts' gs' kvs' ks' H3 KP3 hh3 ht3 RW3 LV3 oks nr k3
   have hd2:=KP2.h
   have gl:gs'.length<=64:=by rw[<-LV3.len];omega
   refine k (M.gone fi mn) nd' fp cn kvs' ks' (hs++[t']) H3 ⟨(S1.same s2).off k3 W.nf hd2 hh2,⟨A1.no,fun n g a1 a2 a3=>let ⟨x,e1,e2⟩:=A1.so n g a1 a2 a3;⟨x,e1,lf_off k3 hd2 hh2 (e2.same s2)⟩⟩,KP3,fun n g h=>?_,W.nf,hh3,fun t2 h2=>?_,W.b0,W.b1,W.lg⟩ (by omega) (by rw[List.length_append];exact Nat.le_refl _) fun b u e n1 n2=>k3 b u (s2 _ _ (kn b u e n1)) (fun z=>?_) n2
   ·unfold Mf.gone at h
    by_cases c:fi<=n/\n < fi+(mn:Int)
    ·rw[if_pos c] at h;cases h
    ·rw[if_neg c] at h;exact W.inn n g h
   ·rcases List.mem_append.mp h2 with w | w
    ·exact(((W.he t2 w).keepN kn).same s2).off k3 ⟨_,hd2⟩ ⟨_,hh2⟩
    ·rw[List.mem_singleton.mp w]
     exact⟨q,r',xs,ts',gs',ht3,k3 _ _ hq2 (fun z=>by rw[z,hd2] at hq2;cases hq2) nqh,nqh,RW3,nr,LV3,gl,oks⟩
   ·rw[z,W.KP.h] at e;cases e;exact n1 _ rfl
  repeat (first | exact fun H2 s2=>P3 _ _ _ H2 st (P4 _ _ _ H2 (fun z=>absurd z (by decide +kernel)) (P5 _ _ _ H2 (KP1.same s2) st1 st2 mm fun v14=>D6 v14 H2 s2)) | (apply And.intro;(walk_at "cl")) | walk_at "ex")
 ·subst ew
  have st1:=st.1.1
  have st2:=st.1.2
  have st3:=st.2.1
  have st4:=st.2.2
  obtain⟨mn,rfl⟩:∃mn:Nat,m=(mn:Int):=⟨m.toNat,by omega⟩
  have kn:=WS.keepN fr
  have fd:=L2.Fr.out fr W.KP.h W.nf
  have KP1:=W.KP.keep kn fd.1
  have A1:=W.A.chg kn yl all ly pv
  have mn64:mn<=64:=by omega
  have mm:∀i:Nat,(i:Int) < (mn:Int)->(M (fi+i)).isSome=true:=fun i hi=>by
   rw[<-W.A.isS (by omega) (by omega)];exact all i hi
  have tl:Told18 a H1 .non 0:=.inl ⟨rfl,rfl⟩
  have D6:∀(v14:Option V) (H2:Hp),Same H1 H2->R6.1 { nx:=fun _ H'=>Q .non H',rt:=Q } [some (.ref p),some (.ref d),some (.ref sz),some (.str "rights"),some (.int fi),some (.int (mn:Int)),some (.int r),some (.int task),some (.int low),some (.int (pgs ns)),some (.ref hl),some .non,some .non,some (.int 0),v14,none] H2:=by
   intro v14 H2 s2
   have KP2:=KP1.same s2
   walk_at "go"
   refine for_range (fun i σ H'=>Bx (∃kvs' ks' v14 v15,Kp H' d (M.chg fi i r) kvs' ks'/\(∀b u,H2 b=some u->b≠d->H' b=some u)/\σ=[some (.ref p),some (.ref d),some (.ref sz),some (.str "rights"),some (.int fi),some (.int (mn:Int)),some (.int r),some (.int task),some (.int low),some (.int (pgs ns)),some (.ref hl),some .non,some .non,some (.int 0),v14,v15])) ⟨⟨kvs,ks,_,_,by rw[chg_zero];exact KP2,fun b u e _=>e,rfl⟩⟩ ?_ ?_
   ·rintro i σ H3 hi ⟨kvs',ks',v14,v15,KP3,k3,rfl⟩
    have im:i < mn:=by omega
    have ms:=mm i (by omega)
    obtain⟨g,hg⟩:∃g,M (fi+i)=some g:=by
     cases q:M (fi+i) with
     | none=>rw[q] at ms;cases ms
     | some g=>exact⟨g,rfl⟩
    obtain⟨t',vt,ht'⟩:=KP3.so (fi+i) g (by rw[chg_at];exact hg)
    have hd3:=KP3.h
    have id3:IsD H3 d:=.inl ⟨kvs',Rd.of hd3⟩
    have gg:DGet H3 d (.int (fi+(i:Int))) (valV kvs' (.inl (fi+(i:Int)))):=DGet.k (k:=Sum.inl (fi+(i:Int))) hd3
    have nz:fi+(0+(i:Int))=fi+(i:Int):=by omega
    rw[vt,<-nz] at gg
    have vt':valV kvs' (Sum.inl (fi+(0+(i:Int))))=some (.ref t'):=by rw[nz];exact vt
    obtain⟨sn,a0,er⟩:=row_with g r
    have cw:=row_part g
    walk_at "go"
    intro u hu
    generalize hh:upd _ u _=H4
    obtain⟨s4,e4⟩:=newO hu hh
    clear hh
    have ht4:=s4 _ _ ht'
    walk_at "go"
    intro v hv
    generalize hh:upd _ v _=H5
    obtain⟨s5,e5⟩:=newO hv hh
    clear hh
    rw[row_cut] at e5
    have e45:=s5 _ _ e4
    have kl3:=(KP3.few fun n g h=>(Mf.chg_inn W.inn n g h).1).1
    have lg:=W.lg
    have rf:=row_few g
    have ne:[V.str sn,V.int r]≠[]:=fun z=>by cases z
    have s35:=s4.trans s5
    have fin:∀(tt:Addr) (H6:Hp),Same H3 H6->H6 tt=some (.tup (g.withR r).row)->∃kvs2 ks2,Kp (upd H6 d (.dK (putK kvs' (.inl (fi+(i:Int))) (.ref tt)))) d (M.chg fi ((i+1:Nat):Int) r) kvs2 ks2/\∀b u,H2 b=some u->b≠d->upd H6 d (.dK (putK kvs' (.inl (fi+(i:Int))) (.ref tt))) b=some u:=fun tt H6 s6 ht6=>by
     obtain⟨ks2,KP6⟩:=(KP3.same s6).put (n:=fi+i) ht6
     rw[chg_succ hg] at KP6
     exact⟨_,ks2,KP6,fun b u e nb=>by rw[upd_ne nb];exact s6 _ _ (k3 b u e nb)⟩
    walk_at "go"
    refine⟨by rw[sizeLine_eq,List.length_drop];show 2+_<=_;omega,fun z=>?_,fun z tt htt=>?_⟩
    ·have dp:=DPut.k (k:=Sum.inl (fi+(0+(i:Int)))) (v:=V.ref u) (s35 _ _ hd3) (by rw[sizeLine_eq];omega)
     walk_at "go"
     rw[nz]
     rw[z,List.append_nil] at er
     obtain⟨kvs2,ks2,q1,q2⟩:=fin u H5 s35 (by rw[er];exact e45)
     exact⟨⟨kvs2,ks2,_,_,q1,q2,rfl⟩⟩
    ·generalize hh:upd H5 tt _=H6
     obtain⟨s6,e6⟩:=newO htt hh
     clear hh
     have dp:=DPut.k (k:=Sum.inl (fi+(0+(i:Int)))) (v:=V.ref tt) (s6 _ _ (s35 _ _ hd3)) (by rw[sizeLine_eq];omega)
     walk_at "go"
     rw[nz]
     obtain⟨kvs2,ks2,q1,q2⟩:=fin tt H6 (s35.trans s6) (by rw[er];exact e6)
     exact⟨⟨kvs2,ks2,_,_,q1,q2,rfl⟩⟩
   ·rintro σ H3 ⟨kvs',ks',v14,v15,KP3,k3,rfl⟩
    rw[Int.toNat_natCast] at KP3
    walk_at "go"
    have kn23:KeepN H2 H3:=fun b u e n=>k3 b u e fun z=>by rw[z,KP2.h] at e;cases e;exact n _ rfl
    refine k (M.chg fi mn r) nd' fp' (cn+64) kvs' ks' hs H3 ⟨(S1.same s2).offd k3 fd.2 KP2.h,⟨A1.no,fun n g a1 a2 a3=>let ⟨x,e1,e2⟩:=A1.so n g a1 a2 a3;⟨x,e1,let ⟨dx,h⟩:=e2;⟨dx,k3 _ _ (s2 _ _ h) fun z=>by have h:=s2 _ _ h;rw[z,KP2.h] at h;cases h⟩⟩⟩,KP3,Mf.chg_inn W.inn,fd.2,kn23.lst (s2 _ _ (kn.lst W.hh)),fun t2 h2=>(((W.he t2 h2).keepN kn).same s2).keepN kn23,W.b0,W.b1,W.lg⟩ (by omega) (by omega) (KeepH.keepN ((kn.trans (KeepN.same s2)).trans kn23))
  repeat (first | exact fun H2 s2=>P3 _ _ _ H2 st (P4 _ _ _ H2 (fun _=>okr) (P5 _ _ _ H2 (KP1.same s2) st1 st2 mm fun v14=>D6 v14 H2 s2)) | (apply And.intro;(walk_at "cl")) | walk_at "ex")
end
end K18

set_option maxHeartbeats 4000000
namespace K18
open PySem L2
def spEdges18 (a:Adr): Sp:=fun vs H Q _=>∃(p d:Addr) (base far:Int) (ns:List Int) (low task:Int) (nd:Ix->Option Addr) (fp:List Addr) (cn:Nat) (M:Mf) (kvs:List (Key×V)) (ks:List Int),vs=[.ref p,.ref d,.int base,.int (pgs ns),.int far]/\SpAt a H p ns low task nd fp cn/\cn < 90000/\Ab a H ns nd M/\Kp H d M kvs ks/\(∀n g,M n=some g->(0<=n/\n < pgs ns)/\g.ok)/\ks.length < 64/\0<=far/\∀H',Same H H'->Q (.bl true) H'
section
variable {P:Program}{w:World}{K:PySem.W.Frag}{mg:Str->Option Value}{base:Heap}{a:Adr}
theorem ok__law_edges {dvs:List V} (R:RawF K mg "_law_edges" s__law_edges ["_law_space", "_law_own", "_law_base", "_law_total", "_law_far"] dvs) (T:Txt w K mg a)
  (h__law_all:HasFn P w K mg base 4 "_law_all" ["_law_space", "_law_own"] (spAll18 a) [])
  (h__law_lay_refused:HasFn P w K mg base 8 "_law_lay_refused" ["_law_space", "_law_first", "_law_many"] (spLayRef18 a) [])
  (h__law_outside:HasFn P w K mg base 7 "_law_outside" ["_law_space", "_law_asks", "_law_page"] (spOut18 a) []) :
  HasFn P w K mg base 9 "_law_edges" ["_law_space", "_law_own", "_law_base", "_law_total", "_law_far"] (spEdges18 a) dvs:=by
 refine R.ok sc__law_edges (fun vs H Q E h=>?_) (fun f cdv A outer s H vs Q E hr h=>?_)
 ·obtain⟨p,d,base',far,ns,low,task,nd,fp,cn,M,kvs,ks,rfl,_⟩:=h
  rfl
 obtain⟨p,d,base',far,ns,low,task,nd,fp,cn,M,kvs,ks,rfl,S,cc,A0,KP,inn,k63,f0,k⟩:=h
 let R2:{t:TS // PSs (cxOf (CXE P w) P w K mg base n__law_edges "_law_edges" (defScope s__law_edges) f cdv A outer s H E) ((defBody s__law_edges).drop 2) t}:=⟨_,(@pss_one _ _ _ (@ps_ret _ _ _ _ (pe_fn h__law_all (hr.mono (by decide)) (by rfl) pass_def (@pa_cn _ _ _ _ _ (pv 0) (@pa_cn _ _ _ _ _ (pv 1) pa_nil rfl) rfl))))⟩
 let R1:{t:TS // PSs (cxOf (CXE P w) P w K mg base n__law_edges "_law_edges" (defScope s__law_edges) f cdv A outer s H E) ((defBody s__law_edges).drop 1) t}:=⟨_,(@pss_cons _ _ _ _ _ (ps_for own_def rfl (pi_list (@pe_lst _ _ _ _ (@pa_cn _ _ _ _ _ (pe_op op_sub (pe_un un_neg pe_int) (pv 4)) (@pa_cn _ _ _ _ _ (pe_un un_neg pe_int) (@pa_cn _ _ _ _ _ (pv 3) (@pa_cn _ _ _ _ _ (pe_op op_add (pv 3) (pv 4)) pa_nil rfl) rfl) rfl) rfl))) (pg_name (i:=7) sc__law_edges.nd rfl (by first | exact Or.inl rfl | exact Or.inr rfl))
   (@pss_one _ _ _ (ps_if (PW.pt (pw_or (pt_not (pt_val (pe_fn h__law_outside (hr.mono (by decide)) (by rfl) pass_def (@pa_cn _ _ _ _ _ (pv 0) (@pa_cn _ _ _ _ _ pe_bl (@pa_cn _ _ _ _ _ (pv 7) pa_nil rfl) rfl) rfl)))) (pw_or1 (pt_not (pt_val (pe_fn h__law_outside (hr.mono (by decide)) (by rfl) pass_def (@pa_cn _ _ _ _ _ (pv 0) (@pa_cn _ _ _ _ _ pe_bl (@pa_cn _ _ _ _ _ (pv 7) pa_nil rfl) rfl) rfl))))))) (@pss_one _ _ _ (@ps_ret _ _ _ _ pe_bl)) pss_nil)))
   R2.2)⟩
 refine⟨_,(@pss_cons _ _ _ _ _ (ps_for own_def rfl (pi_list (@pe_lst _ _ _ _ (@pa_cn _ _ _ _ _ (@pe_tup _ _ _ _ _ (@pa_cn _ _ _ _ _ (pe_op op_sub (pe_un un_neg pe_int) (pv 4)) (@pa_cn _ _ _ _ _ pe_int pa_nil rfl) rfl)) (@pa_cn _ _ _ _ _ (@pe_tup _ _ _ _ _ (@pa_cn _ _ _ _ _ (pe_op op_add (pv 3) (pv 4)) (@pa_cn _ _ _ _ _ pe_int pa_nil rfl) rfl)) (@pa_cn _ _ _ _ _ (@pe_tup _ _ _ _ _ (@pa_cn _ _ _ _ _ (pe_op op_sub (pv 3) pe_int) (@pa_cn _ _ _ _ _ pe_int pa_nil rfl) rfl)) (@pa_cn _ _ _ _ _ (@pe_tup _ _ _ _ _ (@pa_cn _ _ _ _ _ (pv 2) (@pa_cn _ _ _ _ _ pe_int pa_nil rfl) rfl)) (@pa_cn _ _ _ _ _ (@pe_tup _ _ _ _ _ (@pa_cn _ _ _ _ _ (pv 2) (@pa_cn _ _ _ _ _ pe_int pa_nil rfl) rfl)) (@pa_cn _ _ _ _ _ (@pe_tup _ _ _ _ _ (@pa_cn _ _ _ _ _ (pe_un un_neg pe_int) (@pa_cn _ _ _ _ _ pe_int pa_nil rfl) rfl)) pa_nil rfl) rfl) rfl) rfl) rfl) rfl))) (pg_tup (n:=2) rfl (pgs_cons (pg_name (i:=5) sc__law_edges.nd rfl (by first | exact Or.inl rfl | exact Or.inr rfl)) (pgs_cons (pg_name (i:=6) sc__law_edges.nd rfl (by first | exact Or.inl rfl | exact Or.inr rfl)) pgs_nil)))
   (@pss_one _ _ _ (ps_if (PW.pt (pw_or (pt_not (pt_val (pe_fn h__law_lay_refused (hr.mono (by decide)) (by rfl) pass_def (@pa_cn _ _ _ _ _ (pv 0) (@pa_cn _ _ _ _ _ (pv 5) (@pa_cn _ _ _ _ _ (pv 6) pa_nil rfl) rfl) rfl)))) (pw_or1 (pt_not (pt_val (pe_fn h__law_all (hr.mono (by decide)) (by rfl) pass_def (@pa_cn _ _ _ _ _ (pv 0) (@pa_cn _ _ _ _ _ (pv 1) pa_nil rfl) rfl))))))) (@pss_one _ _ _ (@ps_ret _ _ _ _ pe_bl)) pss_nil)))
   R1.2),?_⟩
 have pp:=pgs_pos ns
 have D1:∀(v5 v6:Option V) (H1:Hp),Same H H1->R1.1 { nx:=fun _ H'=>Q .non H',rt:=Q } [some (.ref p),some (.ref d),some (.int base'),some (.int (pgs ns)),some (.int far),v5,v6,none] H1:=by
  intro v5 v6 H1 s1
  walk_at "go"
  intro l hl
  generalize hh:upd _ l _=H2
  obtain⟨s2,e2⟩:=newO hl hh
  clear hh
  have xs2:∀v∈[V.int (-1-far),V.int (-1),V.int (pgs ns),V.int (pgs ns+far)],∃n:Int,v=.int n/\¬(0<=n/\n < pgs ns):=fun v hv=>by
   rcases hv with _ | ⟨_,hv⟩
   ·exact⟨_,rfl,by omega⟩
   rcases hv with _ | ⟨_,hv⟩
   ·exact⟨_,rfl,by omega⟩
   rcases hv with _ | ⟨_,hv⟩
   ·exact⟨_,rfl,by omega⟩
   rcases hv with _ | ⟨_,hv⟩
   ·exact⟨_,rfl,by omega⟩
   cases hv
  walk_at "go"
  refine for_list (xs:=[V.int (-1-far),V.int (-1),V.int (pgs ns),V.int (pgs ns+far)]) (fun i σ H'=>Bx ((∃v7,σ=[some (.ref p),some (.ref d),some (.int base'),some (.int (pgs ns)),some (.int far),v5,v6,v7])/\∀b u,H2 b=some u->H' b=some u)) ⟨⟨⟨_,rfl⟩,fun _ _ e=>e⟩⟩ (fun i σ H' _ z=>SqL.of (z.o.2 _ _ e2)) ?_ ?_
  ·rintro i v σ H3 hi ⟨⟨v7,rfl⟩,s3⟩
   obtain⟨n,rfl,bad⟩:=xs2 v (List.mem_of_getElem? hi)
   have s23:Same H2 H3:=s3
   have s03:=(s1.trans s2).trans s23
   have S3:=S.same s03
   walk_at "go"
   intro H4 s4
   have S4:=S3.same s4
   walk_at "go"
   intro H5 s5
   walk_at "go"
   exact⟨⟨⟨_,rfl⟩,fun b u e=>s5 _ _ (s4 _ _ (s3 _ _ e))⟩⟩
  ·rintro σ H3 ⟨⟨v7,rfl⟩,s3⟩
   have s23:Same H2 H3:=s3
   have s03:=(s1.trans s2).trans s23
   have S3:=S.same s03
   have A3:=A0.same s03
   have KP3:=KP.same s03
   walk_at "go"
   exact fun H4 s4=>k H4 (s03.trans s4)
 walk_at "go"
 intro t1 ht1
 generalize hh:upd _ t1 _=H1
 obtain⟨s1,e1⟩:=newO ht1 hh
 clear hh
 walk_at "go"
 intro t2 ht2
 generalize hh:upd _ t2 _=H2
 obtain⟨s2,e2⟩:=newO ht2 hh
 clear hh
 have e12:=s2 _ _ e1
 walk_at "go"
 intro t3 ht3
 generalize hh:upd _ t3 _=H3
 obtain⟨s3,e3⟩:=newO ht3 hh
 clear hh
 have e13:=s3 _ _ e12
 have e23:=s3 _ _ e2
 walk_at "go"
 intro t4 ht4
 generalize hh:upd _ t4 _=H4
 obtain⟨s4,e4⟩:=newO ht4 hh
 clear hh
 walk_at "go"
 intro t5 ht5
 generalize hh:upd _ t5 _=H5
 obtain⟨s5,e5⟩:=newO ht5 hh
 clear hh
 walk_at "go"
 intro t6 ht6
 generalize hh:upd _ t6 _=H6
 obtain⟨s6,e6⟩:=newO ht6 hh
 clear hh
 have s16:=(((s2.trans s3).trans s4).trans s5).trans s6
 have f1:=s16 _ _ e1
 have f2:=(((s3.trans s4).trans s5).trans s6) _ _ e2
 have f3:=((s4.trans s5).trans s6) _ _ e3
 have f4:=(s5.trans s6) _ _ e4
 have f5:=s6 _ _ e5
 have s06:=s1.trans s16
 walk_at "go"
 intro l hl
 generalize hh:upd _ l _=H7
 obtain⟨s7,e7⟩:=newO hl hh
 clear hh
 have xs7:∀v∈[V.ref t1,V.ref t2,V.ref t3,V.ref t4,V.ref t5,V.ref t6],∃t f m,v=.ref t/\H7 t=some (.tup [.int f,.int m])/\0<=m/\m<=65/\¬Strt ns f m:=fun v hv=>by
  rcases hv with _ | ⟨_,hv⟩
  ·exact⟨_,_,_,rfl,s7 _ _ f1,by decide,by decide,fun z=>by have:=z.1;have:=z.2;omega⟩
  rcases hv with _ | ⟨_,hv⟩
  ·exact⟨_,_,_,rfl,s7 _ _ f2,by decide,by decide,fun z=>by have:=z.1;have:=z.2;omega⟩
  rcases hv with _ | ⟨_,hv⟩
  ·exact⟨_,_,_,rfl,s7 _ _ f3,by decide,by decide,fun z=>by have:=z.1;have:=z.2;omega⟩
  rcases hv with _ | ⟨_,hv⟩
  ·exact⟨_,_,_,rfl,s7 _ _ f4,by decide,by decide,fun z=>by have:=z.1;have:=z.2;omega⟩
  rcases hv with _ | ⟨_,hv⟩
  ·exact⟨_,_,_,rfl,s7 _ _ f5,by decide,by decide,fun z=>by have:=z.1;have:=z.2;omega⟩
  rcases hv with _ | ⟨_,hv⟩
  ·exact⟨_,_,_,rfl,s7 _ _ e6,by decide,by decide,fun z=>by have:=z.1;have:=z.2;omega⟩
  cases hv
 walk_at "go"
 refine for_list (xs:=[V.ref t1,V.ref t2,V.ref t3,V.ref t4,V.ref t5,V.ref t6]) (fun i σ H'=>Bx ((∃v5 v6,σ=[some (.ref p),some (.ref d),some (.int base'),some (.int (pgs ns)),some (.int far),v5,v6,none])/\∀b u,H7 b=some u->H' b=some u)) ⟨⟨⟨_,_,rfl⟩,fun _ _ e=>e⟩⟩ (fun i σ H' _ z=>SqL.of (z.o.2 _ _ e7)) ?_ ?_
 ·rintro i v σ H8 hi ⟨⟨v5,v6,rfl⟩,s8⟩
  obtain⟨t,fi,m,rfl,ht,m0,m1,bad⟩:=xs7 v (List.mem_of_getElem? hi)
  have s78:Same H7 H8:=s8
  have ht8:=s78 _ _ ht
  have s08:=(s06.trans s7).trans s78
  have S8:=S.same s08
  walk_at "go"
  intro H9 s9
  have s09:=s08.trans s9
  have S9:=S.same s09
  have A9:=A0.same s09
  have KP9:=KP.same s09
  walk_at "go"
  intro H10 s10
  walk_at "go"
  exact⟨⟨⟨_,_,rfl⟩,fun b u e=>s10 _ _ (s9 _ _ (s8 _ _ e))⟩⟩
 ·rintro σ H8 ⟨⟨v5,v6,rfl⟩,s8⟩
  have s78:Same H7 H8:=s8
  exact D1 v5 v6 H8 ((s06.trans s7).trans s78)
end
end K18

set_option maxHeartbeats 4000000
namespace K18
open PySem L2
theorem KeepN.updD {H:Hp}{d:Addr}{kv kv':List (Key×V)}(hd:H d=some (.dK kv)): KeepN H (upd H d (.dK kv')):=fun b u e n=>by
 rw[upd_ne (fun z=>by rw[z,hd] at e;cases e;exact n _ rfl)];exact e
structure F18 (a:Adr)(H:Hp)(p d:Addr)(ns:List Int)(low task base:Int)(long:Nat)(nd:Ix->Option Addr)(fp:List Addr)(cn:Nat)(M:Mf)(kvs:List (Key×V))(ks:List Int): Prop where
 S:SpAt a H p ns low task nd fp cn
 A:Ab a H ns nd M
 KP:Kp H d M kvs ks
 inn:∀n g,M n=some g->(base<=n/\n < base+long)/\g.ok
 nf:d∉fp
theorem F18.same {a:Adr}{H H':Hp}{p d:Addr}{ns:List Int}{low task base:Int}{long:Nat}{nd:Ix->Option Addr}{fp:List Addr}{cn:Nat}{M:Mf}{kvs:List (Key×V)}{ks:List Int}(W:F18 a H p d ns low task base long nd fp cn M kvs ks)(s:Same H H'): F18 a H' p d ns low task base long nd fp cn M kvs ks :=
 { W with S:=W.S.same s,A:=W.A.same s,KP:=W.KP.same s }
theorem F18.wide {a:Adr}{H:Hp}{p d:Addr}{ns:List Int}{low task base:Int}{long long':Nat}{nd:Ix->Option Addr}{fp:List Addr}{cn cn':Nat}{M:Mf}{kvs:List (Key×V)}{ks:List Int}(W:F18 a H p d ns low task base long nd fp cn M kvs ks)(h:long<=long')(h':cn<=cn'): F18 a H p d ns low task base long' nd fp cn' M kvs ks :=
 { S:=W.S.mono h',A:=W.A,KP:=W.KP,inn:=fun n g e=>⟨⟨(W.inn n g e).1.1,by have:=(W.inn n g e).1.2;omega⟩,(W.inn n g e).2⟩,nf:=W.nf }
theorem F18.row {a:Adr}{H:Hp}{p d t:Addr}{ns:List Int}{low task:Int}{nd:Ix->Option Addr}{fp:List Addr}{cn:Nat}{M:Mf}{kvs:List (Key×V)}{ks:List Int}{g:Lf}{n:Int}(S:SpAt a H p ns low task nd fp cn)(A:Ab a H ns nd M)(KP:Kp H d M kvs ks)(nf:d∉fp)(ht:H t=some (.tup g.row)): ∃H',H'=upd H d (.dK (putK kvs (.inl n) (.ref t)))/\SpAt a H' p ns low task nd fp cn/\Ab a H' ns nd M/\(∃ks',Kp H' d (M.put n (some g)) (putK kvs (.inl n) (.ref t)) ks')/\KeepN H H'/\H' t=some (.tup g.row):=by
 have kn:=KeepN.updD (kv':=putK kvs (.inl n) (.ref t)) KP.h
 exact⟨_,rfl,S.offd (fun b u e nb=>by rw[upd_ne nb];exact e) nf KP.h,A.kept kn,KP.put ht,kn,kn.tup ht⟩
theorem iteB {c:Bool}{A B:Prop}(h1:c=true->A)(h2:¬c=true->B): if c=true then A else B:=by
 by_cases h:c=true
 ·rw[if_pos h];exact h1 h
 ·rw[if_neg h];exact h2 h
def spFilled18 (a:Adr)(K:PySem.W.Frag): Sp:=fun vs H Q _=>∃(p sc:Addr) (ss ns:List Int) (low task:Int) (nd:Ix->Option Addr) (fp:List Addr),vs=[.ref p,.ref sc,.int (pgs ns)]/\SpAt a H p ns low task nd fp 0/\Ab a H ns nd (fun _=>none)/\SqL K H sc (ss.map V.int)/\ss.length<=63 ∧
 ∀t d base (long:Nat) M nd' fp' kvs ks H',H' t=some (.tup [.int base,.int (long:Int),.ref d])->1<=long->long<=60->0<=base->base+long<=pgs ns->F18 a H' p d ns low task base long nd' fp' 60 M kvs ks->KeepN H H'->Q (.ref t) H'
theorem cut_len (ss:List Int)(i j:Nat): ∃ms:List Int,cutV (ss.map V.int) (some (i:Int)) (some ((i:Int)+(j:Int)))=ms.map V.int/\ms.length<=j/\(ms.length=0\/ms.length+i<=ss.length):=by
 unfold cutV
 rw[show (i:Int)+(j:Int)=((i+j:Nat):Int) by omega,HT.sIx_nat,HT.sIx_nat,List.length_map]
 refine⟨(ss.drop (min i ss.length)).take (min (i+j) ss.length-min i ss.length),by rw[List.map_take,List.map_drop],?_,?_⟩
 ·rw[List.length_take,List.length_drop];omega
 ·rw[List.length_take,List.length_drop];omega
section
variable {P:Program}{w:World}{K:PySem.W.Frag}{mg:Str->Option Value}{base:Heap}{a:Adr}
theorem ok__law_filled {dvs:List V} (R:RawF K mg "_law_filled" s__law_filled ["_law_space", "_law_script", "_law_total"] dvs) (T:Txt w K mg a)
  (h__law_cell_at:HasFn P w K mg base 1 "_law_cell_at" ["_law_script", "_law_k"] (spCell K) [])
  (h__law_row:HasFn P w K mg base 2 "_law_row" ["_law_cell"] (spDueR) [])
  (h_Space_put:HasMe P w K mg base a.c_Space 6 "put" ["self", "page", "leaf"] (spSpPut a) [])
  (h__law_leaf:HasFn P w K mg base 5 "_law_leaf" ["_law_row_here"] (spLeafR a) []) :
  HasFn P w K mg base 7 "_law_filled" ["_law_space", "_law_script", "_law_total"] (spFilled18 a K) dvs:=by
 refine R.ok sc__law_filled (fun vs H Q E h=>?_) (fun f cdv A outer s H vs Q E hr h=>?_)
 ·obtain⟨p,sc,ss,ns,low,task,nd,fp,rfl,_⟩:=h
  rfl
 obtain⟨p,sc,ss,ns,low,task,nd,fp,rfl,SP,AB,hS,hlen,k⟩:=h
 let R5:{t:TS // PSs (cxOf (CXE P w) P w K mg base n__law_filled "_law_filled" (defScope s__law_filled) f cdv A outer s H E) ((defBody s__law_filled).drop 5) t}:=⟨_,(@pss_cons _ _ _ _ _ (@ps_set _ _ 6 _ _ _ _ sc__law_filled.nd rfl (by first | exact Or.inl rfl | exact Or.inr rfl) pe_dnewK (by rfl) (by first | exact Or.inl rfl | exact Or.inr rfl))
   (@pss_cons _ _ _ _ _ (ps_for own_def rfl (pi_range1 (by rfl) T.b_range (@pa_cn _ _ _ _ _ (pe_callB call_len_seq (by rfl) T.b_len PySem.boot_len (@pa_cn _ _ _ _ _ (pv 3) pa_nil rfl)) pa_nil rfl)) (pg_name (i:=7) sc__law_filled.nd rfl (by first | exact Or.inl rfl | exact Or.inr rfl))
   (@pss_one _ _ _ (ps_if (pt_cmpR op_notIn_seq (pv 7) (pv 5) (by with_unfolding_all rfl)) (@pss_cons _ _ _ _ _ (@ps_dput _ _ _ _ _ _ _ _ _ hr.u1 (pv 6) (pe_op op_add (pv 4) (pv 7)) (pe_fn h__law_row (hr.mono (by decide)) (by rfl) pass_def (@pa_cn _ _ _ _ _ (@pe_ix _ _ _ _ _ _ _ ix_list (pv 3) (pv 7) (fun _ _=>rfl)) pa_nil rfl)) (by rfl))
   (@pss_one _ _ _ (ps_expr (pe_me (pv 0) T.cl_Space h_Space_put (hr.mono (by decide)) pass_def (@pa_cn _ _ _ _ _ (pe_op op_add (pv 4) (pv 7)) (@pa_cn _ _ _ _ _ (pe_fn h__law_leaf (hr.mono (by decide)) (by rfl) pass_def (@pa_cn _ _ _ _ _ (pe_dget hr.u1 (pv 6) (pe_op op_add (pv 4) (pv 7)) (fun _ _=>rfl)) pa_nil rfl)) pa_nil rfl) rfl))))) pss_nil)))
   (@pss_one _ _ _ (@ps_ret _ _ _ _ (@pe_tup _ _ _ _ _ (@pa_cn _ _ _ _ _ (pv 4) (@pa_cn _ _ _ _ _ (pe_callB call_len_seq (by rfl) T.b_len PySem.boot_len (@pa_cn _ _ _ _ _ (pv 3) pa_nil rfl)) (@pa_cn _ _ _ _ _ (pv 6) pa_nil rfl) rfl) rfl))))))⟩
 let R2:{t:TS // PSs (cxOf (CXE P w) P w K mg base n__law_filled "_law_filled" (defScope s__law_filled) f cdv A outer s H E) ((defBody s__law_filled).drop 2) t}:=⟨_,(@pss_cons _ _ _ _ _ (@ps_set _ _ 4 _ _ _ _ sc__law_filled.nd rfl (by first | exact Or.inl rfl | exact Or.inr rfl) (pe_op op_mod (pe_op op_mul (pe_op op_mod (pe_fn h__law_cell_at (hr.mono (by decide)) (by rfl) pass_def (@pa_cn _ _ _ _ _ (pv 1) (@pa_cn _ _ _ _ _ pe_int pa_nil rfl) rfl)) (pe_op op_pow pe_int pe_int)) pe_int) (pe_op op_add (pe_op op_sub (pv 2) (pe_callB call_len_seq (by rfl) T.b_len PySem.boot_len (@pa_cn _ _ _ _ _ (pv 3) pa_nil rfl))) pe_int)) (by rfl) (by first | exact Or.inl rfl | exact Or.inr rfl))
   (@pss_cons _ _ _ _ _ (@ps_set _ _ 5 _ _ _ _ sc__law_filled.nd rfl (by first | exact Or.inl rfl | exact Or.inr rfl) (@pe_lst _ _ _ _ (@pa_cn _ _ _ _ _ (pe_un un_neg pe_int) (@pa_cn _ _ _ _ _ (pe_un un_neg pe_int) pa_nil rfl) rfl)) (by rfl) (by first | exact Or.inl rfl | exact Or.inr rfl))
   (@pss_cons _ _ _ _ _ (ps_if (pt_cmpR op_eq (pe_op op_mod (pe_fn h__law_cell_at (hr.mono (by decide)) (by rfl) pass_def (@pa_cn _ _ _ _ _ (pv 1) (@pa_cn _ _ _ _ _ pe_int pa_nil rfl) rfl)) pe_int) pe_int (nomark _)) (@pss_one _ _ _ (@ps_set _ _ 5 _ _ _ _ sc__law_filled.nd rfl (by first | exact Or.inl rfl | exact Or.inr rfl) (@pe_lst _ _ _ _ (@pa_cn _ _ _ _ _ (pe_op op_mod (pe_op op_fdiv (pe_fn h__law_cell_at (hr.mono (by decide)) (by rfl) pass_def (@pa_cn _ _ _ _ _ (pv 1) (@pa_cn _ _ _ _ _ pe_int pa_nil rfl) rfl)) pe_int) (pe_callB call_len_seq (by rfl) T.b_len PySem.boot_len (@pa_cn _ _ _ _ _ (pv 3) pa_nil rfl))) (@pa_cn _ _ _ _ _ (pe_op op_mod (pe_op op_fdiv (pe_fn h__law_cell_at (hr.mono (by decide)) (by rfl) pass_def (@pa_cn _ _ _ _ _ (pv 1) (@pa_cn _ _ _ _ _ pe_int pa_nil rfl) rfl)) pe_int) (pe_callB call_len_seq (by rfl) T.b_len PySem.boot_len (@pa_cn _ _ _ _ _ (pv 3) pa_nil rfl))) pa_nil rfl) rfl)) (by rfl) (by first | exact Or.inl rfl | exact Or.inr rfl))) pss_nil)
   R5.2)))⟩
 refine⟨_,(@pss_cons _ _ _ _ _ (@ps_set _ _ 3 _ _ _ _ sc__law_filled.nd rfl (by first | exact Or.inl rfl | exact Or.inr rfl) (pe_slice sl_list (pv 1) (po_some pe_int) (po_some (pe_op op_add pe_int (pe_callB (call_min2 rfl) (by rfl) T.b_min PyProof.Rows.Boot.«min» (@pa_cn _ _ _ _ _ pe_int (@pa_cn _ _ _ _ _ (pv 2) pa_nil rfl) rfl))))) (by rfl) (by first | exact Or.inl rfl | exact Or.inr rfl))
   (@pss_cons _ _ _ _ _ (ps_if (pt_cmpR (op_eqD hr.units) (pv 3) (@pe_lst _ _ _ _ pa_nil) (nomark _)) (@pss_one _ _ _ (@ps_set _ _ 3 _ _ _ _ sc__law_filled.nd rfl (by first | exact Or.inl rfl | exact Or.inr rfl) (@pe_lst _ _ _ _ (@pa_cn _ _ _ _ _ (pe_fn h__law_cell_at (hr.mono (by decide)) (by rfl) pass_def (@pa_cn _ _ _ _ _ (pv 1) (@pa_cn _ _ _ _ _ pe_int pa_nil rfl) rfl)) pa_nil rfl)) (by rfl) (by first | exact Or.inl rfl | exact Or.inr rfl))) pss_nil)
   R2.2)),?_⟩
 have pp:=pgs_pos ns
 have gd:=SP.good
 have t1:=T.cl_Space
 have D5:∀(cl hol:Addr) (base':Int) (ms hh:List Int) (H4:Hp),H4 cl=some (.lst (ms.map V.int))->H4 hol=some (.lst (hh.map V.int))->1<=ms.length->ms.length<=60->0<=base'->base'+ms.length<=pgs ns->Same H H4->R5.1 { nx:=fun _ H'=>Q .non H',rt:=Q } [some (.ref p),some (.ref sc),some (.int (pgs ns)),some (.ref cl),some (.int base'),some (.ref hol),none,none] H4:=by
  intro cl hol base' ms hh H4 hcl hhol m1 m60 b0 b1 s4
  walk_at "go"
  intro d hd
  generalize hh:upd _ d _=H5
  obtain⟨s5,e5⟩:=newO hd hh
  clear hh
  have KP5:Kp H5 d (fun _=>none) [] []:=⟨e5,rfl,List.nodup_nil,fun _ _=>rfl,fun n g h=>by cases h⟩
  have nf5:d∉fp:=fun z=>by
   obtain⟨dx,sh,tr,dt,sh2,top,dxs,ts,_,_,⟨⟨dy,sh3,top3,_,_,q4⟩,_⟩,_⟩:=SP
   obtain⟨kv,e⟩:=q4.lv d z
   have e':=s4 _ _ e
   rw[hd] at e'
   cases e'
  have W5:F18 a H5 p d ns low task base' 0 nd fp 0 (fun _=>none) [] []:=⟨(SP.same s4).same s5,(AB.same s4).same s5,KP5,fun n g h=>(by cases h),nf5⟩
  have lc:(ms.map V.int).length=ms.length:=List.length_map ..
  have hcl5:=s5 _ _ hcl
  have hho5:=s5 _ _ hhol
  have fl:(hh.map V.int).all flatV=true:=by rw[List.all_map];exact List.all_eq_true.mpr fun _ _=>rfl
  walk_at "go"
  refine for_range (fun i σ H'=>Bx (∃v7 M nd' fp' kvs ks,σ=[some (.ref p),some (.ref sc),some (.int (pgs ns)),some (.ref cl),some (.int base'),some (.ref hol),some (.ref d),v7]/\F18 a H' p d ns low task base' i nd' fp' i M kvs ks/\KeepN H5 H')) ⟨⟨_,_,_,_,_,_,rfl,W5,KeepN.refl _⟩⟩ ?_ ?_
  ·rintro i σ H6 hi ⟨v7,M,nd',fp',kvs,ks,rfl,W6,k6⟩
   have im:i < ms.length:=by rw[<-lc];omega
   have ec:ms[i]?=some ms[i]:=List.getElem?_eq_getElem im
   generalize ms[i]=c at ec
   have a1:atI (ms.map V.int) (0+(i:Int))=some (.int c):=by rw[Int.zero_add];exact atI_nat (by rw[List.getElem?_map,ec];rfl)
   have hcl6:=k6.lst hcl5
   have hho6:=k6.lst hho5
   walk_at "go"
   refine iteB (fun hin=>?_) (fun hin=>?_)
   ·walk_at "go"
    intro t g H7 ht ok okr s7 ht0
    obtain⟨H8,eH8,S8,A8,⟨ks8,KP8⟩,kn8,ht8⟩:=F18.row (n:=base'+(0+(i:Int))) (W6.S.same s7) (W6.A.same s7) (W6.KP.same s7) W6.nf ht
    have kl6:=(W6.KP.few fun n g h=>(W6.inn n g h).1).1
    have dp:=DPut.k (k:=Sum.inl (base'+(0+(i:Int)))) (v:=V.ref t) (s7 _ _ W6.KP.h) (by rw[sizeLine_eq];omega)
    rw[<-eH8] at dp
    have hd8:=KP8.h
    have id8:IsD H8 d:=.inl ⟨_,Rd.of hd8⟩
    have gg:DGet H8 d (.int (base'+(0+(i:Int)))) (valV (putK kvs (.inl (base'+(0+(i:Int)))) (.ref t)) (.inl (base'+(0+(i:Int))))):=DGet.k (k:=Sum.inl (base'+(0+(i:Int)))) hd8
    rw[valV_put,if_pos rfl] at gg
    obtain⟨dx,sh,tr,dt,sh2,top,dxs,ts,hp8,_⟩:=id S8
    walk_at "go"
    intro y H9 lf9 s9 hy9
    have S9:=S8.same s9
    have hp9:=s9 _ _ hp8
    have ly:∃u,H9 y=some u:=let ⟨dl,h⟩:=lf9;⟨_,h⟩
    have ci:i < 100000:=by omega
    have pin:0<=base'+(0+(i:Int))/\base'+(0+(i:Int)) < pgs ns:=by omega
    walk_at "go"
    refine⟨fun _ nd2 fp2 H10 S10 pt fr sub=>?_,fun z=>absurd pin z⟩
    have kn10:=S9.keepN fr
    have fd:=L2.Fr.out fr (s9 _ _ hd8) W6.nf
    have A10:=(A8.same s9).put gd kn10 pin.1 pin.2 pt (kn10.lf lf9)
    have KP10:=(KP8.same s9).keep kn10 fd.1
    walk_at "go"
    refine⟨⟨_,_,_,_,_,_,rfl,⟨S10,A10,KP10,fun n g' h=>?_,fd.2⟩,(((k6.trans (KeepN.same s7)).trans kn8).trans (KeepN.same s9)).trans kn10⟩⟩
    by_cases c:n=base'+(0+(i:Int))
    ·rw[c,Mf.put_at] at h
     cases h
     exact⟨by omega,ok⟩
    ·rw[Mf.put_ne c] at h
     have:=W6.inn n g' h
     exact⟨by omega,this.2⟩
   ·walk_at "go"
    exact⟨⟨_,_,_,_,_,_,rfl,W6.wide (Nat.le_succ _) (Nat.le_succ _),k6⟩⟩
  ·rintro σ H6 ⟨v7,M,nd',fp',kvs,ks,rfl,W6,k6⟩
   have hcl6:=k6.lst hcl5
   rw[Int.toNat_natCast,lc] at W6
   walk_at "go"
   intro t ht
   generalize hh:upd _ t _=H7
   obtain⟨s7,e7⟩:=newO ht hh
   clear hh
   rw[lc] at e7
   exact k t d base' ms.length M nd' fp' kvs ks H7 e7 m1 m60 b0 b1 ((W6.same s7).wide (Nat.le_refl _) m60) (((KeepN.same s4).trans (KeepN.same s5)).trans (k6.trans (KeepN.same s7)))
 have D2:∀(cl:Addr) (ms:List Int) (H3:Hp),H3 cl=some (.lst (ms.map V.int))->1<=ms.length->ms.length<=60->(ms.length:Int)<=pgs ns->Same H H3->R2.1 { nx:=fun _ H'=>Q .non H',rt:=Q } [some (.ref p),some (.ref sc),some (.int (pgs ns)),some (.ref cl),none,none,none,none] H3:=by
  intro cl ms H3 hcl m1 m60 mp s3
  have S3:=s3.seq hS
  have lc:(ms.map V.int).length=ms.length:=List.length_map ..
  have c60:CPow 10 60:=⟨by decide,by decide,by decide⟩
  have p60:(0:Int) < (10:Int)^(60:Int).toNat:=by decide
  have cm:∀c:Int,CMul c 9000000000000000041:=fun c=>.inr ⟨by decide,by decide⟩
  have cm1:=cm (ss.getD (1:Int).toNat 0%(10:Int)^(60:Int).toNat)
  have dp:(0:Int) < pgs ns-((ms.map V.int).length:Int)+1:=by rw[lc];omega
  have lp:(0:Int) < ((ms.map V.int).length:Int):=by rw[lc];omega
  have b0:=Int.emod_nonneg (ss.getD (1:Int).toNat 0%(10:Int)^(60:Int).toNat*9000000000000000041) (show pgs ns-((ms.map V.int).length:Int)+1≠0 by omega)
  have b1:=Int.emod_lt_of_pos (ss.getD (1:Int).toNat 0%(10:Int)^(60:Int).toNat*9000000000000000041) dp
  have b1':ss.getD (1:Int).toNat 0%(10:Int)^(60:Int).toNat*9000000000000000041%(pgs ns-((ms.map V.int).length:Int)+1)+ms.length<=pgs ns:=by rw[lc] at b1 ⊢;omega
  walk_at "go"
  intro hol hhol
  generalize hh:upd _ hol _=H4
  obtain⟨s4,e4⟩:=newO hhol hh
  clear hh
  have hcl4:=s4 _ _ hcl
  have S4:=s4.seq S3
  have e4':H4 hol=some (.lst ([-1,-1].map V.int)):=e4
  walk_at "go"
  refine iteD (fun c=>?_) (fun c=>?_)
  ·walk_at "go"
   intro hol2 hhol2
   generalize hh:upd _ hol2 _=H5
   obtain⟨s5,e5⟩:=newO hhol2 hh
   clear hh
   have hcl5:=s5 _ _ hcl4
   exact D5 cl hol2 _ ms [_,_] H5 hcl5 e5 m1 m60 b0 b1' ((s3.trans s4).trans s5)
  ·exact D5 cl hol _ ms [-1,-1] H4 hcl4 e4' m1 m60 b0 b1' (s3.trans s4)
 obtain⟨mn,emn,mn64,mnp⟩:∃mn:Nat,(if pgs ns < (64:Int) then pgs ns else 64)=(mn:Int)/\mn<=64/\(mn:Int)<=pgs ns:=by
  by_cases c:pgs ns < 64
  ·rw[if_pos c];exact⟨(pgs ns).toNat,by omega,by omega,by omega⟩
  ·rw[if_neg c];exact⟨64,rfl,by omega,by omega⟩
 obtain⟨ms,em,ml,ml2⟩:=cut_len ss 4 mn
 have em:cutV (ss.map V.int) (some 4) (some (4+(mn:Int)))=ms.map V.int:=em
 walk_at "go"
 intro cl hcl
 rw[emn,em]
 generalize hh:upd _ cl _=H2
 obtain⟨s2,e2⟩:=newO hcl hh
 clear hh
 walk_at "go"
 intro u hu
 generalize hh:upd _ u _=H3
 obtain⟨s3,e3⟩:=newO hu hh
 clear hh
 have e23:=s3 _ _ e2
 refine rEqD_ints (ms:=[]) (SqL.of e23) (SqL.of e3) ?_
 walk_at "go"
 refine iteD (fun z=>?_) (fun z=>?_)
 ·have S3:=(s2.trans s3).seq hS
  walk_at "go"
  intro v hv
  generalize hh:upd _ v _=H4
  obtain⟨s4,e4⟩:=newO hv hh
  clear hh
  exact D2 v [_] H4 e4 (Nat.le_refl 1) (by show 1<=60;decide) (by show (1:Int)<=pgs ns;omega) ((s2.trans s3).trans s4)
 ·exact D2 cl ms H3 e23 (by have:ms.length≠0:=fun w=>z (List.eq_nil_of_length_eq_zero w);omega) (by omega) (by omega) (s2.trans s3)
end
end K18

set_option maxHeartbeats 4000000
namespace K18
open PySem L2
theorem pi_listK {X:Cx}{K:PySem.W.Frag}{tg l:Expr}{tl:TE}(h:X.K=K)(hl:PE X l tl): PI X tg l (iList K tl):=by subst h;exact pi_list hl
theorem comp_pairsI {K:PySem.W.Frag}{l acc:Addr}{xs:List V}{k:Nat}{te:TE}{σ:St}{H1:Hp}{QH:Hp->Prop}(I:Nat->List V->Hp->Prop)(hn:xs.length < sizeLine)(h0:I 0 [] (upd H1 acc (.lst [])))
  (sm:∀i ys H2,I i ys H2->H2 acc=some (.lst ys)/\SqL K H2 l xs/\ys.length=i)
  (he:∀(i:Nat) (x:V) (ys:List V) (H2:Hp),xs[i]?=some x->I i ys H2->∃t u v,x=.ref t/\H2 t=some (.tup [u,v])/\∀R:VK,(∀v H6,H6 acc=some (.lst ys)->I (i+1) (ys++[v]) (upd H6 acc (.lst (ys++[v])))->R v H6)->te (some u::some v::σ) H2 R)
  (q:∀ys H2,I xs.length ys H2->QH H2) (hk:k=2:=by rfl):∃(W:Nat->List V->Hp->Prop) (n':Nat),W 0 [] (upd H1 acc (.lst [])) ∧
 ∀i ys H2,W i ys H2->H2 acc=some (.lst ys)/\ys.length < sizeLine/\((i=n'/\(Itl K l).stop i H2/\QH H2)\/(i < n'/\(Itl K l).go i H2/\∀x H3,(Itl K l).yld i H2 x H3->∀τ:St,τ.length=k->(gTup K 2 (gCons (gName 0) (gCons (gName 1) gNil))) x (τ++σ) H3 fun τ2 H4 =>
  (∃τ':St,τ'.length=k/\τ2=τ'++σ)/\tTrue τ2 H4 fun b H5=>if b=true then te τ2 H5 fun v H6=>H6 acc=some (.lst ys)/\W (i+1) (ys++[v]) (upd H6 acc (.lst (ys++[v]))) else W (i+1) ys H5)):=by
 subst hk
 refine⟨fun i ys H2=>i<=xs.length/\I i ys H2,xs.length,⟨Nat.zero_le _,h0⟩,?_⟩
 rintro i ys H2 ⟨hi,hI⟩
 obtain⟨m1,m2,m3⟩:=sm i ys H2 hI
 refine⟨m1,by omega,?_⟩
 by_cases hlt:i < xs.length
 ·refine .inr ⟨hlt,⟨xs,xs[i],m2,by simp[hlt]⟩,?_⟩
  rintro x H3 ⟨rfl,hx⟩ τ hτ
  have hx:=hx xs m2
  obtain⟨t,u,v,rfl,ht,he⟩:=he i x ys _ hx hI
  obtain⟨t1,t2,rfl⟩:∃t1 t2,τ=[t1,t2]:=by
   match τ,hτ with
   | [t1,t2],_=>exact⟨t1,t2,rfl⟩
  refine⟨t,_,rfl,SqT.of ht,rfl,_,_,rfl,_,_,rfl,rfl,⟨[some _,some _],rfl,rfl⟩,?_⟩
  unfold tTrue
  simp only [if_true]
  exact he _ fun v H6 e1 e2=>⟨e1,hlt,e2⟩
 ·have e:i=xs.length:=by omega
  subst e
  exact .inl ⟨rfl,⟨xs,m2,Nat.le_refl _⟩,q ys H2 hI⟩
def spLaw (K:PySem.W.Frag): Sp:=fun vs H Q _=>∃(a:Addr) (ns:List Int),vs=[.ref a]/\SqL K H a (ns.map V.int)/\ns.length<=63/\∀H',Q (.bl true) H'
theorem nd0 {ns:List Int}{low:Int}(g:Good ns low)(top:Addr)(m:Int): (if parts ns m=[] then some top else none)=(none:Option Addr):=by
 rw[if_neg fun z=>?_]
 have h1:ns.length=0:=by
  have:=congrArg List.length z
  rw[parts_len] at this
  exact this
 have h2:=g.len
 omega
theorem KeepN.seq {K:PySem.W.Frag}{H H':Hp}{a:Addr}{xs:List V}(e:KeepN H H')(h:SqL K H a xs): SqL K H' a xs:=by
 rcases h with (h | ⟨o,h⟩) | h
 ·exact .inl (.inl (e _ _ h fun _ w=>by cases w))
 ·exact .inl (.inr ⟨o,e _ _ h fun _ w=>by cases w⟩)
 ·exact .inr h
theorem ways2 {x:V} (h:x∈[V.str "rights",V.str "unmap"]):∃way:Str,x=.str way/\(way = "unmap" ∨ way = "rights"):=by
 rcases h with _ | ⟨_,h⟩
 ·exact⟨_,rfl,.inr rfl⟩
 rcases h with _ | ⟨_,h⟩
 ·exact⟨_,rfl,.inl rfl⟩
 cases h
theorem ways3 {x:V} (h:x∈[V.str "rights",V.str "unmap",V.str "rights"]):∃way:Str,x=.str way/\(way = "unmap" ∨ way = "rights"):=by
 rcases h with _ | ⟨_,h⟩
 ·exact⟨_,rfl,.inr rfl⟩
 rcases h with _ | ⟨_,h⟩
 ·exact⟨_,rfl,.inl rfl⟩
 rcases h with _ | ⟨_,h⟩
 ·exact⟨_,rfl,.inr rfl⟩
 cases h
theorem KeepH.tup {hl t:Addr}{H H':Hp}{xs zs:List V}(k:KeepH hl H H')(e:H t=some (.tup xs))(hh:H hl=some (.lst zs)): H' t=some (.tup xs):=k t _ e (fun _ w=>by cases w) fun z=>by rw[z,hh] at e;cases e
structure Lw (a:Adr)(H:Hp)(p d sz hl:Addr)(ns:List Int)(low task base:Int)(long n:Nat): Prop where
 o:∃nd fp cn M kvs ks hs,W18 a H p d hl ns low task base long nd fp cn M kvs ks hs/\cn<=60+64*n/\hs.length<=n
 z:H sz=some (.tup [.int task,.int low,.int (pgs ns),.ref hl])
section
variable {a:Adr}{H H':Hp}{p d sz hl:Addr}{ns:List Int}{low task base:Int}{long n:Nat}
theorem Lw.same (W:Lw a H p d sz hl ns low task base long n)(s:Same H H'): Lw a H' p d sz hl ns low task base long n :=
 let ⟨nd,fp,cn,M,kvs,ks,hs,W0,h1,h2⟩:=W.o
 ⟨⟨nd,fp,cn,M,kvs,ks,hs,W0.same s,h1,h2⟩,s _ _ W.z⟩
theorem W18.all {nd:Ix->Option Addr}{fp:List Addr}{cn:Nat}{M:Mf}{kvs:List (Key×V)}{ks:List Int}{hs:List Addr}(W:W18 a H p d hl ns low task base long nd fp cn M kvs ks hs): (∀n g,M n=some g->(0<=n/\n < pgs ns)/\g.ok)/\ks.length < 64:=by
 refine⟨fun n g h=>?_,?_⟩
 ·have h1:=(W.inn n g h).1
  have h2:=W.b0
  have h3:=W.b1
  exact⟨by omega,(W.inn n g h).2⟩
 ·have:=W.few
  have:=W.lg
  omega
end
section
variable {P:Program}{w:World}{K:PySem.W.Frag}{mg:Str->Option Value}{base:Heap}{a:Adr}
theorem ok_law {f:Addr} {oc:Value} {od:Option Addr} {dV kV doc pm:Value} {an:Option Addr} {cdv ct:Value} {osl:Array (Option Value)} (lk:K.lookup f=some ⟨oc,od,.func (PySem.W.fnOf "law" "law" (defArgs s_law) (defBody s_law) (defScope s_law) dV kV doc pm an cdv ct),osl⟩) (hcd:PySem.W.codeIn K cdv "law" = true) (T:Txt w K mg a)
  (h__law_widths:HasFn P w K mg base 2 "_law_widths" ["_law_cell"] (spWidths16) [])
  (h__law_cell_at:HasFn P w K mg base 1 "_law_cell_at" ["_law_script", "_law_k"] (spCell K) [])
  (h__law_drawn:HasFn P w K mg base 1 "_law_drawn" ["_law_cell", "_law_by", "_law_prime", "_law_many"] (spDrawn) [])
  (h_Space___init__:HasMk P w K mg base a.c_Space 3 ["self", "shape", "task"] (spSpInit a) [])
  (h_Shape___init__:HasMk P w K mg base a.c_Shape 2 ["self", "widths", "low"] (spShInit a) [])
  (h__law_filled:HasFn P w K mg base 7 "_law_filled" ["_law_space", "_law_script", "_law_total"] (spFilled18 a K) [])
  (h__law_all:HasFn P w K mg base 4 "_law_all" ["_law_space", "_law_own"] (spAll18 a) [])
  (h__law_step:HasFn P w K mg base 10 "_law_step" ["_law_space", "_law_own", "_law_size", "_law_way", "_law_first", "_law_many", "_law_rights"] (spStep18 a) [])
  (h__law_edges:HasFn P w K mg base 9 "_law_edges" ["_law_space", "_law_own", "_law_base", "_law_total", "_law_far"] (spEdges18 a) [])
  (h_Space_put:HasMe P w K mg base a.c_Space 6 "put" ["self", "page", "leaf"] (spSpPut a) [])
  (h_Fresh___init__:HasMk P w K mg base a.c_Fresh 2 ["self", "rights"] (spLeafInit a K) [])
  (h_Fresh_row:HasMe P w K mg base a.c_Fresh 1 "row" ["self"] (spRowK a 0) [])
  (h_Held_row:HasMe P w K mg base a.c_Held 1 "row" ["self"] (spRowK a 1) [])
  (h_Out_row:HasMe P w K mg base a.c_Out 1 "row" ["self"] (spRowK a 2) [])
  (h_Named_row:HasMe P w K mg base a.c_Named 1 "row" ["self"] (spRowK a 3) []) :
  FnOk P w K mg base (CXE P w) 11 f (PySem.W.fnOf "law" "law" (defArgs s_law) (defBody s_law) (defScope s_law) dV kV doc pm an cdv ct) ["_law_script"] (spLaw K):=by
 refine fn_of lk hcd sc_law (fun vs H Q E h=>?_) (fun A outer s H vs Q E hr h=>?_)
 ·obtain⟨sc,ss,rfl,_⟩:=h
  rfl
 obtain⟨sc,ss,rfl,hS,hlen,k⟩:=h
 let R18:{t:TS // PSs (cxOf (CXE P w) P w K mg base n_law "law" (defScope s_law) f cdv A outer s H E) ((defBody s_law).drop 18) t}:=⟨_,(pss_one (ps_ret (pe_callB (call_allL rfl) (by rfl) T.b_all PyProof.Rows.Boot.«all» (pa_cn (pe_comp (xs:=["_law_found", "_law_rows"]) (N':=["_law_script", "_law_widths_here", "_law_low", "_law_total", "_law_task", "_law_space", "_law_base", "_law_long", "_law_own", "_law_cell", "_law_first", "_law_many", "_law_rights", "_law_far", "_law_held", "_law_size", "_law_at", "_law_count", "_law_new", "_law_way", "_law_k"]) rfl ⟨rfl,by decide +kernel,by decide +kernel,by dsimp only [cxOf,PyProof.Rows.envOfC];decide +kernel,by decide +kernel,by dsimp only [cxOf];decide +kernel,rfl⟩ (pi_list (pv 14)) (fun _ _ _ _ _=>(pg_tupQ (K:=K) (n:=2) rfl rfl (pgs_cons (pg_name (i:=0) (by dsimp only [cxComp];decide +kernel) rfl (by first | exact Or.inl rfl | exact Or.inr rfl)) (pgs_cons (pg_name (i:=1) (by dsimp only [cxComp];decide +kernel) rfl (by first | exact Or.inl rfl | exact Or.inr rfl)) pgs_nil)))) (fun _ _ _ _ _=>pts_nil) (fun _ _ _ _ _=>(pe_cmpR (op_eqDK (K:=K) rfl hr.units) (pe_comp (xs:=["_law_leaf_here"]) (N':=["_law_found", "_law_rows", "_law_script", "_law_widths_here", "_law_low", "_law_total", "_law_task", "_law_space", "_law_base", "_law_long", "_law_own", "_law_cell", "_law_first", "_law_many", "_law_rights", "_law_far", "_law_held", "_law_size", "_law_at", "_law_count", "_law_new", "_law_way", "_law_k"]) rfl ⟨rfl,by decide +kernel,by decide +kernel,by exact rfl,by decide +kernel,by dsimp only [cxComp,cxOf];decide +kernel,rfl⟩ (pi_listK (K:=K) rfl (pv 0)) (fun _ _ _ _ _=>(pg_name (i:=0) (by dsimp only [cxComp];decide +kernel) rfl (by first | exact Or.inl rfl | exact Or.inr rfl))) (fun _ _ _ _ _=>pts_nil) (fun _ _ _ _ _=>(pe_meDK0 (P:=P) (w:=w) (K:=K) (mg:=mg) (base:=base) rfl rfl rfl rfl rfl (k:=1) (m := "row") (dvs:=[]) (pv 0) (hr.mono (by decide)) pass_none (by rfl)))) (pv 1) (nomark _)))) pa_nil rfl))))⟩
 let R17:{t:TS // PSs (cxOf (CXE P w) P w K mg base n_law "law" (defScope s_law) f cdv A outer s H E) ((defBody s_law).drop 17) t}:=⟨_,(pss_cons (ps_for own_def rfl (pi_list (pe_lst (pa_cn pe_str (pa_cn pe_str pa_nil rfl) rfl))) (pg_name (i:=19) sc_law.nd rfl (by first | exact Or.inl rfl | exact Or.inr rfl))
   (pss_one (ps_if (PW.pt (pw_or (pt_not (pt_val (pe_fn h__law_step (hr.mono (by decide)) (by rfl) pass_def (pa_cn (pv 5) (pa_cn (pv 8) (pa_cn (pv 15) (pa_cn (pv 19) (pa_cn (pv 10) (pa_cn (pv 11) (pa_cn (pe_op op_mod (pe_op op_fdiv (pv 9) pe_int) pe_int) pa_nil rfl) rfl) rfl) rfl) rfl) rfl) rfl)))) (pw_or1 (pt_not (pt_val (pe_fn h__law_all (hr.mono (by decide)) (by rfl) pass_def (pa_cn (pv 5) (pa_cn (pv 8) pa_nil rfl) rfl))))))) (pss_one (ps_ret pe_bl)) pss_nil)))
   R18.2)⟩
 let R16:{t:TS // PSs (cxOf (CXE P w) P w K mg base n_law "law" (defScope s_law) f cdv A outer s H E) ((defBody s_law).drop 16) t}:=⟨_,(pss_cons (ps_for own_def rfl (pi_range1 (by rfl) T.b_range (pa_cn (pv 11) pa_nil rfl)) (pg_name (i:=20) sc_law.nd rfl (by first | exact Or.inl rfl | exact Or.inr rfl))
   (pss_one (ps_if (pt_cmpR (op_notInD hr.u1) (pe_op op_add (pv 10) (pv 20)) (pv 8) (by with_unfolding_all rfl)) (pss_cons (ps_dput hr.u1 (pv 8) (pe_op op_add (pv 10) (pv 20)) (pe_tup (pa_cn pe_str (pa_cn (pe_op op_mod (pv 20) pe_int) pa_nil rfl) rfl)) rfl)
   (pss_one (ps_expr (pe_me (pv 5) T.cl_Space h_Space_put (hr.mono (by decide)) pass_def (pa_cn (pe_op op_add (pv 10) (pv 20)) (pa_cn (pe_mk h_Fresh___init__ (hr.mono (by decide)) (by rfl) T.m_Fresh pass_def (pa_cn (pe_op op_mod (pv 20) pe_int) pa_nil rfl)) pa_nil rfl) rfl))))) pss_nil)))
   R17.2)⟩
 let R15:{t:TS // PSs (cxOf (CXE P w) P w K mg base n_law "law" (defScope s_law) f cdv A outer s H E) ((defBody s_law).drop 15) t}:=⟨_,(pss_cons (ps_for own_def rfl (pi_list (pe_lst (pa_cn pe_str (pa_cn pe_str (pa_cn pe_str pa_nil rfl) rfl) rfl))) (pg_name (i:=19) sc_law.nd rfl (by first | exact Or.inl rfl | exact Or.inr rfl))
   (pss_one (ps_if (PW.pt (pw_or (pt_not (pt_val (pe_fn h__law_step (hr.mono (by decide)) (by rfl) pass_def (pa_cn (pv 5) (pa_cn (pv 8) (pa_cn (pv 15) (pa_cn (pv 19) (pa_cn (pv 10) (pa_cn (pv 11) (pa_cn (pv 12) pa_nil rfl) rfl) rfl) rfl) rfl) rfl) rfl)))) (pw_or1 (pt_not (pt_val (pe_fn h__law_all (hr.mono (by decide)) (by rfl) pass_def (pa_cn (pv 5) (pa_cn (pv 8) pa_nil rfl) rfl))))))) (pss_one (ps_ret pe_bl)) pss_nil)))
   R16.2)⟩
 let R14:{t:TS // PSs (cxOf (CXE P w) P w K mg base n_law "law" (defScope s_law) f cdv A outer s H E) ((defBody s_law).drop 14) t}:=⟨_,(pss_cons (ps_if (pt_not (pt_val (pe_fn h__law_edges (hr.mono (by decide)) (by rfl) pass_def (pa_cn (pv 5) (pa_cn (pv 8) (pa_cn (pv 6) (pa_cn (pv 3) (pa_cn (pv 13) pa_nil rfl) rfl) rfl) rfl) rfl)))) (pss_one (ps_ret pe_bl)) pss_nil)
   R15.2)⟩
 let R13:{t:TS // PSs (cxOf (CXE P w) P w K mg base n_law "law" (defScope s_law) f cdv A outer s H E) ((defBody s_law).drop 13) t}:=⟨_,(pss_cons (ps_for own_def rfl (pi_list (pe_lst (pa_cn (pe_tup (pa_cn (pe_op op_sub (pe_un un_neg pe_int) (pv 13)) (pa_cn pe_int (pa_cn pe_int pa_nil rfl) rfl) rfl)) (pa_cn (pe_tup (pa_cn (pv 3) (pa_cn pe_int (pa_cn pe_int pa_nil rfl) rfl) rfl)) (pa_cn (pe_tup (pa_cn (pe_op op_sub (pv 3) pe_int) (pa_cn pe_int (pa_cn pe_int pa_nil rfl) rfl) rfl)) (pa_cn (pe_tup (pa_cn (pv 10) (pa_cn pe_int (pa_cn pe_int pa_nil rfl) rfl) rfl)) (pa_cn (pe_tup (pa_cn (pv 10) (pa_cn pe_int (pa_cn pe_int pa_nil rfl) rfl) rfl)) pa_nil rfl) rfl) rfl) rfl) rfl))) (pg_tup (n:=3) rfl (pgs_cons (pg_name (i:=16) sc_law.nd rfl (by first | exact Or.inl rfl | exact Or.inr rfl)) (pgs_cons (pg_name (i:=17) sc_law.nd rfl (by first | exact Or.inl rfl | exact Or.inr rfl)) (pgs_cons (pg_name (i:=18) sc_law.nd rfl (by first | exact Or.inl rfl | exact Or.inr rfl)) pgs_nil))))
   (pss_one (ps_for own_def rfl (pi_list (pe_lst (pa_cn pe_str (pa_cn pe_str pa_nil rfl) rfl))) (pg_name (i:=19) sc_law.nd rfl (by first | exact Or.inl rfl | exact Or.inr rfl))
   (pss_one (ps_if (PW.pt (pw_or (pt_not (pt_val (pe_fn h__law_step (hr.mono (by decide)) (by rfl) pass_def (pa_cn (pv 5) (pa_cn (pv 8) (pa_cn (pv 15) (pa_cn (pv 19) (pa_cn (pv 16) (pa_cn (pv 17) (pa_cn (pv 18) pa_nil rfl) rfl) rfl) rfl) rfl) rfl) rfl)))) (pw_or1 (pt_not (pt_val (pe_fn h__law_all (hr.mono (by decide)) (by rfl) pass_def (pa_cn (pv 5) (pa_cn (pv 8) pa_nil rfl) rfl))))))) (pss_one (ps_ret pe_bl)) pss_nil)))))
   R14.2)⟩
 let R6:{t:TS // PSs (cxOf (CXE P w) P w K mg base n_law "law" (defScope s_law) f cdv A outer s H E) ((defBody s_law).drop 6) t}:=⟨_,(pss_cons (ps_set (i:=9) sc_law.nd rfl (by first | exact Or.inl rfl | exact Or.inr rfl) (pe_fn h__law_cell_at (hr.mono (by decide)) (by rfl) pass_def (pa_cn (pv 0) (pa_cn pe_int pa_nil rfl) rfl)))
   (pss_cons (ps_set (i:=10) sc_law.nd rfl (by first | exact Or.inl rfl | exact Or.inr rfl) (pe_op op_add (pv 6) (pe_op op_mod (pv 9) (pv 7))))
   (pss_cons (ps_set (i:=11) sc_law.nd rfl (by first | exact Or.inl rfl | exact Or.inr rfl) (pe_op op_add pe_int (pe_op op_mod (pe_op op_fdiv (pv 9) pe_int) (pe_op op_sub (pv 7) (pe_op op_mod (pv 9) (pv 7))))))
   (pss_cons (ps_set (i:=12) sc_law.nd rfl (by first | exact Or.inl rfl | exact Or.inr rfl) (pe_ix ix_list (pe_lst (pa_cn (pe_op op_mod (pv 9) pe_int) (pa_cn (pe_op op_sub (pe_un un_neg pe_int) (pe_op op_mod (pv 9) (pe_op op_pow pe_int pe_int))) (pa_cn pe_int (pa_cn (pe_op op_add pe_int (pe_op op_mod (pv 9) (pe_op op_pow pe_int pe_int))) (pa_cn (pe_op op_mod (pe_op op_fdiv (pv 9) pe_int) pe_int) (pa_cn (pe_op op_mod (pe_op op_fdiv (pv 9) pe_int) pe_int) pa_nil rfl) rfl) rfl) rfl) rfl) rfl)) (pe_op op_mod (pe_op op_fdiv (pv 9) pe_int) pe_int) (fun _ _=>rfl)))
   (pss_cons (ps_set (i:=13) sc_law.nd rfl (by first | exact Or.inl rfl | exact Or.inr rfl) (pe_op op_mod (pv 9) (pe_op op_pow pe_int pe_int)))
   (pss_cons (ps_set (i:=14) sc_law.nd rfl (by first | exact Or.inl rfl | exact Or.inr rfl) (pe_lst pa_nil))
   (pss_cons (ps_set (i:=15) sc_law.nd rfl (by first | exact Or.inl rfl | exact Or.inr rfl) (pe_tup (pa_cn (pv 4) (pa_cn (pv 2) (pa_cn (pv 3) (pa_cn (pv 14) pa_nil rfl) rfl) rfl) rfl)))
   R13.2)))))))⟩
 let R4:{t:TS // PSs (cxOf (CXE P w) P w K mg base n_law "law" (defScope s_law) f cdv A outer s H E) ((defBody s_law).drop 4) t}:=⟨_,(pss_cons (ps_set (i:=5) sc_law.nd rfl (by first | exact Or.inl rfl | exact Or.inr rfl) (pe_mk h_Space___init__ (hr.mono (by decide)) (by rfl) T.m_Space pass_def (pa_cn (pe_mk h_Shape___init__ (hr.mono (by decide)) (by rfl) T.m_Shape pass_def (pa_cn (pe_callTy call_list_of (by rfl) T.b_list PyProof.Rows.Boot.«list» (pa_cn (pv 1) pa_nil rfl)) (pa_cn (pv 2) pa_nil rfl) rfl)) (pa_cn (pv 4) pa_nil rfl) rfl)))
   (pss_cons (ps_asg (pe_fn h__law_filled (hr.mono (by decide)) (by rfl) pass_def (pa_cn (pv 5) (pa_cn (pv 0) (pa_cn (pv 3) pa_nil rfl) rfl) rfl)) (pg_tup (n:=3) rfl (pgs_cons (pg_name (i:=6) sc_law.nd rfl (by first | exact Or.inl rfl | exact Or.inr rfl)) (pgs_cons (pg_name (i:=7) sc_law.nd rfl (by first | exact Or.inl rfl | exact Or.inr rfl)) (pgs_cons (pg_name (i:=8) sc_law.nd rfl (by first | exact Or.inl rfl | exact Or.inr rfl)) pgs_nil)))))
   R6.2))⟩
 refine⟨_,(pss_cons (ps_set (i:=1) sc_law.nd rfl (by first | exact Or.inl rfl | exact Or.inr rfl) (pe_fn h__law_widths (hr.mono (by decide)) (by rfl) pass_def (pa_cn (pe_fn h__law_cell_at (hr.mono (by decide)) (by rfl) pass_def (pa_cn (pv 0) (pa_cn pe_int pa_nil rfl) rfl)) pa_nil rfl)))
   (pss_cons (ps_set (i:=2) sc_law.nd rfl (by first | exact Or.inl rfl | exact Or.inr rfl) (pe_fn h__law_drawn (hr.mono (by decide)) (by rfl) pass_def (pa_cn (pe_fn h__law_cell_at (hr.mono (by decide)) (by rfl) pass_def (pa_cn (pv 0) (pa_cn pe_int pa_nil rfl) rfl)) (pa_cn pe_int (pa_cn pe_int (pa_cn pe_int pa_nil rfl) rfl) rfl) rfl)))
   (pss_cons (ps_set (i:=3) sc_law.nd rfl (by first | exact Or.inl rfl | exact Or.inr rfl) (pe_op op_shl pe_int (pe_callB (call_sumL rfl) (by rfl) T.b_sum PyProof.Rows.Boot.«sum» (pa_cn (pv 1) pa_nil rfl))))
   (pss_cons (ps_set (i:=4) sc_law.nd rfl (by first | exact Or.inl rfl | exact Or.inr rfl) (pe_op op_mod (pe_fn h__law_cell_at (hr.mono (by decide)) (by rfl) pass_def (pa_cn (pv 0) (pa_cn pe_int pa_nil rfl) rfl)) (pe_op op_pow pe_int pe_int)))
   R4.2)))),?_⟩
 walk_at "go"
 intro w' ns H1 hw hW s1 w0
 have S1:=s1.seq hS
 have l0:=drawn_0 (ss.getD (0:Int).toNat 0) 39373 99961 (show (0:Int) < 7 by decide)
 have l7:=drawn_lt (ss.getD (0:Int).toNat 0) 39373 99961 (show (0:Int) < 7 by decide)
 have q1:=SqL.of (K:=K) hw
 have g0:∀low:Int,0<=low->low < 7->Good ns low:=fun low h0 h7=>⟨hW.1,hW.2,h0,by omega⟩
 have gs0:=(g0 0 (by decide) (by decide)).sum
 have cp:CPow 1 ns.sum:=⟨by omega,by omega,by decide⟩
 have pp:=pgs_pos ns
 have tot:(1:Int)*2^ns.sum.toNat=pgs ns:=Int.one_mul _
 have c60:CPow 10 60:=⟨by decide,by decide,by decide⟩
 have p60:(0:Int) < (10:Int)^(60:Int).toNat:=by decide
 have tail6:∀(low task base':Int) (y d:Addr) (long:Nat) nd fp M kvs ks (H9:Hp),Good ns low->1<=long->long<=60->0<=base'->base'+long<=pgs ns->F18 a H9 y d ns low task base' long nd fp 60 M kvs ks->SqL K H9 sc (ss.map V.int)->R6.1 { nx:=fun _ H'=>Q .non H',rt:=Q } [some (.ref sc),some (.ref w'),some (.int low),some (.int (pgs ns)),some (.int task),some (.ref y),some (.int base'),some (.int (long:Int)),some (.ref d),none,none,none,none,none,none,none,none,none,none,none,none] H9:=by
  intro low task base' y d long nd fp M kvs ks H9 g lo1 lo60 b0 b1 W9 S9
  have lp:(0:Int) < (long:Int):=by omega
  have m0:=Int.emod_nonneg (ss.getD (3:Int).toNat 0) (show (long:Int)≠0 by omega)
  have m1:=Int.emod_lt_of_pos (ss.getD (3:Int).toNat 0) lp
  have mp:(0:Int) < (long:Int)-ss.getD (3:Int).toNat 0%(long:Int):=by omega
  have tail13:∀(c fi r far:Int) (mn:Nat) (hl sz:Addr) (H10:Hp),0<=far->1<=mn->base'<=fi->fi+mn<=base'+long->Lw a H10 y d sz hl ns low task base' long 0->R13.1 { nx:=fun _ H'=>Q .non H',rt:=Q } [some (.ref sc),some (.ref w'),some (.int low),some (.int (pgs ns)),some (.int task),some (.ref y),some (.int base'),some (.int (long:Int)),some (.ref d),some (.int c),some (.int fi),some (.int (mn:Int)),some (.int r),some (.int far),some (.ref hl),some (.ref sz),none,none,none,none,none] H10:=by
   intro c fi r far mn hl sz H10 far0 mn1 fi0 fi1 W10
   have D18:∀(v16 v17 v18 v19 v20:Option V) (n:Nat) (H1:Hp),n<=100->Lw a H1 y d sz hl ns low task base' long n->R18.1 { nx:=fun _ H'=>Q .non H',rt:=Q } [some (.ref sc),some (.ref w'),some (.int low),some (.int (pgs ns)),some (.int task),some (.ref y),some (.int base'),some (.int (long:Int)),some (.ref d),some (.int c),some (.int fi),some (.int (mn:Int)),some (.int r),some (.int far),some (.ref hl),some (.ref sz),v16,v17,v18,v19,v20] H1:=by
    intro v16 v17 v18 v19 v20 n H1 n100 W
    obtain⟨nd,fp,cn,M,kvs,ks,hs,W,c1,c2⟩:=W.o
    have hh:=W.hh
    walk_at "go"
    intro acc hacc
    refine comp_pairsI (xs:=hs.map V.ref) (fun i ys H'=>Bx (ys=(List.replicate i true).map V.bl/\H' acc=some (.lst ys)/\∀b u,H1 b=some u->H' b=some u)) (by rw[List.length_map,sizeLine_eq];omega) ⟨⟨rfl,upd_same,same_upd hacc⟩⟩ (fun i ys H' z=>?_) (fun i x ys H' hx z=>?_) (fun ys H2 z=>?_)
    ·obtain⟨z1,z2,z3⟩:=z.o
     exact⟨z2,SqL.of (z3 _ _ hh),by rw[z1,List.length_map,List.length_replicate]⟩
    ·obtain⟨z1,z2,z3⟩:=z.o
     rw[List.getElem?_map,Option.map_eq_some_iff] at hx
     obtain⟨t,ht,rfl⟩:=hx
     obtain⟨q,r',xs,ts,gs,h1,h2,_,RW,_,LV,gl,oks⟩:=(W.he t (List.mem_of_getElem? ht)).same (show Same H1 H' from z3)
     have xl:=LV.len
     refine⟨t,_,_,rfl,h1,fun RR rr=>?_⟩
     walk_at "go"
     intro rl hrl
     refine comp_listI (xs:=xs.map V.ref) (fun i ys H2=>Bx (∃us,ys=us.map V.ref/\RwL H2 rl us (gs.take i)/\us.length=i/\∀b u,H' b=some u->H2 b=some u)) (by rw[List.length_map,sizeLine_eq];omega) ⟨⟨[],rfl,⟨upd_same,rfl,fun i x g h=>(by cases h)⟩,rfl,same_upd hrl⟩⟩ (fun i ys H2 z=>?_) (fun i x ys H2 hx z RR rr=>?_) (fun ys H3 z=>?_)
     ·obtain⟨us,z1,z2,z3,z4⟩:=z.o
      exact⟨by rw[z1];exact z2.hl,SqL.of (z4 _ _ h2),by rw[z1,List.length_map];exact z3⟩
     ·obtain⟨us,y1,y2,y3,y4⟩:=z.o
      rw[List.getElem?_map,Option.map_eq_some_iff] at hx
      obtain⟨x',hx',rfl⟩:=hx
      obtain⟨g',eg,lf⟩:=LV.get hx'
      have lf':=lf.same (show Same H' H2 from y4)
      obtain⟨C,dxl,fs,f1',f2',f3',f4'⟩:∃C dx fs,H2 x'=some (.ins C dx fs)/\Cls K C/\HasMe P w K mg base C 1 "row" ["self"] (spRowK a g'.kind) []/\fs.lookup ("row" : Str)=none:=by
       obtain⟨dl,hl⟩:=id lf'
       cases g' with
       | fresh r=>exact⟨_,_,_,hl,T.cl_Fresh,h_Fresh_row,by walk_at "lk"⟩
       | held r f=>exact⟨_,_,_,hl,T.cl_Held,h_Held_row,by walk_at "lk"⟩
       | out r f=>exact⟨_,_,_,hl,T.cl_Out,h_Out_row,by walk_at "lk"⟩
       | named r n f=>exact⟨_,_,_,hl,T.cl_Named,h_Named_row,by walk_at "lk"⟩
      walk_at "go"
      intro v hv
      generalize hh:upd _ v _=H11
      obtain⟨s11,e11⟩:=newO hv hh
      clear hh
      have a11:=s11 _ _ y2.hl
      subst y1
      refine rr _ _ a11 ⟨⟨us++[v],by rw[List.map_append];rfl,?_,by rw[List.length_append,y3];rfl,fun b u e=>?_⟩⟩
      ·rw[List.take_add_one,eg]
       exact(y2.same s11).snoc (by assumption)
      ·rw[upd_ne (ne_of_none e hrl)];exact s11 _ _ (y4 _ _ e)
     obtain⟨us,y1,RL,ul,y4⟩:=z.o
     rw[List.length_map] at RL
     rw[List.take_of_length_le (by rw[LV.len];exact Nat.le_refl _)] at RL
     subst y1
     have s3:Same H' H3:=y4
     have RW3:=RW.same s3
     walk_at "go"
     refine rEqD_self RL.dat RW3.dat (rows_tid oks) ?_
     exact rr _ _ (s3 _ _ z2) ⟨⟨by rw[z1,List.replicate_succ',List.map_append];rfl,upd_same,fun b u e=>by rw[upd_ne (ne_of_none e hacc)];exact s3 _ _ (z3 _ _ e)⟩⟩
    obtain⟨z1,z2,z3⟩:=z.o
    subst z1
    have S4:=SqL.of (K:=K) z2
    have ba:∀m:Nat,(List.replicate m true).all id=true:=fun m=>by rw[List.all_replicate];cases m<;>simp
    walk_at "go"
    rw[ba]
    exact k _
   have D17:∀(v16 v17 v18 v19 v20:Option V) (n:Nat) (H1:Hp),n<=50->Lw a H1 y d sz hl ns low task base' long n->R17.1 { nx:=fun _ H'=>Q .non H',rt:=Q } [some (.ref sc),some (.ref w'),some (.int low),some (.int (pgs ns)),some (.int task),some (.ref y),some (.int base'),some (.int (long:Int)),some (.ref d),some (.int c),some (.int fi),some (.int (mn:Int)),some (.int r),some (.int far),some (.ref hl),some (.ref sz),v16,v17,v18,v19,v20] H1:=by
    intro v16 v17 v18 v19 v20 n H1 n50 W
    have hh:∃zs,H1 hl=some (.lst zs):=let ⟨_,_,_,_,_,_,_,W,_⟩:=W.o;⟨_,W.hh⟩
    obtain⟨zs,hh⟩:=hh
    walk_at "go"
    intro l2 hl2
    generalize hh:upd _ l2 _=H2
    obtain⟨s2,e2⟩:=newO hl2 hh
    clear hh
    have nl:l2≠hl:=(ne_of_none hh hl2).symm
    walk_at "go"
    refine for_list (xs:=[V.str "rights",V.str "unmap"]) (fun i σ H'=>Bx (∃v19,σ=[some (.ref sc),some (.ref w'),some (.int low),some (.int (pgs ns)),some (.int task),some (.ref y),some (.int base'),some (.int (long:Int)),some (.ref d),some (.int c),some (.int fi),some (.int (mn:Int)),some (.int r),some (.int far),some (.ref hl),some (.ref sz),v16,v17,v18,v19,v20]/\Lw a H' y d sz hl ns low task base' long (n+i)/\H' l2=some (.lst [V.str "rights",V.str "unmap"]))) ⟨⟨_,rfl,W.same s2,e2⟩⟩ (fun i σ H' _ z=>?_) ?_ ?_
    ·obtain⟨_,_,_,z⟩:=z.o
     exact SqL.of z
    ·rintro i x σ H3 hi ⟨v19,rfl,W3,e3⟩
     obtain⟨way,rfl,hway⟩:=ways2 (List.mem_of_getElem? hi)
     have il:i < 2:=(List.getElem?_eq_some_iff.mp hi).1
     obtain⟨nd,fp,cn,M,kvs,ks,hs,W4,c1,c2⟩:=W3.o
     have hz3:=W3.z
     have cc:cn < 80000:=by omega
     have ch:hs.length < 1000:=by omega
     walk_at "go"
     intro M' nd' fp' cn' kvs' ks' hs' H4 W5 c3 c4 kh
     have S5:=W5.S;have A5:=W5.A;have KP5:=W5.KP
     obtain⟨al1,al2⟩:=W5.all
     walk_at "go"
     intro H5 s5
     walk_at "go"
     exact⟨⟨_,rfl,⟨⟨nd',fp',cn',M',kvs',ks',hs',W5.same s5,by omega,by omega⟩,s5 _ _ (kh.tup hz3 W4.hh)⟩,s5 _ _ (kh.lst e3 nl)⟩⟩
    ·rintro σ H3 ⟨v19,rfl,W3,e3⟩
     exact D18 v16 v17 v18 v19 v20 _ H3 (by show n+2<=100;omega) W3
   have D16:∀(v16 v17 v18 v19 v20:Option V) (n:Nat) (H1:Hp),n<=40->Lw a H1 y d sz hl ns low task base' long n->R16.1 { nx:=fun _ H'=>Q .non H',rt:=Q } [some (.ref sc),some (.ref w'),some (.int low),some (.int (pgs ns)),some (.int task),some (.ref y),some (.int base'),some (.int (long:Int)),some (.ref d),some (.int c),some (.int fi),some (.int (mn:Int)),some (.int r),some (.int far),some (.ref hl),some (.ref sz),v16,v17,v18,v19,v20] H1:=by
    intro v16 v17 v18 v19 v20 n H1 n40 W
    obtain⟨nd1,fp1,cn1,M1,kvs1,ks1,hs1,W1,c11,c12⟩:=W.o
    have t1:=T.cl_Space;have t2:=T.cl_Fresh
    walk_at "go"
    refine for_range (fun i σ H'=>Bx (∃v20,σ=[some (.ref sc),some (.ref w'),some (.int low),some (.int (pgs ns)),some (.int task),some (.ref y),some (.int base'),some (.int (long:Int)),some (.ref d),some (.int c),some (.int fi),some (.int (mn:Int)),some (.int r),some (.int far),some (.ref hl),some (.ref sz),v16,v17,v18,v19,v20]/\(∃nd fp cn M kvs ks hs,W18 a H' y d hl ns low task base' long nd fp cn M kvs ks hs/\cn<=60+64*n+i/\hs.length<=n)/\H' sz=some (.tup [.int task,.int low,.int (pgs ns),.ref hl]))) ⟨⟨_,rfl,⟨_,_,_,_,_,_,_,W1,by omega,c12⟩,W.z⟩⟩ ?_ ?_
    ·rintro i σ H3 hi ⟨v20,rfl,⟨nd,fp,cn,M,kvs,ks,hs,W4,c1,c2⟩,hz3⟩
     have im:i < mn:=by omega
     have hd3:=W4.KP.h
     have id3:IsD H3 d:=.inl ⟨kvs,Rd.of hd3⟩
     have gg:DGet H3 d (.int (fi+(0+(i:Int)))) (valV kvs (.inl (fi+(0+(i:Int))))):=DGet.k (k:=Sum.inl (fi+(0+(i:Int)))) hd3
     cases q:M (fi+(0+(i:Int))) with
     | some g =>
      obtain⟨t,vt,_⟩:=W4.KP.so _ g q
      rw[vt] at gg
      walk_at "go"
      exact⟨⟨_,rfl,⟨nd,fp,cn,M,kvs,ks,hs,W4,by omega,c2⟩,hz3⟩⟩
     | none =>
      rw[W4.KP.no _ q] at gg
      walk_at "go"
      intro t ht
      generalize hh:upd _ t _=H5
      obtain⟨s5,e5⟩:=newO ht hh
      clear hh
      have r0:=Int.emod_nonneg (0+(i:Int)) (show (4:Int)≠0 by decide)
      have r4:=Int.emod_lt_of_pos (0+(i:Int)) (show (0:Int) < 4 by decide)
      have okr:OkR ((0+(i:Int))%4):=⟨r0,by omega⟩
      have e5':H5 t=some (.tup (Lf.fresh ((0+(i:Int))%4)).row):=e5
      obtain⟨H6,eH6,S6,A6,⟨ks6,KP6⟩,kn6,ht6⟩:=F18.row (n:=fi+(0+(i:Int))) (W4.S.same s5) (W4.A.same s5) (W4.KP.same s5) W4.nf e5'
      have kl4:=(W4.KP.few fun n g h=>(W4.inn n g h).1).1
      have dp:=DPut.k (k:=Sum.inl (fi+(0+(i:Int)))) (v:=V.ref t) (s5 _ _ W4.KP.h) (by rw[sizeLine_eq];omega)
      rw[<-eH6] at dp
      obtain⟨dxp,sh,tr,dt,sh2,top,dxs,ts,hp6,_⟩:=id S6
      walk_at "go"
      refine fun x dx hx hdx nx=>⟨x,dx,a.c_Fresh,_,rfl,upd_same,T.cl_Fresh,T.n_Fresh_rights,fun _=>⟨rfl,?_⟩,fun z=>absurd okr z⟩
      generalize hh:upd (upd (upd _ dx _) x _) x _=H7
      obtain⟨s7,e7⟩:=newI hx hdx hh
      clear hh
      have S7:=S6.same s7
      have lf7:LfAt a H7 x (.fresh ((0+(i:Int))%4)):=⟨dx,e7⟩
      have hp7:=s7 _ _ hp6
      have lvy:∃u,H7 x=some u:=⟨_,e7⟩
      have cc7:cn < 100000:=by omega
      have pin:0<=fi+(0+(i:Int))/\fi+(0+(i:Int)) < pgs ns:=by omega
      walk_at "go"
      refine⟨fun _ nd2 fp2 H8 S8 pt fr8 sub=>?_,fun z=>absurd pin z⟩
      have kn8:=S7.keepN fr8
      have fd:=L2.Fr.out fr8 (s7 _ _ KP6.h) W4.nf
      have A8:=(A6.same s7).put g kn8 pin.1 pin.2 pt (kn8.lf lf7)
      have KP8:=(KP6.same s7).keep kn8 fd.1
      have kn:KeepN H3 H8:=(((KeepN.same s5).trans kn6).trans (KeepN.same s7)).trans kn8
      walk_at "go"
      refine⟨⟨_,rfl,⟨nd2,fp2,cn+1,_,_,_,hs,⟨S8,A8,KP8,fun n g' h=>?_,fd.2,kn.lst W4.hh,fun t2 h2=>(W4.he t2 h2).keepN kn,W4.b0,W4.b1,W4.lg⟩,by omega,c2⟩,kn.tup hz3⟩⟩
      by_cases e:n=fi+(0+(i:Int))
      ·rw[e,Mf.put_at] at h
       cases h
       exact⟨by omega,trivial⟩
      ·rw[Mf.put_ne e] at h
       exact W4.inn n g' h
    ·rintro σ H3 ⟨v20,rfl,⟨nd,fp,cn,M,kvs,ks,hs,W4,c1,c2⟩,hz3⟩
     exact D17 v16 v17 v18 v19 v20 (n+1) H3 (by omega) ⟨⟨nd,fp,cn,M,kvs,ks,hs,W4,by omega,by omega⟩,hz3⟩
   have D15:∀(v16 v17 v18 v19 v20:Option V) (n:Nat) (H1:Hp),n<=30->Lw a H1 y d sz hl ns low task base' long n->R15.1 { nx:=fun _ H'=>Q .non H',rt:=Q } [some (.ref sc),some (.ref w'),some (.int low),some (.int (pgs ns)),some (.int task),some (.ref y),some (.int base'),some (.int (long:Int)),some (.ref d),some (.int c),some (.int fi),some (.int (mn:Int)),some (.int r),some (.int far),some (.ref hl),some (.ref sz),v16,v17,v18,v19,v20] H1:=by
    intro v16 v17 v18 v19 v20 n H1 n50 W
    have hh:∃zs,H1 hl=some (.lst zs):=let ⟨_,_,_,_,_,_,_,W,_⟩:=W.o;⟨_,W.hh⟩
    obtain⟨zs,hh⟩:=hh
    walk_at "go"
    intro l2 hl2
    generalize hh:upd _ l2 _=H2
    obtain⟨s2,e2⟩:=newO hl2 hh
    clear hh
    have nl:l2≠hl:=(ne_of_none hh hl2).symm
    walk_at "go"
    refine for_list (xs:=[V.str "rights",V.str "unmap",V.str "rights"]) (fun i σ H'=>Bx (∃v19,σ=[some (.ref sc),some (.ref w'),some (.int low),some (.int (pgs ns)),some (.int task),some (.ref y),some (.int base'),some (.int (long:Int)),some (.ref d),some (.int c),some (.int fi),some (.int (mn:Int)),some (.int r),some (.int far),some (.ref hl),some (.ref sz),v16,v17,v18,v19,v20]/\Lw a H' y d sz hl ns low task base' long (n+i)/\H' l2=some (.lst [V.str "rights",V.str "unmap",V.str "rights"]))) ⟨⟨_,rfl,W.same s2,e2⟩⟩ (fun i σ H' _ z=>?_) ?_ ?_
    ·obtain⟨_,_,_,z⟩:=z.o
     exact SqL.of z
    ·rintro i x σ H3 hi ⟨v19,rfl,W3,e3⟩
     obtain⟨way,rfl,hway⟩:=ways3 (List.mem_of_getElem? hi)
     have il:i < 3:=(List.getElem?_eq_some_iff.mp hi).1
     obtain⟨nd,fp,cn,M,kvs,ks,hs,W4,c1,c2⟩:=W3.o
     have hz3:=W3.z
     have cc:cn < 80000:=by omega
     have ch:hs.length < 1000:=by omega
     walk_at "go"
     intro M' nd' fp' cn' kvs' ks' hs' H4 W5 c3 c4 kh
     have S5:=W5.S;have A5:=W5.A;have KP5:=W5.KP
     obtain⟨al1,al2⟩:=W5.all
     walk_at "go"
     intro H5 s5
     walk_at "go"
     exact⟨⟨_,rfl,⟨⟨nd',fp',cn',M',kvs',ks',hs',W5.same s5,by omega,by omega⟩,s5 _ _ (kh.tup hz3 W4.hh)⟩,s5 _ _ (kh.lst e3 nl)⟩⟩
    ·rintro σ H3 ⟨v19,rfl,W3,e3⟩
     exact D16 v16 v17 v18 v19 v20 _ H3 (by show n+3<=40;omega) W3
   have D14:∀(v16 v17 v18 v19 v20:Option V) (n:Nat) (H1:Hp),n<=30->Lw a H1 y d sz hl ns low task base' long n->R14.1 { nx:=fun _ H'=>Q .non H',rt:=Q } [some (.ref sc),some (.ref w'),some (.int low),some (.int (pgs ns)),some (.int task),some (.ref y),some (.int base'),some (.int (long:Int)),some (.ref d),some (.int c),some (.int fi),some (.int (mn:Int)),some (.int r),some (.int far),some (.ref hl),some (.ref sz),v16,v17,v18,v19,v20] H1:=by
    intro v16 v17 v18 v19 v20 n H1 n50 W
    obtain⟨nd,fp,cn,M,kvs,ks,hs,W4,c1,c2⟩:=W.o
    have S5:=W4.S;have A5:=W4.A;have KP5:=W4.KP
    obtain⟨al1,al2⟩:=W4.all
    have cc:cn < 90000:=by omega
    walk_at "go"
    intro H2 s2
    repeat (first | exact D15 v16 v17 v18 v19 v20 n H2 n50 (W.same s2) | (apply And.intro;(walk_at "cl")) | walk_at "ex")
   obtain⟨zs,hh⟩:∃zs,H10 hl=some (.lst zs):=let ⟨_,_,_,_,_,_,_,W,_⟩:=W10.o;⟨_,W.hh⟩
   walk_at "go"
   intro t1 ht1
   generalize hh:upd _ t1 _=H1
   obtain⟨s1,e1⟩:=newO ht1 hh
   clear hh
   walk_at "go"
   intro t2 ht2
   generalize hh:upd _ t2 _=H2
   obtain⟨s2,e2⟩:=newO ht2 hh
   clear hh
   walk_at "go"
   intro t3 ht3
   generalize hh:upd _ t3 _=H3
   obtain⟨s3,e3⟩:=newO ht3 hh
   clear hh
   walk_at "go"
   intro t4 ht4
   generalize hh:upd _ t4 _=H4
   obtain⟨s4,e4⟩:=newO ht4 hh
   clear hh
   walk_at "go"
   intro t5 ht5
   generalize hh:upd _ t5 _=H5
   obtain⟨s5,e5⟩:=newO ht5 hh
   clear hh
   have f1:=(((s2.trans s3).trans s4).trans s5) _ _ e1
   have f2:=((s3.trans s4).trans s5) _ _ e2
   have f3:=(s4.trans s5) _ _ e3
   have f4:=s5 _ _ e4
   walk_at "go"
   intro lo hlo
   generalize hh:upd _ lo _=H6
   obtain⟨s6,e6⟩:=newO hlo hh
   clear hh
   have s06:=((((s1.trans s2).trans s3).trans s4).trans s5).trans s6
   have hh6:=s06 _ _ hh
   have nl:lo≠hl:=(ne_of_none (((((s1.trans s2).trans s3).trans s4).trans s5) _ _ hh) hlo).symm
   have xs6:∀v∈[V.ref t1,V.ref t2,V.ref t3,V.ref t4,V.ref t5],∃t f m r,v=.ref t/\H6 t=some (.tup [.int f,.int m,.int r]):=fun v hv=>by
    rcases hv with _ | ⟨_,hv⟩
    ·exact⟨_,_,_,_,rfl,s6 _ _ f1⟩
    rcases hv with _ | ⟨_,hv⟩
    ·exact⟨_,_,_,_,rfl,s6 _ _ f2⟩
    rcases hv with _ | ⟨_,hv⟩
    ·exact⟨_,_,_,_,rfl,s6 _ _ f3⟩
    rcases hv with _ | ⟨_,hv⟩
    ·exact⟨_,_,_,_,rfl,s6 _ _ f4⟩
    rcases hv with _ | ⟨_,hv⟩
    ·exact⟨_,_,_,_,rfl,s6 _ _ e5⟩
    cases hv
   walk_at "go"
   refine for_list (xs:=[V.ref t1,V.ref t2,V.ref t3,V.ref t4,V.ref t5]) (fun i σ H'=>Bx (∃v16 v17 v18 v19,σ=[some (.ref sc),some (.ref w'),some (.int low),some (.int (pgs ns)),some (.int task),some (.ref y),some (.int base'),some (.int (long:Int)),some (.ref d),some (.int c),some (.int fi),some (.int (mn:Int)),some (.int r),some (.int far),some (.ref hl),some (.ref sz),v16,v17,v18,v19,none]/\Lw a H' y d sz hl ns low task base' long (0+2*i)/\KeepH hl H6 H')) ⟨⟨_,_,_,_,rfl,W10.same s06,KeepH.same (Same.refl _)⟩⟩ (fun i σ H' _ z=>?_) ?_ ?_
   ·obtain⟨_,_,_,_,_,_,z⟩:=z.o
    exact SqL.of (z.lst e6 nl)
   ·rintro i x σ H7 hi ⟨v16,v17,v18,v19,rfl,W7,k7⟩
    obtain⟨t,f',m',r',rfl,ht⟩:=xs6 x (List.mem_of_getElem? hi)
    have il:i < 5:=(List.getElem?_eq_some_iff.mp hi).1
    have ht7:=k7.tup ht hh6
    obtain⟨zs7,hh7⟩:∃zs,H7 hl=some (.lst zs):=let ⟨_,_,_,_,_,_,_,W,_⟩:=W7.o;⟨_,W.hh⟩
    walk_at "go"
    intro l2 hl2
    generalize hh:upd _ l2 _=H8
    obtain⟨s8,e8⟩:=newO hl2 hh
    clear hh
    have nl2:l2≠hl:=(ne_of_none hh7 hl2).symm
    walk_at "go"
    refine for_list (xs:=[V.str "rights",V.str "unmap"]) (fun j σ H'=>Bx (∃v19,σ=[some (.ref sc),some (.ref w'),some (.int low),some (.int (pgs ns)),some (.int task),some (.ref y),some (.int base'),some (.int (long:Int)),some (.ref d),some (.int c),some (.int fi),some (.int (mn:Int)),some (.int r),some (.int far),some (.ref hl),some (.ref sz),some (.int f'),some (.int m'),some (.int r'),v19,none]/\Lw a H' y d sz hl ns low task base' long (0+2*i+j)/\KeepH hl H8 H')) ⟨⟨_,rfl,W7.same s8,KeepH.same (Same.refl _)⟩⟩ (fun i σ H' _ z=>?_) ?_ ?_
    ·obtain⟨_,_,_,z⟩:=z.o
     exact SqL.of (z.lst e8 nl2)
    ·rintro j x σ H3 hj ⟨v19,rfl,W3,k3⟩
     obtain⟨way,rfl,hway⟩:=ways2 (List.mem_of_getElem? hj)
     have jl:j < 2:=(List.getElem?_eq_some_iff.mp hj).1
     obtain⟨nd,fp,cn,M,kvs,ks,hs,W4,c1,c2⟩:=W3.o
     have hz3:=W3.z
     have cc:cn < 80000:=by omega
     have ch:hs.length < 1000:=by omega
     walk_at "go"
     intro M' nd' fp' cn' kvs' ks' hs' H4 W5 c3 c4 kh
     have S5:=W5.S;have A5:=W5.A;have KP5:=W5.KP
     obtain⟨al1,al2⟩:=W5.all
     walk_at "go"
     intro H5 s5
     walk_at "go"
     exact⟨⟨_,rfl,⟨⟨nd',fp',cn',M',kvs',ks',hs',W5.same s5,by omega,by omega⟩,s5 _ _ (kh.tup hz3 W4.hh)⟩,k3.trans (kh.trans (KeepH.same s5))⟩⟩
    ·rintro σ H3 ⟨v19,rfl,W3,k3⟩
     exact⟨⟨_,_,_,_,rfl,W3,k7.trans ((KeepH.same s8).trans k3)⟩⟩
   ·rintro σ H7 ⟨v16,v17,v18,v19,rfl,W7,k7⟩
    exact D14 v16 v17 v18 v19 none _ H7 (by show 0+2*5<=30;omega) W7
  have n0:=Int.emod_nonneg (ss.getD (3:Int).toNat 0 / 64) (show (long:Int)-ss.getD (3:Int).toNat 0%(long:Int)≠0 by omega)
  have n1:=Int.emod_lt_of_pos (ss.getD (3:Int).toNat 0 / 64) mp
  obtain⟨mn,emn,mn1,mn2⟩:∃mn:Nat,1+ss.getD (3:Int).toNat 0 / 64%((long:Int)-ss.getD (3:Int).toNat 0%(long:Int))=(mn:Int)/\1<=mn/\base'+ss.getD (3:Int).toNat 0%(long:Int)+mn<=base'+long:=⟨(1+ss.getD (3:Int).toNat 0 / 64%((long:Int)-ss.getD (3:Int).toNat 0%(long:Int))).toNat,by omega,by omega,by omega⟩
  have far0:=Int.emod_nonneg (ss.getD (3:Int).toNat 0) (show (10:Int)^(60:Int).toNat≠0 by decide)
  walk_at "go"
  intro lr hlr
  generalize hh:upd _ lr _=H10
  obtain⟨s10,e10⟩:=newO hlr hh
  clear hh
  obtain⟨r,er⟩:∃r:Int,atI [V.int (ss.getD (3:Int).toNat 0%4),V.int (-1-ss.getD (3:Int).toNat 0%(10:Int)^(60:Int).toNat),V.int 4,V.int (4+ss.getD (3:Int).toNat 0%(10:Int)^(60:Int).toNat),V.int (ss.getD (3:Int).toNat 0 / 3%4),V.int (ss.getD (3:Int).toNat 0 / 5%4)] (ss.getD (3:Int).toNat 0 / 7%6)=some (.int r):=by
   have h0:=Int.emod_nonneg (ss.getD (3:Int).toNat 0 / 7) (show (6:Int)≠0 by decide)
   have h1:=Int.emod_lt_of_pos (ss.getD (3:Int).toNat 0 / 7) (show (0:Int) < 6 by decide)
   generalize ss.getD (3:Int).toNat 0 / 7%6=z at h0 h1
   have:z=0\/z=1\/z=2\/z=3\/z=4\/z=5:=by omega
   rcases this with rfl | rfl | rfl | rfl | rfl | rfl<;>exact⟨_,rfl⟩
  walk_at "go"
  intro hl hhl
  generalize hh:upd _ hl _=H11
  obtain⟨s11,e11⟩:=newO hhl hh
  clear hh
  walk_at "go"
  intro sz hsz
  generalize hh:upd _ sz _=H12
  obtain⟨s12,e12⟩:=newO hsz hh
  clear hh
  have s912:=(s10.trans s11).trans s12
  have F12:=W9.same s912
  have W12:Lw a H12 y d sz hl ns low task base' long 0:=⟨⟨nd,fp,60,M,kvs,ks,[],⟨F12.S,F12.A,F12.KP,F12.inn,F12.nf,s12 _ _ e11,fun t h=>(by cases h),b0,b1,lo60⟩,by omega,Nat.le_refl _⟩,e12⟩
  have fin:=tail13 (ss.getD (3:Int).toNat 0) (base'+ss.getD (3:Int).toNat 0%(long:Int)) r (ss.getD (3:Int).toNat 0%(10:Int)^(60:Int).toNat) mn hl sz H12 far0 mn1 (by omega) mn2 W12
  rw[<-emn] at fin
  exact fin
 have tail4:∀(low task:Int),Good ns low->R4.1 { nx:=fun _ H'=>Q .non H',rt:=Q } [some (.ref sc),some (.ref w'),some (.int low),some (.int (pgs ns)),some (.int task),none,none,none,none,none,none,none,none,none,none,none,none,none,none,none,none] H1:=by
  intro low task g
  walk_at "go"
  intro l hl
  generalize hh:upd _ l _=H5
  obtain⟨s5,e5⟩:=newO hl hh
  clear hh
  have S5:=s5.seq S1
  have n64:ns.length<=64:=by have:=hW.1;omega
  walk_at "go"
  refine fun x dx hx hdx ne=>⟨x,l,dx,ns,low,rfl,upd_same,?_,n64,fun _ H6 SH6 fr=>⟨rfl,?_⟩,fun z=>absurd g z⟩
  ·rw[upd_ne (ne_of_none e5 hx),upd_ne (ne_of_none e5 hdx)];exact e5
  have s6:Same H5 H6:=fun b o z=>fr b o (by rw[upd_ne (ne_of_none z hx),upd_ne (ne_of_none z hdx)];exact z) (ne_of_none z hx)
  have S6:=s6.seq S5
  walk_at "go"
  refine fun y dy hy hdy ney=>⟨y,x,dy,ns,low,_,rfl,upd_same,SH6.same ?_,g,fun top H7 ht SP7 fr7=>⟨rfl,?_⟩⟩
  ·exact(same_upd hdy).trans (same_upd (by rw[upd_ne ney.symm];exact hy))
  have s7:Same H6 H7:=fun b o z=>fr7 b o (by rw[upd_ne (ne_of_none z hy),upd_ne (ne_of_none z hdy)];exact z) (ne_of_none z hy)
  have S7:=s7.seq S6
  have A7:Ab a H7 ns (fun π:Ix=>if π=[] then some top else none) (fun _=>none):=⟨fun n _ _ _=>nd0 g top n,fun n g' _ _ h=>by cases h⟩
  walk_at "go"
  intro t d base' long M nd' fp' kvs ks H8 ht8 lo1 lo60 b0 b1 W8 kn8
  have S8:=kn8.seq S7
  repeat (first | exact tail6 low task base' y d long nd' fp' M kvs ks H8 g lo1 lo60 b0 b1 W8 S8 | (apply And.intro;(walk_at "cl")) | walk_at "ex")
 have tail:R4.1 { nx:=fun _ H'=>Q .non H',rt:=Q } [some (.ref sc),some (.ref w'),some (.int (drawn (ss.getD (0:Int).toNat 0) 39373 99961 7)),some (.int (1*2^ns.sum.toNat)),some (.int (ss.getD (1:Int).toNat 0%(10:Int)^(60:Int).toNat)),none,none,none,none,none,none,none,none,none,none,none,none,none,none,none,none] H1:=by
  rw[tot]
  exact tail4 _ _ (g0 _ l0 l7)
 repeat (first | exact tail | (apply And.intro;(walk_at "cl")) | walk_at "ex")
end
end K18

set_option maxHeartbeats 4000000
namespace PySem
namespace F
end F
section
variable {prog:Program}{w:World}{A:Around}{E:Value->Shared->Prop}{s:Shared}
end
end PySem
namespace L2
open PySem PySem.Spec PyProof.Rows
section
variable {X:Cx}{tg:Expr}
end
end L2

set_option maxHeartbeats 4000000
namespace L2
open PySem PySem.Spec PyProof.Rows
section
variable {P:List Value->Prop}
theorem u1 (h:∀a,P [a]): ∀us:List Value,us.length=1->P us
  | [a],_=>h a
theorem u2 (h:∀a b,P [a,b]): ∀us:List Value,us.length=2->P us
  | [a,b],_=>h a b
theorem u3 (h:∀a b c,P [a,b,c]): ∀us:List Value,us.length=3->P us
  | [a,b,c],_=>h a b c
theorem u4 (h:∀a b c d,P [a,b,c,d]): ∀us:List Value,us.length=4->P us
  | [a,b,c,d],_=>h a b c d
theorem u5 (h:∀a b c d e,P [a,b,c,d,e]): ∀us:List Value,us.length=5->P us
  | [a,b,c,d,e],_=>h a b c d e
theorem u7 (h:∀a b c d e f g,P [a,b,c,d,e,f,g]): ∀us:List Value,us.length=7->P us
  | [a,b,c,d,e,f,g],_=>h a b c d e f g
end
def BA (nm q:Str)(st:Stmt)(ps:List Str): Prop:=∀(kV doc pm:Value) (an:Option Addr) (cdv ct:Value) (us:List Value),us.length=ps.length ->
  bindArgs (PySem.W.fnOf nm q (defArgs st) (defBody st) (defScope st) .none kV doc pm an cdv ct) ⟨us,[]⟩=pure (ps.zip us)
section
variable {K:PySem.W.Frag}{h:Heap}{mg:Str->Option Value}{C f:Addr}{x m q:Str}{st:Stmt}{ps:List Str}{oc kV doc pm cdv ct:Value}{od an:Option Addr}{sl:Array (Option Value)}
theorem RawF.of (X:K.In h)(G:h.Ns mainGlobals mg)(a:PySem.W.nsIn K mainGlobals x=some (some (.ref f)))(l:K.lookup f=some ⟨oc,od,.func (PySem.W.fnOf x x (defArgs st) (defBody st) (defScope st) .none kV doc pm an cdv ct),sl⟩)
    (c:PySem.W.codeIn K cdv x=true) (k:PySem.W.keepIn K (.ref f)=true) (b:BA x x st ps):RawF K mg x st ps [] :=
  ⟨f,oc,od,.none,kV,doc,pm,an,cdv,ct,sl,[],l,c,k,PySem.W.mg_of X G a,.all (b _ _ _ _ _ _),.nil⟩
theorem RawM.of (e:PySem.W.findIn K (.ref C) m=some (some (.ref f)))(l:K.lookup f=some ⟨oc,od,.func (PySem.W.fnOf m q (defArgs st) (defBody st) (defScope st) .none kV doc pm an cdv ct),sl⟩)
    (c:PySem.W.codeIn K cdv q=true) (k:PySem.W.keepIn K (.ref f)=true) (i:PySem.W.isFn K (.ref f)=true) (b:BA m q st ps):RawM K C m q st ps [] :=
  ⟨f,oc,od,.none,kV,doc,pm,an,cdv,ct,sl,[],l,c,⟨e,i,k⟩,.all (b _ _ _ _ _ _),.nil⟩
theorem RawI.of (e:PySem.W.findIn K (.ref C) "__init__" = some (some (.ref f))) (l:K.lookup f=some ⟨oc,od,.func (PySem.W.fnOf "__init__" q (defArgs st) (defBody st) (defScope st) .none kV doc pm an cdv ct),sl⟩)
    (c:PySem.W.codeIn K cdv q=true) (k:PySem.W.makesIn K C=true) (i:PySem.W.isFn K (.ref f)=true) (kc:PySem.W.keepIn K (.ref C)=true) (b:BA "__init__" q st ps):RawI K C q st ps [] :=
  ⟨f,oc,od,.none,kV,doc,pm,an,cdv,ct,sl,[],l,c,⟨k,e,i,kc⟩,.all (b _ _ _ _ _ _),.nil⟩
theorem XL.mk' {bm N nm qn bs sn sub ab col dd k0 k1 k2 k3 k5} (l:K.lookup C=some (excClassObj nm qn C N bs bm true sn sub ab col dd k0 k1 k2 k3 k5 "ValueError.__new__")) (r:xrow bm=true):XL K C :=
  ⟨bm,N,nm,qn,bs,sn,sub,ab,col,dd,k0,k1,k2,k3,k5,l,r⟩
end
end L2

set_option maxHeartbeats 4000000
namespace K18
open PySem L2
theorem all_mk {l:PySem.W.OpenLaw} {w:World} {K:PySem.W.Frag} {h:Heap} {mg:Str->Option Value} {fa c_LeafError c_NoShape c_NoAddress c_NoStretch c_NoRights c_Taken c_Fault c_Unmapped c_Barred c_Leaf c_Fresh c_Held c_Out c_Named c_Tree c_Space c_Shape d_NEEDED f21 f33 f34 f60:Addr} (X:K.In h) (G:h.Ns mainGlobals mg) (hfa:mg "law" = some (.ref fa))
  {od21 an21:Option Addr} {sl21:Array (Option Value)} {oc21 kV21 dc21 pm21 cd21 ct21:Value}
  {od33 an33:Option Addr} {sl33:Array (Option Value)} {oc33 kV33 dc33 pm33 cd33 ct33:Value}
  {od34 an34:Option Addr} {sl34:Array (Option Value)} {oc34 kV34 dc34 pm34 cd34 ct34:Value}
  {od60 an60:Option Addr} {sl60:Array (Option Value)} {oc60 kV60 dc60 pm60 cd60 ct60:Value}
  {des_NEEDED:Array DictEntry} {den_NEEDED:Nat}
  {tkv_NEEDED_read tkv_NEEDED_write tkc_MOST_WIDTH tkc_MOST_LOW tkc_MOST_PAGES:Tok}
  (a_c_LeafError:PySem.W.nsIn K mainGlobals "LeafError" = some (some (.ref c_LeafError)))
  (a_c_NoShape:PySem.W.nsIn K mainGlobals "NoShape" = some (some (.ref c_NoShape)))
  (a_c_NoAddress:PySem.W.nsIn K mainGlobals "NoAddress" = some (some (.ref c_NoAddress)))
  (a_c_NoStretch:PySem.W.nsIn K mainGlobals "NoStretch" = some (some (.ref c_NoStretch)))
  (a_c_NoRights:PySem.W.nsIn K mainGlobals "NoRights" = some (some (.ref c_NoRights)))
  (a_c_Taken:PySem.W.nsIn K mainGlobals "Taken" = some (some (.ref c_Taken)))
  (a_c_Fault:PySem.W.nsIn K mainGlobals "Fault" = some (some (.ref c_Fault)))
  (a_c_Unmapped:PySem.W.nsIn K mainGlobals "Unmapped" = some (some (.ref c_Unmapped)))
  (a_c_Barred:PySem.W.nsIn K mainGlobals "Barred" = some (some (.ref c_Barred)))
  (a_c_Leaf:PySem.W.nsIn K mainGlobals "Leaf" = some (some (.ref c_Leaf)))
  (a_c_Fresh:PySem.W.nsIn K mainGlobals "Fresh" = some (some (.ref c_Fresh)))
  (a_c_Held:PySem.W.nsIn K mainGlobals "Held" = some (some (.ref c_Held)))
  (a_c_Out:PySem.W.nsIn K mainGlobals "Out" = some (some (.ref c_Out)))
  (a_c_Named:PySem.W.nsIn K mainGlobals "Named" = some (some (.ref c_Named)))
  (a_c_Tree:PySem.W.nsIn K mainGlobals "Tree" = some (some (.ref c_Tree)))
  (a_c_Space:PySem.W.nsIn K mainGlobals "Space" = some (some (.ref c_Space)))
  (a_c_Shape:PySem.W.nsIn K mainGlobals "Shape" = some (some (.ref c_Shape)))
  (fc_Leaf___init__:PySem.W.findCls K (.ref c_Leaf) (.type "type") "__init__" = some (.val (.ref f21)))
  (rd_Leaf:PySem.W.readsIn K c_Leaf (.type "type")=true)
  (sg_Leaf:PySem.W.specialIn K (.ref c_Leaf) "__getattribute__" = some (some (.builtin "type.__getattribute__")))
  (fi_Fresh___init__:PySem.W.findIn K (.ref c_Fresh) "__init__" = some (some (.ref f21)))
  (fi_Taken___init__:PySem.W.findIn K (.ref c_Taken) "__init__" = some (some (.ref f33)))
  (fi_Unmapped___init__:PySem.W.findIn K (.ref c_Unmapped) "__init__" = some (some (.ref f34)))
  (l21:K.lookup f21=some ⟨oc21,od21,.func (PySem.W.fnOf "__init__" "Leaf.__init__" (defArgs s_Leaf___init__) (defBody s_Leaf___init__) (defScope s_Leaf___init__) .none kV21 dc21 pm21 an21 cd21 ct21),sl21⟩)
  (c21:PySem.W.codeIn K cd21 "Leaf.__init__" = true)
  (k21:PySem.W.keepIn K (.ref f21)=true)
  (i21:PySem.W.isFn K (.ref f21)=true)
  (l33:K.lookup f33=some ⟨oc33,od33,.func (PySem.W.fnOf "__init__" "Taken.__init__" (defArgs s_Taken___init__) (defBody s_Taken___init__) (defScope s_Taken___init__) .none kV33 dc33 pm33 an33 cd33 ct33),sl33⟩)
  (c33:PySem.W.codeIn K cd33 "Taken.__init__" = true)
  (k33:PySem.W.keepIn K (.ref f33)=true)
  (i33:PySem.W.isFn K (.ref f33)=true)
  (l34:K.lookup f34=some ⟨oc34,od34,.func (PySem.W.fnOf "__init__" "Fault.__init__" (defArgs s_Fault___init__) (defBody s_Fault___init__) (defScope s_Fault___init__) .none kV34 dc34 pm34 an34 cd34 ct34),sl34⟩)
  (c34:PySem.W.codeIn K cd34 "Fault.__init__" = true)
  (k34:PySem.W.keepIn K (.ref f34)=true)
  (i34:PySem.W.isFn K (.ref f34)=true)
  (a60:PySem.W.nsIn K mainGlobals "law" = some (some (.ref f60)))
  (l60:K.lookup f60=some ⟨oc60,od60,.func (PySem.W.fnOf "law" "law" (defArgs s_law) (defBody s_law) (defScope s_law) .none kV60 dc60 pm60 an60 cd60 ct60),sl60⟩)
  (c60:PySem.W.codeIn K cd60 "law" = true)
  (k60:PySem.W.keepIn K (.ref f60)=true)
  (r1:RawF K mg "check_shape" s_check_shape ["widths", "low"] [])
  (r2:RawF K mg "check_inside" s_check_inside ["number", "bound"] [])
  (r3:RawM K c_Shape "pages" "Shape.pages" s_Shape_pages ["self"] [])
  (r4:RawM K c_Shape "size" "Shape.size" s_Shape_size ["self"] [])
  (r5:RawM K c_Shape "check_address" "Shape.check_address" s_Shape_check_address ["self", "address"] [])
  (r6:RawM K c_Shape "part_widths" "Shape.part_widths" s_Shape_part_widths ["self"] [])
  (r7:RawM K c_Shape "cut" "Shape.cut" s_Shape_cut ["self", "address"] [])
  (r8:RawM K c_Shape "address_of" "Shape.address_of" s_Shape_address_of ["self", "page", "place"] [])
  (r9:RawM K c_Tree "indexes" "Tree.indexes" s_Tree_indexes ["self", "page"] [])
  (r10:RawM K c_Tree "path_to" "Tree.path_to" s_Tree_path_to ["self", "indexes"] [])
  (r11:RawF K mg "prune" s_prune ["path", "indexes"] [])
  (r12:RawF K mg "one_level_down" s_one_level_down ["nodes", "width"] [])
  (r13:RawF K mg "check_rights" s_check_rights ["rights"] [])
  (r14:RawI K c_Held "Held.__init__" s_Held___init__ ["self", "rights", "frame"] [])
  (r15:RawI K c_Out "Out.__init__" s_Out___init__ ["self", "rights", "slot"] [])
  (r16:RawI K c_Named "Named.__init__" s_Named___init__ ["self", "rights", "name", "part"] [])
  (r17:RawM K c_Tree "leaf" "Tree.leaf" s_Tree_leaf ["self", "page"] [])
  (r18:RawM K c_Tree "rows" "Tree.rows" s_Tree_rows ["self"] [])
  (r19:RawM K c_Tree "put" "Tree.put" s_Tree_put ["self", "page", "leaf"] [])
  (r20:RawI K c_Tree "Tree.__init__" s_Tree___init__ ["self", "shape"] [])
  (r21:RawM K c_Shape "stretch" "Shape.stretch" s_Shape_stretch ["self", "first", "many"] [])
  (r22:RawM K c_Space "leaf" "Space.leaf" s_Space_leaf ["self", "page"] [])
  (r23:RawM K c_Space "put" "Space.put" s_Space_put ["self", "page", "leaf"] [])
  (r24:RawM K c_Space "check_mapped" "Space.check_mapped" s_Space_check_mapped ["self", "pages", "deed"] [])
  (r25:RawM K c_Tree "drop" "Tree.drop" s_Tree_drop ["self", "page"] [])
  (r26:RawM K c_Fresh "righted" "Fresh.righted" s_Fresh_righted ["self", "rights"] [])
  (r27:RawM K c_Held "righted" "Held.righted" s_Held_righted ["self", "rights"] [])
  (r28:RawM K c_Out "righted" "Out.righted" s_Out_righted ["self", "rights"] [])
  (r29:RawM K c_Named "righted" "Named.righted" s_Named_righted ["self", "rights"] [])
  (r30:RawF K mg "_law_drawn" s__law_drawn ["_law_cell", "_law_by", "_law_prime", "_law_many"] [])
  (r31:RawF K mg "_law_name" s__law_name ["_law_number"] [])
  (r32:RawF K mg "_law_whole" s__law_whole ["_law_found"] [])
  (r33:RawM K c_Space "rows" "Space.rows" s_Space_rows ["self"] [])
  (r34:RawF K mg "_law_like" s__law_like ["_law_found", "_law_due"] [])
  (r35:RawM K c_Fresh "row" "Fresh.row" s_Fresh_row ["self"] [])
  (r36:RawM K c_Held "row" "Held.row" s_Held_row ["self"] [])
  (r37:RawM K c_Out "row" "Out.row" s_Out_row ["self"] [])
  (r38:RawM K c_Named "row" "Named.row" s_Named_row ["self"] [])
  (r39:RawM K c_Space "lift" "Space.lift" s_Space_lift ["self", "first", "many"] [])
  (r40:RawM K c_Space "change" "Space.change" s_Space_change ["self", "first", "many", "rights"] [])
  (r41:RawM K c_Space "lay" "Space.lay" s_Space_lay ["self", "first", "leaves"] [])
  (r42:RawF K mg "_law_code" s__law_code ["_law_refusal"] [])
  (r43:RawF K mg "_law_done" s__law_done ["_law_space", "_law_way", "_law_first", "_law_many", "_law_rights"] [])
  (r44:RawF K mg "_law_lifted" s__law_lifted ["_law_found", "_law_own", "_law_first", "_law_many", "_law_held"] [])
  (r45:RawF K mg "_law_all" s__law_all ["_law_space", "_law_own"] [])
  (r46:RawF K mg "_law_lay_refused" s__law_lay_refused ["_law_space", "_law_first", "_law_many"] [])
  (r47:RawF K mg "_law_outside" s__law_outside ["_law_space", "_law_asks", "_law_page"] [])
  (r48:RawF K mg "_law_cell_at" s__law_cell_at ["_law_script", "_law_k"] [])
  (r49:RawF K mg "_law_row" s__law_row ["_law_cell"] [])
  (r50:RawF K mg "_law_leaf" s__law_leaf ["_law_row_here"] [])
  (r51:RawF K mg "_law_widths" s__law_widths ["_law_cell"] [])
  (r52:RawI K c_Space "Space.__init__" s_Space___init__ ["self", "shape", "task"] [])
  (r53:RawI K c_Shape "Shape.__init__" s_Shape___init__ ["self", "widths", "low"] [])
  (r54:RawF K mg "_law_filled" s__law_filled ["_law_space", "_law_script", "_law_total"] [])
  (r55:RawF K mg "_law_step" s__law_step ["_law_space", "_law_own", "_law_size", "_law_way", "_law_first", "_law_many", "_law_rights"] [])
  (r56:RawF K mg "_law_edges" s__law_edges ["_law_space", "_law_own", "_law_base", "_law_total", "_law_far"] [])
  (cl_Leaf:Cls K c_Leaf)
  (cl_Fresh:Cls K c_Fresh)
  (cl_Held:Cls K c_Held)
  (cl_Out:Cls K c_Out)
  (cl_Named:Cls K c_Named)
  (cl_Tree:Cls K c_Tree)
  (cl_Space:Cls K c_Space)
  (cl_Shape:Cls K c_Shape)
  (mk_Fresh:PySem.W.makesIn K c_Fresh=true)
  (kc_Fresh:PySem.W.keepIn K (.ref c_Fresh)=true)
  (md_NEEDED:PySem.W.nsIn K mainGlobals "NEEDED" = some (some (.ref d_NEEDED)))
  (ld_NEEDED:K.lookup d_NEEDED=some ⟨.type "dict",none,.dict des_NEEDED den_NEEDED,#[]⟩)
  (kd_NEEDED:PySem.W.KeysLit w.params des_NEEDED.toList)
  (sd_NEEDED:(d_NEEDED==sysModules)=false)
  (n_Fresh_rights:PySem.W.findIn K (.ref c_Fresh) "rights" = some none)
  (n_Held_frame:PySem.W.findIn K (.ref c_Held) "frame" = some none)
  (n_Held_rights:PySem.W.findIn K (.ref c_Held) "rights" = some none)
  (n_Leaf_rights:PySem.W.findIn K (.ref c_Leaf) "rights" = some none)
  (n_Named_name:PySem.W.findIn K (.ref c_Named) "name" = some none)
  (n_Named_part:PySem.W.findIn K (.ref c_Named) "part" = some none)
  (n_Named_rights:PySem.W.findIn K (.ref c_Named) "rights" = some none)
  (n_Out_rights:PySem.W.findIn K (.ref c_Out) "rights" = some none)
  (n_Out_slot:PySem.W.findIn K (.ref c_Out) "slot" = some none)
  (n_Shape_low:PySem.W.findIn K (.ref c_Shape) "low" = some none)
  (n_Shape_widths:PySem.W.findIn K (.ref c_Shape) "widths" = some none)
  (n_Space_shape:PySem.W.findIn K (.ref c_Space) "shape" = some none)
  (n_Space_task:PySem.W.findIn K (.ref c_Space) "task" = some none)
  (n_Space_tree:PySem.W.findIn K (.ref c_Space) "tree" = some none)
  (n_Tree_shape:PySem.W.findIn K (.ref c_Tree) "shape" = some none)
  (n_Tree_top:PySem.W.findIn K (.ref c_Tree) "top" = some none)
  (x_LeafError:PySem.W.excIn K c_LeafError bmV "ValueError.__new__" = true)
  (x_NoShape:PySem.W.excIn K c_NoShape bmV "ValueError.__new__" = true)
  (x_NoAddress:PySem.W.excIn K c_NoAddress bmV "ValueError.__new__" = true)
  (x_NoStretch:PySem.W.excIn K c_NoStretch bmV "ValueError.__new__" = true)
  (x_NoRights:PySem.W.excIn K c_NoRights bmV "ValueError.__new__" = true)
  (xl_Unmapped:XL K c_Unmapped)
  (xsa_Unmapped:PySem.W.findIn K (.ref c_Unmapped) "__setattr__" = some (some (.builtin "object.__setattr__")))
  (xno_Unmapped_address:PySem.W.findIn K (.ref c_Unmapped) "address" = some none)
  (xno_Unmapped_deed:PySem.W.findIn K (.ref c_Unmapped) "deed" = some none)
  (xno_Unmapped_task:PySem.W.findIn K (.ref c_Unmapped) "task" = some none)
  (xga_Unmapped:PySem.W.findIn K (.ref c_Unmapped) "__getattribute__" = some (some (.builtin "BaseException.__getattribute__")))
  (xgn_Unmapped:PySem.W.findIn K (.ref c_Unmapped) "__getattr__" = some none)
  (xl_Taken:XL K c_Taken)
  (xsa_Taken:PySem.W.findIn K (.ref c_Taken) "__setattr__" = some (some (.builtin "object.__setattr__")))
  (xno_Taken_page:PySem.W.findIn K (.ref c_Taken) "page" = some none)
  (bf_LeafError:PySem.W.findCls K (.ref c_LeafError) (.type "type") "__init__" = some (.val (.builtin "ValueError.__init__")))
  (rd_LeafError:PySem.W.readsIn K c_LeafError (.type "type")=true)
  (sg_LeafError:PySem.W.specialIn K (.ref c_LeafError) "__getattribute__" = some (some (.builtin "type.__getattribute__")))
  (v_NEEDED_read:PySem.W.nsIn K d_NEEDED "read" = some (some (.int 1 tkv_NEEDED_read)))
  (v_NEEDED_write:PySem.W.nsIn K d_NEEDED "write" = some (some (.int 2 tkv_NEEDED_write)))
  (g_MOST_WIDTH:PySem.W.nsIn K mainGlobals "MOST_WIDTH" = some (some (.int 24 tkc_MOST_WIDTH)))
  (g_MOST_LOW:PySem.W.nsIn K mainGlobals "MOST_LOW" = some (some (.int 6 tkc_MOST_LOW)))
  (g_MOST_PAGES:PySem.W.nsIn K mainGlobals "MOST_PAGES" = some (some (.int 64 tkc_MOST_PAGES)))
  (b_ValueError:PySem.W.nsIn K mainGlobals "ValueError" = some none)
  (b_all:PySem.W.nsIn K mainGlobals "all" = some none)
  (b_bool:PySem.W.nsIn K mainGlobals "bool" = some none)
  (b_int:PySem.W.nsIn K mainGlobals "int" = some none)
  (b_isinstance:PySem.W.nsIn K mainGlobals "isinstance" = some none)
  (b_len:PySem.W.nsIn K mainGlobals "len" = some none)
  (b_list:PySem.W.nsIn K mainGlobals "list" = some none)
  (b_min:PySem.W.nsIn K mainGlobals "min" = some none)
  (b_range:PySem.W.nsIn K mainGlobals "range" = some none)
  (b_reversed:PySem.W.nsIn K mainGlobals "reversed" = some none)
  (b_sorted:PySem.W.nsIn K mainGlobals "sorted" = some none)
  (b_str:PySem.W.nsIn K mainGlobals "str" = some none)
  (b_sum:PySem.W.nsIn K mainGlobals "sum" = some none)
  (b_tuple:PySem.W.nsIn K mainGlobals "tuple" = some none)
  (b_zip:PySem.W.nsIn K mainGlobals "zip" = some none)
  (i_Taken:XIs K c_Taken)
  (i_Unmapped:XIs K c_Unmapped)
  (i_NoAddress:XIs K c_NoAddress)
  (i_NoStretch:XIs K c_NoStretch)
  (i_NoRights:XIs K c_NoRights)
  (hn:PySem.W.specialIn K (.builtin "object.__class__") "__get__" = some (some (.builtin "getset_descriptor.__get__")))
  (htk:PySem.W.takesIn K (.builtin "object.__class__")=some true)
  (s_NoAddress:PySem.W.mroIn K c_NoAddress (.ref c_LeafError)=some true)
  (s_Unmapped:PySem.W.mroIn K c_Unmapped (.ref c_LeafError)=some true)
  (s_NoStretch:PySem.W.mroIn K c_NoStretch (.ref c_LeafError)=some true)
  (s_NoRights:PySem.W.mroIn K c_NoRights (.ref c_LeafError)=some true)
  (k_SS:PySem.W.kitOne K (.ref c_NoStretch) (.ref c_NoStretch)=some true)
  (k_SR:PySem.W.kitOne K (.ref c_NoStretch) (.ref c_NoRights)=some false)
  (k_SU:PySem.W.kitOne K (.ref c_NoStretch) (.ref c_Unmapped)=some false)
  (k_SV:PySem.W.kitOne K (.ref c_NoStretch) (.type "ValueError")=some true)
  (k_SN:PySem.W.kitAny K (.ref c_NoStretch) [.ref c_Barred,.ref c_NoAddress,.ref c_Taken]=some false)
  (k_RS:PySem.W.kitOne K (.ref c_NoRights) (.ref c_NoStretch)=some false)
  (k_RR:PySem.W.kitOne K (.ref c_NoRights) (.ref c_NoRights)=some true)
  (k_RU:PySem.W.kitOne K (.ref c_NoRights) (.ref c_Unmapped)=some false)
  (k_RV:PySem.W.kitOne K (.ref c_NoRights) (.type "ValueError")=some true)
  (k_RN:PySem.W.kitAny K (.ref c_NoRights) [.ref c_Barred,.ref c_NoAddress,.ref c_Taken]=some false)
  (k_US:PySem.W.kitOne K (.ref c_Unmapped) (.ref c_NoStretch)=some false)
  (k_UR:PySem.W.kitOne K (.ref c_Unmapped) (.ref c_NoRights)=some false)
  (k_UU:PySem.W.kitOne K (.ref c_Unmapped) (.ref c_Unmapped)=some true)
  (k_UV:PySem.W.kitOne K (.ref c_Unmapped) (.type "ValueError")=some true)
  (k_UN:PySem.W.kitAny K (.ref c_Unmapped) [.ref c_Barred,.ref c_NoAddress,.ref c_Taken]=some false)
  (k_AA:PySem.W.kitOne K (.ref c_NoAddress) (.ref c_NoAddress)=some true)
  (k_AV:PySem.W.kitOne K (.ref c_NoAddress) (.type "ValueError")=some true)
  (k_AN:PySem.W.kitAny K (.ref c_NoAddress) [.ref c_NoStretch,.ref c_NoRights,.ref c_Taken,.ref c_Barred,.ref c_Unmapped]=some false) :
  ∃fd:FuncData,(∀(s:Shared) (v:Value),BindsTo s fd ⟨[v],[]⟩ [("_law_script",v)])/\∀base:Heap,K.In base->base.Ns mainGlobals mg->FnOk l.prog w K mg base (CXE l.prog w) 11 fa fd ["_law_script"] (spLaw K):=by
 have e:=hfa.symm.trans (PySem.W.mg_of X G a60)
 cases e
 have T:Txt w K mg ⟨c_LeafError,c_NoShape,c_NoAddress,c_NoStretch,c_NoRights,c_Taken,c_Fault,c_Unmapped,c_Barred,c_Leaf,c_Fresh,c_Held,c_Out,c_Named,c_Tree,c_Space,c_Shape,d_NEEDED⟩:=⟨cl_Leaf,cl_Fresh,cl_Held,cl_Out,cl_Named,cl_Tree,cl_Space,cl_Shape,n_Fresh_rights,n_Held_frame,n_Held_rights,n_Leaf_rights,n_Named_name,n_Named_part,n_Named_rights,n_Out_rights,n_Out_slot,n_Shape_low,n_Shape_widths,n_Space_shape,n_Space_task,n_Space_tree,n_Tree_shape,n_Tree_top,x_LeafError,PySem.W.mg_of X G a_c_LeafError,x_NoShape,PySem.W.mg_of X G a_c_NoShape,x_NoAddress,PySem.W.mg_of X G a_c_NoAddress,x_NoStretch,PySem.W.mg_of X G a_c_NoStretch,x_NoRights,PySem.W.mg_of X G a_c_NoRights,PySem.W.mg_of X G a_c_Taken,PySem.W.mg_of X G a_c_Fault,PySem.W.mg_of X G a_c_Unmapped,PySem.W.mg_of X G a_c_Barred,PySem.W.mg_of X G a_c_Leaf,PySem.W.mg_of X G a_c_Fresh,PySem.W.mg_of X G a_c_Held,PySem.W.mg_of X G a_c_Out,PySem.W.mg_of X G a_c_Named,PySem.W.mg_of X G a_c_Tree,PySem.W.mg_of X G a_c_Space,PySem.W.mg_of X G a_c_Shape,xl_Unmapped,XSet.of xl_Unmapped xsa_Unmapped xno_Unmapped_address,XSet.of xl_Unmapped xsa_Unmapped xno_Unmapped_deed,XSet.of xl_Unmapped xsa_Unmapped xno_Unmapped_task,XGet.of xl_Unmapped xga_Unmapped xgn_Unmapped xno_Unmapped_address,XGet.of xl_Unmapped xga_Unmapped xgn_Unmapped xno_Unmapped_deed,XGet.of xl_Unmapped xga_Unmapped xgn_Unmapped xno_Unmapped_task,xl_Taken,XSet.of xl_Taken xsa_Taken xno_Taken_page,⟨sg_LeafError,⟨_,rd_LeafError,bf_LeafError⟩⟩,PySem.W.mg_of X G md_NEEDED,⟨⟨_,_,ld_NEEDED,kd_NEEDED⟩,sd_NEEDED⟩,⟨_,v_NEEDED_read⟩,⟨_,v_NEEDED_write⟩,⟨_,PySem.W.mg_of X G g_MOST_WIDTH⟩,⟨_,PySem.W.mg_of X G g_MOST_LOW⟩,⟨_,PySem.W.mg_of X G g_MOST_PAGES⟩,PySem.W.mg_none_of X G b_ValueError,PySem.W.mg_none_of X G b_all,PySem.W.mg_none_of X G b_bool,PySem.W.mg_none_of X G b_int,PySem.W.mg_none_of X G b_isinstance,PySem.W.mg_none_of X G b_len,PySem.W.mg_none_of X G b_list,PySem.W.mg_none_of X G b_min,PySem.W.mg_none_of X G b_range,PySem.W.mg_none_of X G b_reversed,PySem.W.mg_none_of X G b_sorted,PySem.W.mg_none_of X G b_str,PySem.W.mg_none_of X G b_sum,PySem.W.mg_none_of X G b_tuple,PySem.W.mg_none_of X G b_zip,i_Taken,i_Unmapped,i_NoAddress,i_NoStretch,i_NoRights,⟨hn,htk⟩,s_NoAddress,s_Unmapped,s_NoStretch,s_NoRights,k_SS,k_SR,k_SU,k_SV,k_SN,k_RS,k_RR,k_RU,k_RV,k_RN,k_US,k_UR,k_UU,k_UV,k_UN,k_AA,k_AV,k_AN⟩
 refine⟨PySem.W.fnOf "law" "law" (defArgs s_law) (defBody s_law) (defScope s_law) .none kV60 dc60 pm60 an60 cd60 ct60,fun s v=>.of_eq rfl,fun base _ _=>?_⟩
 have h__law_drawn:=ok__law_drawn (P:=l.prog) (base:=base) r30 T
 have h__law_widths:=ok__law_widths (P:=l.prog) (base:=base) r51 T h__law_drawn
 have h__law_cell_at:=ok__law_cell_at (P:=l.prog) (base:=base) r48 T
 have h_Tree___init__:=ok_Tree___init__ (P:=l.prog) (base:=base) r20 T
 have h_Space___init__:=ok_Space___init__ (P:=l.prog) (base:=base) r52 T h_Tree___init__
 have h_check_shape:=ok_check_shape (P:=l.prog) (base:=base) r1 T
 have h_Shape___init__:=ok_Shape___init__ (P:=l.prog) (base:=base) r53 T h_check_shape
 have h__law_name:=ok__law_name (P:=l.prog) (base:=base) r31 T
 have h__law_row:=ok__law_row (P:=l.prog) (base:=base) r49 T h__law_drawn h__law_name
 have h_check_inside:=ok_check_inside (P:=l.prog) (base:=base) r2 T
 have h_Shape_pages:=ok_Shape_pages (P:=l.prog) (base:=base) r3 T
 have h_Shape_size:=ok_Shape_size (P:=l.prog) (base:=base) r4 T
 have h_Shape_check_address:=ok_Shape_check_address (P:=l.prog) (base:=base) r5 T h_check_inside h_Shape_pages h_Shape_size
 have h_Shape_part_widths:=ok_Shape_part_widths (P:=l.prog) (base:=base) r6 T
 have h_Shape_cut:=ok_Shape_cut (P:=l.prog) (base:=base) r7 T h_Shape_check_address h_Shape_part_widths
 have h_Shape_address_of:=ok_Shape_address_of (P:=l.prog) (base:=base) r8 T h_check_inside h_Shape_pages h_Shape_size
 have h_Tree_indexes:=ok_Tree_indexes (P:=l.prog) (base:=base) r9 T h_Shape_cut h_Shape_address_of
 have h_Tree_put:=ok_Tree_put (P:=l.prog) (base:=base) r19 T h_Tree_indexes
 have h_Space_put:=ok_Space_put (P:=l.prog) (base:=base) r23 T h_Tree_put
 have h_check_rights:=ok_check_rights (P:=l.prog) (base:=base) r13 T
 have h_Fresh___init__:=hasMk (dvs:=[]) (ds:=[]) (fk_Leaf___init__ (P:=l.prog) (w:=w) (base:=base) l21 c21 T h_check_rights) ⟨mk_Fresh,fi_Fresh___init__,i21,kc_Fresh⟩ (.all (fun us hl=>match us,hl with | [_,_],_=>rfl)) .nil
 have hc_Leaf___init__:=hasCm (dvs:=[]) (ds:=[]) (fk_Leaf___init__ (P:=l.prog) (w:=w) (base:=base) l21 c21 T h_check_rights) ⟨sg_Leaf,⟨_,rd_Leaf,fc_Leaf___init__⟩,k21⟩ (.all (fun us hl=>match us,hl with | [_,_],_=>rfl)) .nil
 have h_Held___init__:=ok_Held___init__ (P:=l.prog) (base:=base) r14 T hc_Leaf___init__
 have h_Out___init__:=ok_Out___init__ (P:=l.prog) (base:=base) r15 T hc_Leaf___init__
 have h_Named___init__:=ok_Named___init__ (P:=l.prog) (base:=base) r16 T hc_Leaf___init__
 have h__law_leaf:=ok__law_leaf (P:=l.prog) (base:=base) r50 T h_Fresh___init__ h_Held___init__ h_Out___init__ h_Named___init__
 have h__law_filled:=ok__law_filled (P:=l.prog) (base:=base) r54 T h__law_cell_at h__law_row h_Space_put h__law_leaf
 have h_one_level_down:=ok_one_level_down (P:=l.prog) (base:=base) r12 T
 have h_Tree_rows:=ok_Tree_rows (P:=l.prog) (base:=base) r18 T h_one_level_down
 have h_Space_rows:=ok_Space_rows (P:=l.prog) (base:=base) r33 T h_Tree_rows
 have h__law_whole:=ok__law_whole (P:=l.prog) (base:=base) r32 T
 have h__law_like:=ok__law_like (P:=l.prog) (base:=base) r34 T h__law_whole
 have h_Fresh_row:=ok_Fresh_row (P:=l.prog) (base:=base) r35 T
 have h_Held_row:=ok_Held_row (P:=l.prog) (base:=base) r36 T
 have h_Out_row:=ok_Out_row (P:=l.prog) (base:=base) r37 T
 have h_Named_row:=ok_Named_row (P:=l.prog) (base:=base) r38 T
 have h__law_all:=ok__law_all (P:=l.prog) (base:=base) r45 T h_Space_rows h__law_whole h__law_like h_Fresh_row h_Held_row h_Out_row h_Named_row
 have h_Shape_stretch:=ok_Shape_stretch (P:=l.prog) (base:=base) r21 T h_Shape_pages
 have h_Tree_leaf:=ok_Tree_leaf (P:=l.prog) (base:=base) r17 T h_Tree_indexes
 have h_Space_leaf:=ok_Space_leaf (P:=l.prog) (base:=base) r22 T h_Tree_leaf
 have h_Unmapped___init__:=hasXi (dvs:=[]) (ds:=[]) (fk_Fault___init__ (P:=l.prog) (w:=w) (base:=base) l34 c34 T) (XInit.of xl_Unmapped fi_Unmapped___init__ i34) (.all (fun us hl=>match us,hl with | [_,_,_,_],_=>rfl)) .nil
 have h_Space_check_mapped:=ok_Space_check_mapped (P:=l.prog) (base:=base) r24 T h_Space_leaf h_Unmapped___init__ h_Shape_address_of
 have h_Tree_path_to:=ok_Tree_path_to (P:=l.prog) (base:=base) r10 T
 have h_prune:=ok_prune (P:=l.prog) (base:=base) r11 T
 have h_Tree_drop:=ok_Tree_drop (P:=l.prog) (base:=base) r25 T h_Tree_indexes h_Tree_path_to h_prune
 have h_Space_lift:=ok_Space_lift (P:=l.prog) (base:=base) r39 T h_Shape_stretch h_Space_check_mapped h_Tree_drop
 have h_Fresh_righted:=ok_Fresh_righted (P:=l.prog) (base:=base) r26 T h_Fresh___init__
 have h_Held_righted:=ok_Held_righted (P:=l.prog) (base:=base) r27 T h_Held___init__
 have h_Out_righted:=ok_Out_righted (P:=l.prog) (base:=base) r28 T h_Out___init__
 have h_Named_righted:=ok_Named_righted (P:=l.prog) (base:=base) r29 T h_Named___init__
 have h_Space_change:=ok_Space_change (P:=l.prog) (base:=base) r40 T h_Shape_stretch h_check_rights h_Space_check_mapped h_Space_put h_Fresh_righted h_Held_righted h_Out_righted h_Named_righted h_Space_leaf
 have h__law_done:=ok__law_done (P:=l.prog) (base:=base) r43 T h_Space_lift h_Space_change
 have h__law_code:=ok__law_code (P:=l.prog) (base:=base) r42 T
 have h__law_lifted:=ok__law_lifted (P:=l.prog) (base:=base) r44 T h__law_like h_Fresh_row h_Held_row h_Out_row h_Named_row
 have h__law_step:=ok__law_step (P:=l.prog) (base:=base) r55 T h__law_done h__law_code h__law_whole h__law_lifted
 have h_Taken___init__:=hasXi (dvs:=[]) (ds:=[]) (fk_Taken___init__ (P:=l.prog) (w:=w) (base:=base) l33 c33 T) (XInit.of xl_Taken fi_Taken___init__ i33) (.all (fun us hl=>match us,hl with | [_,_],_=>rfl)) .nil
 have h_Space_lay:=ok_Space_lay (P:=l.prog) (base:=base) r41 T h_Shape_stretch h_Space_leaf h_Taken___init__ h_Space_put
 have h__law_lay_refused:=ok__law_lay_refused (P:=l.prog) (base:=base) r46 T h_Space_lay h_Fresh___init__ h__law_code
 have h__law_outside:=ok__law_outside (P:=l.prog) (base:=base) r47 T h_Space_leaf h_Space_put h_Fresh___init__
 have h__law_edges:=ok__law_edges (P:=l.prog) (base:=base) r56 T h__law_all h__law_lay_refused h__law_outside
 exact ok_law l60 c60 T h__law_widths h__law_cell_at h__law_drawn h_Space___init__ h_Shape___init__ h__law_filled h__law_all h__law_step h__law_edges h_Space_put h_Fresh___init__ h_Fresh_row h_Held_row h_Out_row h_Named_row
theorem walk {l:PySem.W.OpenLaw}{q:Program}{loose:List Str}{XP:(Str->Option Value)->Heap->Prop}{YP:World->Heap->Prop}{d:DefRec}{K:Params->PySem.W.Frag}(hn:l.most=some 63)(hdf:d.params.defaults=[])
  (hY:∀(w:World) (h:Heap),YP w h->(K w.params).In h)
  (F:∀(w:World) (mg:Str->Option Value) (fa:Addr) (h:Heap),(K w.params).In h->h.Ns mainGlobals mg->mg d.name=some (.ref fa) ->
   ∃fd:FuncData,(∀(s:Shared) (u:Value),BindsTo s fd ⟨[u],[]⟩ [("_law_script",u)])/\∀base:Heap,(K w.params).In base->base.Ns mainGlobals mg->FnOk l.prog w (K w.params) mg base (CXE l.prog w) 11 fa fd ["_law_script"] (spLaw (K w.params))) :
  PySem.W.WalkO q loose XP YP l.row.toRowW d [] (fun f vs=>PySem.call f vs) :=
 L2.walk_of (n:=63) (k:=11) (x := "_law_script") (CX:=fun w=>CXE l.prog w) (sp:=fun w=>spLaw (K w.params)) hn (by decide) hdf ⟨rfl,by decide,by decide⟩ hY F (fun _ _ a ns hl _ hS=>⟨a,ns,rfl,hS,hl,fun _=>rfl⟩) fun _ _ _ _ _ z=>by
  obtain⟨_,_,_,_,_,_,_,_,_,_,q⟩:=z
  exact q
end K18

set_option maxHeartbeats 4000000
local macro_rules | `(tactic| walk_at "bu") => `(tactic| first | exact fun _ _ _ _ _ _ => L2.u1 fun _ => rfl | exact fun _ _ _ _ _ _ => L2.u2 fun _ _ => rfl | exact fun _ _ _ _ _ _ => L2.u3 fun _ _ _ => rfl | exact fun _ _ _ _ _ _ => L2.u4 fun _ _ _ _ => rfl | exact fun _ _ _ _ _ _ => L2.u5 fun _ _ _ _ _ => rfl | exact fun _ _ _ _ _ _ => L2.u6 fun _ _ _ _ _ _ => rfl | exact fun _ _ _ _ _ _ => L2.u7 fun _ _ _ _ _ _ _ => rfl | exact fun _ _ _ _ _ _ => L2.u0 rfl)
local macro_rules | `(tactic| walk_at "zz") => `(tactic| first | (with_reducible show (_ == PySem.sysModules) = false; exact rfl) | (refine' L2.RawM.of ?a ?l ?c ?k ?i ?b; (case a => k_is); (case l => k_is); (case c => k_is); (case k => k_is); (case i => k_is); (case b => walk_at "bu")) | (refine' L2.RawF.of (by assumption) (by assumption) ?a ?l ?c ?k ?b; (case a => k_is); (case l => k_is); (case c => k_is); (case k => k_is); (case b => walk_at "bu")) | (refine' L2.RawI.of ?a ?l ?c ?k ?i ?j ?b; (case a => k_is); (case l => k_is); (case c => k_is); (case k => k_is); (case i => k_is); (case j => k_is); (case b => walk_at "bu")) | (refine' L2.Cls.mk ?a ?b ?c ?d <;> k_is) | (refine' L2.XIs.mk ?a ?b ?c ?d ?e ?f <;> k_is) | (refine' L2.XL.mk' ?a ?b; (case a => k_is); (case b => first | rfl | decide +kernel)) | k_is | kit_is | k_exc | k_keys | rfl)
open PySem PySem.W PyProof.Rows
namespace PySem.W.Fast
theorem tw2130207681466542760:True:=trivial
theorem tw10741717319918139661:True:=trivial
theorem tw1223573075832199337:True:=trivial
theorem tw17635766189206109896:True:=trivial
theorem tw14473198003860976082:True:=trivial
theorem tw14567266576593166079:True:=trivial
theorem tw9007658172567763256:True:=trivial
theorem tw9773347364925922621:True:=trivial
theorem tw11420109200610570571:True:=trivial
theorem tw7698613373835026427:True:=trivial
theorem tw10293251618855816851:True:=trivial
theorem tw1386143847287664598:True:=trivial
theorem tw15708461017163171790:True:=trivial
theorem tw17095863067282463334:True:=trivial
theorem tw16045450509022294947:True:=trivial
theorem tw10578343865496856626:True:=trivial
theorem tw7162558419087058121:True:=trivial
theorem tw4475983955151194991:True:=trivial
theorem tw15162919065574254336:True:=trivial
theorem tw7598447572291283644:True:=trivial
theorem tw1641000335037489913:True:=trivial
theorem tw2527046708106438221:True:=trivial
theorem tw17541194263521037841:True:=trivial
theorem tw3587835794560077197:True:=trivial
theorem tw17624394353443440574:True:=trivial
theorem tw10985231579813628264:True:=trivial
theorem tw3421074952011521994:True:=trivial
theorem tw4660379030388635195:True:=trivial
theorem tw13785795973990122923:True:=trivial
theorem tw12364174094809817073:True:=trivial
theorem tw10394941357120333305:True:=trivial
theorem tw14048880975111317546:True:=trivial
theorem tw13969862588143840174:True:=trivial
theorem tw12896456304681612314:True:=trivial
theorem tw6564612881166515612:True:=trivial
theorem tw935660635497143813:True:=trivial
theorem tw9641327679262387809:True:=trivial
theorem tw5030792377668096640:True:=trivial
theorem tw7609591658212659765:True:=trivial
theorem tw8567044310695760209:True:=trivial
theorem tw2039588077260314612:True:=trivial
theorem tw13432738611048094462:True:=trivial
theorem tw9639566604695071779:True:=trivial
theorem tw14556794881285375395:True:=trivial
theorem tw6476036879875433081:True:=trivial
theorem tw13221731221973926937:True:=trivial
theorem tw17811610437971728483:True:=trivial
theorem tw2840431161468031138:True:=trivial
theorem tw3323585421854391776:True:=trivial
theorem tw19306994141442874:True:=trivial
theorem tw11743911187098919490:True:=trivial
theorem tw261959662290595381:True:=trivial
theorem tw15548186833458247916:True:=trivial
theorem tw2573855200690003723:True:=trivial
theorem tw2320921455568647739:True:=trivial
theorem tw1812945568385667841:True:=trivial
theorem tw7535259305266965608:True:=trivial
theorem tw3671005381931977079:True:=trivial
theorem tw10832955728021853492:True:=trivial
theorem tw240390558707078401:True:=trivial
theorem tw15280819250735436879:True:=trivial
theorem tw12934702870003908520:True:=trivial
theorem tw12290179552129998373:True:=trivial
theorem tw17451071811501012524:True:=trivial
theorem tw16887726280263128113:True:=trivial
theorem tw3992357508749228762:True:=trivial
theorem tw9304879964268732431:True:=trivial
theorem tw15346080723122605677:True:=trivial
theorem tw776239840989377234:True:=trivial
theorem tw16163786692152718641:True:=trivial
theorem tw5997892573845441132:True:=trivial
theorem tw13203479194235667077:True:=trivial
theorem tw1507462619801027786:True:=trivial
theorem tw10559899258365152958:True:=trivial
theorem tw5553622201745727352:True:=trivial
theorem tw16277827638868051444:True:=trivial
theorem tw11093694519626958984:True:=trivial
theorem tw9916048990005720941:True:=trivial
theorem tw6782533557987476333:True:=trivial
theorem tw4937106665090130124:True:=trivial
theorem tw4608742320059933600:True:=trivial
theorem tw3306036861307076213:True:=trivial
theorem tw11813995702767256793:True:=trivial
theorem tw1329531503848867706:True:=trivial
theorem tw3192492588617484076:True:=trivial
theorem tw17666389688782918052:True:=trivial
theorem tw3090311710159151139:True:=trivial
theorem tw10093930085581985812:True:=trivial
theorem tw8440138553966790720:True:=trivial
theorem tw3785012612477264862:True:=trivial
theorem tw16308715719897820908:True:=trivial
theorem tw7406024052793114519:True:=trivial
theorem tw17033410287031897166:True:=trivial
theorem tw6641196010852051182:True:=trivial
theorem tw7282045173665384366:True:=trivial
theorem tw15364134709775826026:True:=trivial
theorem tw6539267222927889617:True:=trivial
theorem tw3137049509750298802:True:=trivial
theorem tw7212442782170312355:True:=trivial
theorem tw13620142342546844435:True:=trivial
theorem tw1310076234838521947:True:=trivial
theorem tw13824639824799662128:True:=trivial
theorem tw14110512398333388700:True:=trivial
theorem tw16886706366802355213:True:=trivial
theorem tw4488489411148757025:True:=trivial
theorem tw8723619792642057948:True:=trivial
theorem tw598783598159180302:True:=trivial
theorem tw17650676121089454463:True:=trivial
theorem tw9394122550728012893:True:=trivial
theorem tw11222848927109283098:True:=trivial
theorem tw8473959572742092023:True:=trivial
theorem tw5294252576624366282:True:=trivial
theorem tw6184647542077929113:True:=trivial
theorem tw14706598175140303379:True:=trivial
theorem tw14484513728372965722:True:=trivial
theorem tw4762038684881695606:True:=trivial
theorem tw15676566263094996075:True:=trivial
theorem tw1471893258317401711:True:=trivial
theorem tw2617171852968758428:True:=trivial
theorem tw1971531038101542021:True:=trivial
theorem tw4147393368505312584:True:=trivial
theorem tw9577194630886415566:True:=trivial
theorem tw792674553205406654:True:=trivial
theorem tw11858750803452737422:True:=trivial
theorem tw10658875304173554152:True:=trivial
theorem tw14622699165182853589:True:=trivial
theorem tw895590341341902458:True:=trivial
theorem tw6947965680427729779:True:=trivial
theorem tw9207116523982716743:True:=trivial
theorem tw1722043356292942185:True:=trivial
theorem tw4437015953422004631:True:=trivial
theorem tw6896224499186126481:True:=trivial
theorem tw18395040805649396183:True:=trivial
theorem tw17689832084165096242:True:=trivial
theorem tw17804448837033365717:True:=trivial
theorem tw4199852925217770453:True:=trivial
theorem tw15983356696941066609:True:=trivial
theorem tw3600976975377877161:True:=trivial
theorem tw5015482655658577772:True:=trivial
theorem tw12144952338019439437:True:=trivial
theorem tw15644525693615927872:True:=trivial
theorem tw9199579444444450283:True:=trivial
theorem tw14136937583871012350:True:=trivial
theorem tw10835870062333802599:True:=trivial
theorem tw14272088435600851924:True:=trivial
theorem tw17407118719783351951:True:=trivial
end PySem.W.Fast
set_option maxHeartbeats 0 in
theorem PySem.Challenge.cw_leafframe_k18_lift_and_change_holds : PySem.Challenge.rw_leafframe_k18_lift_and_change.Holds := by
 w_on;o_law;k_head;(case hw=>w_witness2)
 k_fill
 refine K18.walk (l:=PySem.Challenge.rw_leafframe_k18_lift_and_change) rfl rfl (fun w h Y=>PySem.W.kIn_of Y) ?F
 case F =>
  intro w mg fa h KX G hmg
  refine' K18.all_mk KX G hmg ?_ ?_ ?_ ?_ ?_ ?_ ?_ ?_ ?_ ?_ ?_ ?_ ?_ ?_ ?_ ?_ ?_ ?_ ?_ ?_ ?_ ?_ ?_ ?_ ?_ ?_ ?_ ?_ ?_ ?_ ?_ ?_ ?_ ?_ ?_ ?_ ?_ ?_ ?_ ?_ ?_ ?_ ?_ ?_ ?_ ?_ ?_ ?_ ?_ ?_ ?_ ?_ ?_ ?_ ?_ ?_ ?_ ?_ ?_ ?_ ?_ ?_ ?_ ?_ ?_ ?_ ?_ ?_ ?_ ?_ ?_ ?_ ?_ ?_ ?_ ?_ ?_ ?_ ?_ ?_ ?_ ?_ ?_ ?_ ?_ ?_ ?_ ?_ ?_ ?_ ?_ ?_ ?_ ?_ ?_ ?_ ?_ ?_ ?_ ?_ ?_ ?_ ?_ ?_ ?_ ?_ ?_ ?_ ?_ ?_ ?_ ?_ ?_ ?_ ?_ ?_ ?_ ?_ ?_ ?_ ?_ ?_ ?_ ?_ ?_ ?_ ?_ ?_ ?_ ?_ ?_ ?_ ?_ ?_ ?_ ?_ ?_ ?_ ?_ ?_ ?_ ?_ ?_ ?_ ?_ ?_ ?_ ?_ ?_ ?_ ?_ ?_ ?_ ?_ ?_ ?_ ?_ ?_ ?_ ?_ ?_ ?_ ?_ ?_ ?_ ?_ ?_ ?_ ?_ ?_ ?_ ?_ ?_ ?_ ?_ ?_ ?_ ?_ ?_ ?_ ?_ ?_ ?_ ?_ ?_ ?_ ?_ ?_ ?_ ?_ ?_ ?_
  all_goals first | walk_at "zz" | skip
  all_goals first | rfl | exact rfl | decide
