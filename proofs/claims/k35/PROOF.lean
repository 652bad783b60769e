import PyProof.Rows.All
import Wide.All
import Wide.FinOn
import Lean
import PyProof.EqAt
import PyProof.EqKinds
import PyProof.TupleCall
import PyProof.StationsW
import PyProof.ExcClass2
import PyProof.ExcArgs
import PyProof.ExcArgsOwn
import PyProof.CompFree
import PyProof.CompMap
import PyProof.CompUse
import KE.LcSums
import KE.KUnpack
import KE.KDictSum
import KE.KDictLaws
import PyProof.Rows.BitMore
import KE.BitLaws
import KE.KBits
import PyProof.LongRange
import PyProof.ListRange
import KE.IntBitsLaws
import KE.KRevIter
import PyProof.Rows.Tup
import PyProof.CollectIter
import PyProof.TupleOfGen
import PyProof.DictWalks
import PyProof.StrWalks
import PyProof.ZipIter
import PyProof.TupleIter
import PyProof.WalksMore
import KE.KTurns
import PyProof.Rows.SortStr
import KE.KSortTup
import PyProof.Rows.StrClose5
import PyProof.Rows.StrClose3
import PyProof.ExcInit
import PyProof.InstStore
import PyProof.InstLoad
import PyProof.InstStoreFacts
import KE.KDictOf
import PyProof.FactsAll.range_2
import OpenK.KLine
import KE.RegKIsAll
import PySem.Challenge.RW_leafframe_k35_tasks_numbered
set_option Elab.async false
set_option linter.all false
set_option maxRecDepth 100000
namespace L2
open PySem PySem.Spec PyProof.Rows
abbrev Key:=Sum Int Str
def j7:Key->Value->Bool
  | .inl k,v=>Value.isInt k v
  | .inr x,v=>Value.isStrOf x v
def vj (w:World): Key->Int
  | .inl k=>hashInt k
  | .inr x=>hashStr w x
theorem a5:∀{k:Key} {v:Value},j7 k v=true->(∃i t,k=Sum.inl i/\v=Value.int i t)\/(∃x t,k=Sum.inr x/\v=Value.str x t)
  | .inl i,v,h=>by
    obtain⟨t,e⟩:=Value.isInt_shape (k:=i) (v:=v) h
    exact .inl ⟨i,t,rfl,e⟩
  | .inr x,v,h=>by
    obtain⟨t,e⟩:=Value.isStrOf_shape (x:=x) (v:=v) h
    exact .inr ⟨x,t,rfl,e⟩
theorem oq (i:Int)(t:Tok): j7 (.inl i) (.int i t)=true:=by simp[j7,Value.isInt]
theorem ou (x:Str)(t:Tok): j7 (.inr x) (.str x t)=true:=by simp[j7,Value.isStrOf]
theorem rV (a b:Int): decide ((Sum.inl a:Key)=Sum.inl b)=(a==b):=by
  by_cases e:a=b
  · subst e;simp
  · have h:¬(Sum.inl a:Key)=Sum.inl b:=fun q=>e (Sum.inl.inj q)
    rw[decide_eq_false h]
    exact(beq_eq_false_iff_ne.mpr e).symm
theorem rW (a b:Str): decide ((Sum.inr a:Key)=Sum.inr b)=decide (a=b):=by
  by_cases e:a=b
  · subst e;simp
  · have h:¬(Sum.inr a:Key)=Sum.inr b:=fun q=>e (Sum.inr.inj q)
    rw[decide_eq_false h,decide_eq_false e]
theorem rY (a:Int)(b:Str): decide ((Sum.inl a:Key)=Sum.inr b)=false:=decide_eq_false (fun q=>nomatch q)
theorem rZ (a:Str)(b:Int): decide ((Sum.inr a:Key)=Sum.inl b)=false:=decide_eq_false (fun q=>nomatch q)
def bq (prog:Program)(w:World): PySem.KeyKind prog w Key where
  is:=j7
  hash:=vj w
  inj:=fun v a b ha hb=>by
    rcases a5 ha with ⟨i,t,rfl,rfl⟩ | ⟨x,t,rfl,rfl⟩
    · rcases a5 hb with ⟨j,u,rfl,e⟩ | ⟨y,u,rfl,e⟩
      · injection e with e1 _;rw[e1]
      · exact nomatch e
    · rcases a5 hb with ⟨j,u,rfl,e⟩ | ⟨y,u,rfl,e⟩
      · exact nomatch e
      · injection e with e1 _;rw[e1]
  byValue:=fun k v h=>by
    rcases a5 h with ⟨i,t,rfl,rfl⟩ | ⟨x,t,rfl,rfl⟩<;>rfl
  pyHash:=fun hv h=>by
    rcases a5 hv with ⟨i,t,rfl,rfl⟩ | ⟨x,t,rfl,rfl⟩
    · exact wpAny_pyHash_int h
    · exact wpAny_pyHash_str h
  eqBool:=fun hu hv h=>by
    rcases a5 hu with ⟨i,t,rfl,rfl⟩ | ⟨x,t,rfl,rfl⟩
    · rcases a5 hv with ⟨j,u,rfl,rfl⟩ | ⟨y,u,rfl,rfl⟩
      · rw[rV] at h;exact wpAny_eqBool_int h
      · rw[rY] at h;exact SeqAt.EqAt.int_str i t y u _ _ _ _ h
    · rcases a5 hv with ⟨j,u,rfl,rfl⟩ | ⟨y,u,rfl,rfl⟩
      · rw[rZ] at h;exact SeqAt.EqAt.str_int x t j u _ _ _ _ h
      · rw[rW] at h;exact wpAny_eqBool_str h
  «strs» := fun k x t v h=>by
    rcases a5 h with ⟨i,u,rfl,e⟩ | ⟨y,u,rfl,e⟩
    · exact nomatch e
    · injection e with e1 _
      subst e1
      cases v<;>rfl
theorem lL (prog:Program)(w:World)(i:Int)(t:Tok): (bq prog w).is (.inl i) (.int i t)=true:=oq i t
theorem lM (prog:Program)(w:World)(x:Str)(t:Tok): (bq prog w).is (.inr x) (.str x t)=true:=ou x t
end L2
namespace L2
open PySem PySem.Spec PyProof.Rows
inductive V where
  | non | bl (b:Bool) | int (i:Int) | str (x:Str) | byt (b:Array UInt8) | flt (b:UInt64) | ref (a:Addr) | ty (n:String)
  deriving DecidableEq
def RelV:V->Value->Prop
  | .non,u=>u=Value.none
  | .bl b,u=>u=Value.bool b
  | .int i,u=>∃t,u=Value.int i t
  | .str x,u=>∃t,u=Value.str x t
  | .byt b,u=>∃t,u=Value.bytes b t
  | .flt b,u=>∃t,u=Value.float b t
  | .ref a,u=>u=Value.ref a
  | .ty n,u=>u=Value.type n
abbrev Vals:List V->List Value->Prop:=Paired RelV
theorem Vals.length {xs:List V}{us:List Value}(r:Vals xs us): xs.length=us.length:=Paired.length r
theorem Vals.get:∀{xs:List V} {us:List Value} {i:Nat} {x:V},Vals xs us->xs[i]?=some x->∃u,us[i]?=some u/\RelV x u
  | _,_,_,_,.nil,e=>by simp at e
  | _,_,0,_,.cons r _,e=>by simp at e;subst e;exact⟨_,rfl,r⟩
  | _,_,i+1,x,.cons _ t,e=>by
    obtain⟨u,h1,h2⟩:=Vals.get (i:=i) (x:=x) t (by simpa using e)
    exact⟨u,by simpa using h1,h2⟩
theorem Vals.set {x:V}{u:Value}(r:RelV x u): ∀{xs:List V} {us:List Value} (i:Nat),Vals xs us->Vals (xs.set i x) (us.set i u)
  | _,_,_,.nil=>.nil
  | _,_,0,.cons _ t=>.cons r t
  | _,_,i+1,.cons q t=>.cons q (Vals.set r i t)
theorem Vals.append:∀{xs ys:List V} {us ws:List Value},Vals xs us->Vals ys ws->Vals (xs++ys) (us++ws)
  | _,_,_,_,.nil,s=>s
  | _,_,_,_,.cons r t,s=>.cons r (Vals.append t s)
theorem Vals.take:∀{xs:List V} {us:List Value} (n:Nat),Vals xs us->Vals (xs.take n) (us.take n)
  | _,_,0,_=>.nil
  | _,_,_+1,.nil=>.nil
  | _,_,n+1,.cons r t=>.cons r (Vals.take n t)
theorem Vals.drop:∀{xs:List V} {us:List Value} (n:Nat),Vals xs us->Vals (xs.drop n) (us.drop n)
  | _,_,0,r=>r
  | _,_,_+1,.nil=>.nil
  | _,_,n+1,.cons _ t=>Vals.drop n t
def eX:Option V->Option Value->Prop
  | some v,some u=>RelV v u
  | none,none=>True
  | _,_=>False
def KV {κ:Type}: List (κ×V)->List (κ×Value)->Prop:=Paired fun (p:κ×V) (q:κ×Value)=>p.1=q.1/\RelV p.2 q.2
def kV:Key->V
  | .inl i=>.int i
  | .inr x=>.str x
inductive HO where
  | lst (xs:List V)
  | tup (xs:List V)
  | dK (kvs:List (Key×V)) | dT (kvs:List (List Key×V))
  | set (S:Int->Bool) (n:Nat)
  | ins (C dx:Addr) (fs:List (Str×V))
  | own (x:Addr)
  | xd (fs:List (Str×V))
  | met (f x:Addr)
  | rng (lo hi:Int)
  | frz (o:Obj) (u:HO)
  | tbl (ps:Array Value)
  | ext (φ:Heap->Prop)
abbrev Hp:=Addr->Option HO
def upd (H:Hp)(a:Addr)(o:HO): Hp:=fun b=>if b=a then some o else H b
theorem ai {H:Hp}{a:Addr}{o:HO}: upd H a o a=some o:=by unfold upd;rw[if_pos rfl]
theorem au {H:Hp}{a b:Addr}{o:HO}(h:b≠a): upd H a o b=H b:=by unfold upd;rw[if_neg h]
theorem nE {H:Hp}{a:Addr}{o u:HO}: upd (upd H a o) a u=upd H a u:=by
  funext b;unfold upd;split<;>rfl
theorem cC {H:Hp}{a b:Addr}{o u:HO}(h:H a=some o)(h':H b=some u)(d:o≠u): a≠b:=by
  intro e;subst e;rw[h] at h';exact d (Option.some.inj h')
theorem aw {H:Hp}{a b:Addr}{o:HO}(h:H a=some o)(h':H b=none): a≠b:=by
  intro e;subst e;rw[h] at h';cases h'
section
variable (P:Program)(w:World)
def aV (H:Hp)(h:Heap)(a:Addr): HO->Prop
  | .lst xs=>xs.length<=sizeLine/\∃(its:List Value) (n:Nat),Vals xs its/\h.get? a=some { cls:=.type "list",data:=.seq its.toArray n }
  | .tup xs=>xs.length<=sizeLine/\∃its:List Value,Vals xs its/\IsTup h a its.toArray
  | .dK kvs=>kvs.length<=sizeLine/\(a==sysModules)=false/\∃vs,KV kvs vs/\h.DictOf (bq P w) a vs
  | .dT kvs=>kvs.length<=sizeLine/\(a==sysModules)=false/\∃xs:List (List Key×Addr×Value),
      Paired (fun (p:List Key×V) (q:List Key×Addr×Value)=>p.1=q.1/\H q.2.1=some (.tup (p.1.map kV))/\RelV p.2 q.2.2) kvs xs ∧
      ∃o es ep,h.get? a=some o/\o.ExactDict/\o.data=.dict es ep/\es.toList=xs.map (entryOfKey (tupleKind (bq P w)))/\(xs.map (·.1)).Nodup
  | .set S n=>h.SetOf (intKind P w) a S n
  | .ins C dx fs=>H dx=some (.own a)/\fs.length<=1000/\dx≠a/\h.get? a=some (PySem.W.instObj C dx) ∧
      ∃mA,h.Ns1 dx mA/\(∀f,eX (fs.lookup f) (mA f))/\PySem.Within mA (fs.map (·.1))
  | .own _=>∃o,h.get? a=some o
  | .xd fs=>∃mA,h.Ns1 a mA/\∀f,eX (fs.lookup f) (mA f)
  | .rng lo hi=>∃t u v,h.get? a=some { cls:=.type "range",data:=.fields #[.int lo t,.int hi u,.int 1 v] }
  | .frz o u=>h.get? a=some o/\aV H h a u
  | .tbl ps=>h.get? a=some { cls:=.none,data:=.fields ps }
  | .met f x=>h.get? a=some (PySem.W.methodObj (.ref f) (.ref x))
  | .ext φ=>φ h/\(∃o,h.get? a=some o)/\∀h1 h2:Heap,φ h1->(∀o,h1.get? a=some o->h2.get? a=some o)->φ h2
def HOk (H:Hp)(h:Heap): Prop:=∀a o,H a=some o->aV P w H h a o
end
section
variable {P:Program}{w:World}{H H':Hp}{h h':Heap}{a:Addr}{o:HO}
theorem aV.lt (x:aV P w H h a o): a < h.objs.size:=by
  cases o with
  | lst xs=>obtain⟨_,_,_,_,e⟩:=x;exact Heap.lt_size e
  | tup xs=>obtain⟨_,_,_,p⟩:=x;exact p.lt
  | dK kvs=>obtain⟨_,_,_,_,o,_,_,e,_⟩:=x;exact Heap.lt_size e
  | dT kvs=>obtain⟨_,_,_,_,o,_,_,e,_⟩:=x;exact Heap.lt_size e
  | set S n=>obtain⟨o,_,_,_,e,_⟩:=x;exact Heap.lt_size e
  | ins C dx fs=>obtain⟨_,_,_,e,_⟩:=x;exact Heap.lt_size e
  | own y=>obtain⟨_,e⟩:=x;exact Heap.lt_size e
  | xd fs=>obtain⟨_,⟨_,_,_,e,_⟩,_⟩:=x;exact Heap.lt_size e
  | rng lo hi=>obtain⟨_,_,_,e⟩:=x;exact Heap.lt_size e
  | frz ob u=>obtain⟨e,_⟩:=x;exact Heap.lt_size e
  | tbl ps=>exact Heap.lt_size (show h.get? a=some _ from x)
  | met f y=>exact Heap.lt_size (show h.get? a=some _ from x)
  | ext φ=>obtain⟨_,⟨_,e⟩,_⟩:=x;exact Heap.lt_size e
theorem Paired.sd {α β:Type}{F G:α->β->Prop}: ∀{l₁:List α} {l₂:List β},Paired F l₁ l₂->(∀a b,F a b->G a b)->Paired G l₁ l₂
  | _,_,.nil,_=>.nil
  | _,_,.cons r t,f=>.cons (f _ _ r) (Paired.sd t f)
theorem aV.stay (x:aV P w H h a o)(k:∀b u,(b=a\/H b=some (.own a))->h.get? b=some u->h'.get? b=some u)
    (ho:∀b,H b=some (.own a)->H' b=some (.own a)) (ht:∀b xs,H b=some (.tup xs)->H' b=some (.tup xs)):aV P w H' h' a o:=by
  induction o with
  | lst xs=>obtain⟨z,its,n,r,e⟩:=x;exact⟨z,its,n,r,k _ _ (.inl rfl) e⟩
  | tup xs=>obtain⟨z,its,r,ob,e,c⟩:=x;exact⟨z,its,r,ob,k _ _ (.inl rfl) e,c⟩
  | dK kvs=>obtain⟨z,y,vs,r,ob,es,ep,e,c⟩:=x;exact⟨z,y,vs,r,ob,es,ep,k _ _ (.inl rfl) e,c⟩
  | dT kvs =>
    obtain⟨z,y,xs,r,ob,es,ep,e,c⟩:=x
    exact⟨z,y,xs,Paired.sd r fun p q z=>⟨z.1,ht _ _ z.2.1,z.2.2⟩,ob,es,ep,k _ _ (.inl rfl) e,c⟩
  | set S n=>obtain⟨ob,es,ep,t,e,c⟩:=x;exact⟨ob,es,ep,t,k _ _ (.inl rfl) e,c⟩
  | ins C dx fs =>
    obtain⟨d,z,ne,e,mA,⟨od,es,ep,e2,c⟩,r⟩:=x
    exact⟨ho _ d,z,ne,k _ _ (.inl rfl) e,mA,⟨od,es,ep,k _ _ (.inr d) e2,c⟩,r⟩
  | own y=>obtain⟨ob,e⟩:=x;exact⟨ob,k _ _ (.inl rfl) e⟩
  | xd fs=>obtain⟨mA,⟨od,es,ep,e,c⟩,r⟩:=x;exact⟨mA,⟨od,es,ep,k _ _ (.inl rfl) e,c⟩,r⟩
  | rng lo hi=>obtain⟨t,u,v,e⟩:=x;exact⟨t,u,v,k _ _ (.inl rfl) e⟩
  | frz ob u ih=>obtain⟨e,q⟩:=x;exact⟨k _ _ (.inl rfl) e,ih q⟩
  | tbl ps =>
    have e:h.get? a=some { cls:=.none,data:=.fields ps }:=x
    show h'.get? a=some { cls:=.none,data:=.fields ps }
    exact k a _ (.inl rfl) e
  | met f y =>
    have e:h.get? a=some (PySem.W.methodObj (.ref f) (.ref y)):=x
    show h'.get? a=some (PySem.W.methodObj (.ref f) (.ref y))
    exact k a _ (.inl rfl) e
  | ext φ=>obtain⟨p,⟨o,e⟩,st⟩:=x;exact⟨st _ _ p fun o q=>k _ _ (.inl rfl) q,⟨o,k _ _ (.inl rfl) e⟩,st⟩
theorem HOk.lt (x:HOk P w H h)(e:H a=some o): a < h.objs.size:=(x a o e).lt
theorem HOk.fresh (x:HOk P w H h)(e:h.objs.size<=a): H a=none:=by
  cases q:H a with
  | none=>rfl
  | some u=>exact absurd (Nat.lt_of_lt_of_le (x.lt q) e) (Nat.lt_irrefl _)
theorem HOk.kept (x:HOk P w H h)(k:∀b u,h.get? b=some u->h'.get? b=some u): HOk P w H h':=fun a o e =>
  (x a o e).stay (fun b u _ q=>k b u q) (fun _ q=>q) fun _ _ q=>q
theorem HOk.laid (x:HOk P w H h)(k:∀b u,h.get? b=some u->h'.get? b=some u)(hp:h.objs.size<=a)(new:aV P w (upd H a o) h' a o): HOk P w (upd H a o) h':=fun b u e=>by
  have hn:=x.fresh hp
  by_cases hb:b=a
  · subst hb;rw[ai] at e;cases e;exact new
  · rw[au hb] at e
    exact(x b u e).stay (fun c v _ q=>k c v q) (fun c q=>by rw[au (aw q hn)];exact q) fun c xs q=>by rw[au (aw q hn)];exact q
end
def Rd (H:Hp)(a:Addr)(u:HO): Prop:=H a=some u\/∃o,H a=some (.frz o u)
theorem Rd.ok {P:Program}{w:World}{H:Hp}{h:Heap}{a:Addr}{u:HO}(r:Rd H a u)(x:HOk P w H h): aV P w H h a u:=by
  rcases r with r | ⟨o,r⟩
  · exact x a u r
  · obtain⟨_,q⟩:=x a _ r
    exact q
def Mut:Option HO->Prop
  | some (.lst _)=>True
  | some (.dK _)=>True
  | some (.dT _)=>True
  | some (.set _ _)=>True
  | some (.ins _ _ _)=>True
  | some (.ext _)=>True
  | _=>False
section
variable {P:Program}{w:World}{H:Hp}{h h':Heap}{x e:Addr}{o':HO}
theorem HOk.write (ok:HOk P w H h)(mu:Mut (H x))(he:e=x\/H e=some (.own x))(k:∀b u,b≠e->h.get? b=some u->h'.get? b=some u)(heo:∃u,h'.get? e=some u)
    (new:aV P w (upd H x o') h' x o'):HOk P w (upd H x o') h':=fun b u q=>by
  have tY:∀c y,H c=some (.own y)->c≠x:=fun c y r z=>by subst z;rw[r] at mu;exact mu
  have vk:∀c xs,H c=some (.tup xs)->c≠x:=fun c xs r z=>by subst z;rw[r] at mu;exact mu
  by_cases hb:b=x
  · subst hb;rw[ai] at q;cases q;exact new
  · rw[au hb] at q
    by_cases hbe:b=e
    · have q':H b=some (.own x):=by
        rcases he with z | z
        · exact absurd (hbe.trans z) hb
        · rw[hbe];exact z
      rw[q] at q';cases q'
      obtain⟨v,hv⟩:=heo
      exact⟨v,by rw[hbe];exact hv⟩
    · refine(ok b u q).stay (fun c v hc r=>k c v ?_ r) (fun c r=>by rw[au (tY c b r)];exact r) fun c xs r=>by rw[au (vk c xs r)];exact r
      rcases hc with rfl | hc
      · exact hbe
      · rintro rfl
        rcases he with z | z
        · exact tY c b hc z
        · rw[hc] at z;cases z;exact hb rfl
end
structure Un (fs ex:List Addr)(H H':Hp)(h h':Heap): Prop where
  keep:∀b o,h.get? b=some o->H b=none->b∉fs->b∉ex->h'.get? b=some o
  slot:∀b o,h.get? b=some o->H b=none->b∈fs->b∉ex->∃sl,h'.get? b=some { o with slots:=sl }
  free:∀b o,h.get? b=some o->H b=none->b∉ex->H' b=none
  there:∀b o,h.get? b=some o->b∉ex->∃o',h'.get? b=some o'
  tups:∀b xs,H b=some (.tup xs)->H' b=some (.tup xs)
  h_:∀b o u,H b=some (.frz o u)->H' b=some (.frz o u)
  iW:∀b ps,H b=some (.tbl ps)->∃more,H' b=some (.tbl (ps++more))
section
variable {fs fs' ex ex':List Addr}{H H1 H2:Hp}{h h1 h2 h':Heap}{a x e:Addr}{o:HO}
theorem Un.any (u:Un fs ex H H1 h h1){b:Addr}{ob:Obj}(q:h.get? b=some ob)(n:H b=none)(hx:b∉ex): ∃sl,h1.get? b=some { ob with slots:=sl }:=by
  by_cases hb:b∈fs
  · exact u.slot b ob q n hb hx
  · exact⟨ob.slots,u.keep b ob q n hb hx⟩
theorem Un.kept (k:∀b u,h.get? b=some u->h'.get? b=some u): Un fs ex H H h h' :=
  ⟨fun b ob q _ _ _=>k b ob q,fun b ob q _ _ _=>⟨ob.slots,k b ob q⟩,fun _ _ _ n _=>n,fun b ob q _=>⟨ob,k b ob q⟩,fun _ _ q=>q,fun _ _ _ q=>q,fun _ ps q=>⟨#[],by rw[q];simp⟩⟩
theorem Un.refl:Un fs ex H H h h:=Un.kept fun _ _ q=>q
theorem Un.laid (k:∀b u,h.get? b=some u->h'.get? b=some u)(hp:h.objs.size<=a)(hn:H a=none): Un fs ex H (upd H a o) h h' where
  keep:=fun b u q _ _ _=>k b u q
  slot:=fun b u q _ _ _=>⟨u.slots,k b u q⟩
  free:=fun b u q n _=>by rw[au (Nat.ne_of_lt (Nat.lt_of_lt_of_le (Heap.lt_size q) hp))];exact n
  there:=fun b u q _=>⟨u,k b u q⟩
  tups:=fun b xs q=>by rw[au (aw q hn)];exact q
  h_:=fun b u xs q=>by rw[au (aw q hn)];exact q
  iW:=fun b ps q=>⟨#[],by rw[au (aw q hn),q];simp⟩
theorem Un.write (mu:Mut (H x))(he:e=x\/H e=some (.own x))(k:∀b u,b≠e->h.get? b=some u->h'.get? b=some u)(heo:∃u,h'.get? e=some u): Un fs ex H (upd H x o) h h':=by
  have hx:∀b,H b=none->b≠x:=fun b n z=>by subst z;rw[n] at mu;exact mu
  have hb:∀b,H b=none->b≠e:=fun b n z=>by
    subst z
    rcases he with r | r
    · exact hx b n r
    · rw[n] at r;cases r
  have hm:∀b u,H b=some u->¬Mut (some u)->b≠x:=fun b u q nm z=>by subst z;rw[q] at mu;exact nm mu
  refine⟨fun b u q n _ _=>k b u (hb b n) q,fun b u q n _ _=>⟨u.slots,k b u (hb b n) q⟩,fun b u q n _=>by rw[au (hx b n)];exact n,fun b u q _=>?_,
    fun b xs q=>by rw[au (hm b _ q fun z=>z)];exact q,fun b u xs q=>by rw[au (hm b _ q fun z=>z)];exact q,fun b ps q=>⟨#[],by rw[au (hm b _ q fun z=>z),q];simp⟩⟩
  by_cases hbe:b=e
  · subst hbe;exact heo
  · exact⟨u,k b u hbe q⟩
end
def trk (h:Heap)(H:Hp): List Addr:=(List.range h.objs.size).filter fun a=>(H a).isSome
def kI (h:Heap)(H:Hp): Heap:=PySem.W.hideAll h (trk h H)
theorem ow (h:Heap)(H:Hp): (kI h H).objs.size=h.objs.size:=PySem.W.hideAll_size _ _
theorem pE {h:Heap}{H:Hp}{b:Addr}{o:Obj}(e:h.get? b=some o)(n:H b=none): (kI h H).get? b=some o :=
  PySem.W.hideAll_get _ e fun hm=>by
    have q:(H b).isSome=true:=(List.mem_filter.mp hm).2
    rw[n] at q;simp at q
theorem qI {h:Heap}{H:Hp}{b:Addr}{o:Obj}(e:(kI h H).get? b=some o): h.get? b=some o/\H b=none:=by
  have e':h.get? b=some o:=PySem.W.of_hideAll (trk h H) e
  refine⟨e',?_⟩
  cases q:H b with
  | none=>rfl
  | some x =>
    have hm:b∈trk h H:=List.mem_filter.mpr ⟨List.mem_range.mpr (Heap.lt_size e'),by simp[q]⟩
    have z:(kI h H).get? b=none:=PySem.W.hideAll_none (trk h H) hm
    rw[z] at e;cases e
end L2
namespace L2
open PySem PySem.Spec PyProof.Rows
structure Mod (K:PySem.W.Frag)(mg:Str->Option Value)(base:Heap): Prop where
  kin:K.In base
  glob:base.Ns mainGlobals mg
  blt:∃mb,base.Ns builtinsNs mb/\∀x:Str,x ≠ "__name__" -> mb x=bootBuiltins x
  nolimit:base.NoLimit
structure Cx where
  prog:Program
  w:World
  K:PySem.W.Frag
  mg:Str->Option Value
  base:Heap
  A:Around
  N:List Str
  s₀:Shared
  H₀:Hp
  env:Env
  outer:List Env
  stack:List Env
  ex:List Addr
  fn:Str->Bool
  calm:Bool
  pn:List (Addr×Obj)
  xe:Value->Shared->Prop
def frs (l:List Env): List Addr:=l.filterMap (·.frame)
abbrev Cx.fs (X:Cx): List Addr:=frs X.outer
def Vis (sc:Scope)(x:Str): Prop:=sc.names.lookup x=some .local\/sc.names.lookup x=some .cell\/sc.names.lookup x=some .free
def Loc (sc:Scope)(x:Str): Prop:=sc.names.lookup x=some .local\/sc.names.lookup x=some .cell
def Look (env:Env)(h:Heap)(m:Str->Option Value)(x:Str)(u:Value): Prop :=
  (env.kindOf x=some .local/\m x=some u)\/((env.kindOf x=some .cell\/env.kindOf x=some .free)/\∃c,env.cells.lookup x=some c/\h.IsCell c (some u))
structure Cx.Ok (X:Cx): Prop where
  mod:Mod X.K X.mg X.base
  kind:X.env.scope.kind=.function
  glob:X.env.globals=mainGlobals
  blt:X.env.builtins=builtinsNs
  above:X.s₀.heap.objs.size<=X.env.locals
  inj:∀x y c,X.env.cells.lookup x=some c->X.env.cells.lookup y=some c->x=y
  has:∀x,(X.env.kindOf x=some .cell\/X.env.kindOf x=some .free)->∃c,X.env.cells.lookup x=some c
  cab:∀x c,X.fn x=true->X.env.cells.lookup x=some c->X.s₀.heap.objs.size<=c
  hd:X.calm=true->X.A.handled=none
  frames:X.A.frames=some X.stack
  stk:X.stack=X.outer\/(X.stack=X.env::X.outer/\X.env.frame=some X.env.locals)
  exf:∀b∈X.ex,b≠X.env.locals/\∀x c,X.env.cells.lookup x=some c->c≠b
  bs:∀b o,X.base.get? b=some o->X.s₀.heap.get? b=some o/\X.H₀ b=none
  bsz:X.base.objs.size<=X.s₀.heap.objs.size
  jK:∀b o,X.base.get? b=some o->b∉X.ex
  qJ:∀b∈X.ex,b∉X.fs
  iX:X.s₀.heap.FunFrames X.base X.outer
  frf:∀b∈X.fs,X.H₀ b=none
structure Inv (X:Cx)(pins:List (Addr×Obj))(σ:List (Option V))(H:Hp)(s:Shared): Prop where
  ok:X.Ok
  os:s.os=X.s₀.os
  bare:AllBare s.gens
  base:Un X.fs X.ex X.H₀ H X.s₀.heap s.heap
  loc:∃m,s.heap.Ns X.env.locals m/\∀(i:Nat) (x:Str) (v:V),X.N[i]?=some x->σ[i]?=some (some v)->Vis X.env.scope x->∃u,RelV v u/\Look X.env s.heap m x u
  cell:∀x c,X.env.cells.lookup x=some c->∃v,s.heap.IsCell c v
  free:H X.env.locals=none
  d9:∀x c,X.env.cells.lookup x=some c->H c=none
  pin:∀p∈X.pn++pins,s.heap.get? p.1=some p.2/\H p.1=none/\p.1≠X.env.locals/\p.1∉X.fs/\∀v,p.2.data≠.cell v
  hok:HOk X.prog X.w H s.heap
  len:σ.length=X.N.length
section
variable {X:Cx}{pins:List (Addr×Obj)}{σ:List (Option V)}{H H':Hp}{s:Shared}{h':Heap}
theorem Cx.Ok.vm (ok:X.Ok){b:Addr}{o:Obj}(e:X.base.get? b=some o): b∉X.fs:=fun hb=>by
  have:=(ok.iX.mem hb).1
  rw[e] at this;cases this
theorem Inv.bs (I:Inv X pins σ H s): ∀b o,X.base.get? b=some o->s.heap.get? b=some o/\H b=none:=fun b o e =>
  ⟨I.base.keep b o (I.ok.bs b o e).1 (I.ok.bs b o e).2 (I.ok.vm e) (I.ok.jK b o e),I.base.free b o (I.ok.bs b o e).1 (I.ok.bs b o e).2 (I.ok.jK b o e)⟩
theorem Inv.bk (I:Inv X pins σ H s): ∀b o,X.base.get? b=some o->s.heap.get? b=some o:=fun b o e=>(I.bs b o e).1
theorem Inv.mod (I:Inv X pins σ H s): Mod X.K X.mg X.base:=I.ok.mod
theorem Inv.kIn (I:Inv X pins σ H s): X.K.In s.heap:=I.ok.mod.kin.keeps I.bk
theorem Inv.lt (I:Inv X pins σ H s): X.env.locals < s.heap.objs.size:=let ⟨_,hn,_⟩:=I.loc;hn.lt
theorem Inv.sz (I:Inv X pins σ H s): X.s₀.heap.objs.size<=s.heap.objs.size:=Nat.le_trans I.ok.above (Nat.le_of_lt I.lt)
theorem Inv.vn (I:Inv X pins σ H s){a:Addr}(h:s.heap.objs.size<=a): a∉X.fs:=fun hb=>by
  obtain⟨_,o,ho,_⟩:=I.ok.iX.mem hb
  exact absurd (Nat.lt_of_lt_of_le (Heap.lt_size ho) (Nat.le_trans I.sz h)) (Nat.lt_irrefl _)
theorem Inv.cne (I:Inv X pins σ H s): ∀x c,X.env.cells.lookup x=some c->c≠X.env.locals:=fun x c e z=>by
  obtain⟨v,o,ho,hd⟩:=I.cell x c e
  obtain⟨m,⟨o',es,ep,ho',hd',_⟩,_⟩:=I.loc
  rw[z,ho'] at ho;cases ho;rw[hd'] at hd;cases hd
theorem Inv.iX (I:Inv X pins σ H s): s.heap.FunFrames X.base X.outer:=by
  have all:∀(l:List Env),(∀b∈frs l,b∈X.fs)->X.s₀.heap.FunFrames X.base l->s.heap.FunFrames X.base l:=by
    intro l
    induction l with
    | nil=>intro _ _;trivial
    | cons env r ih =>
      intro hs hl
      obtain⟨hk,⟨L,o,hf,hn,ho,hd⟩,hr⟩:=hl
      have hL:L∈X.fs:=hs L (by unfold frs;rw[List.filterMap_cons,hf];exact List.mem_cons_self)
      obtain⟨sl,e⟩:=I.base.slot L o ho (I.ok.frf L hL) hL fun z=>I.ok.qJ L z hL
      exact⟨hk,⟨L,_,hf,hn,e,hd⟩,ih (fun b hb=>hs b (by unfold frs;rw[List.filterMap_cons,hf];exact List.mem_cons_of_mem _ hb)) hr⟩
  exact all X.outer (fun _ hb=>hb) I.ok.iX
theorem Inv.stack (I:Inv X pins σ H s): s.heap.FunFrames X.base X.stack:=by
  rcases I.ok.stk with e | ⟨e,hf⟩
  · rw[e];exact I.iX
  · rw[e]
    obtain⟨m,hn,_⟩:=I.loc
    refine .cons (by rw[I.ok.kind];decide) hf hn ?_ I.iX
    exact Heap.get?_none_of_le (Nat.le_trans I.ok.bsz I.ok.above)
theorem Inv.eY (I:Inv X pins σ H s): ∀b∈frs X.stack,b∈X.env.locals::X.fs:=fun b hb=>by
  rcases I.ok.stk with e | ⟨e,hf⟩
  · rw[e] at hb;exact List.mem_cons_of_mem _ hb
  · rw[e] at hb
    unfold frs at hb
    rw[List.filterMap_cons,hf] at hb
    exact hb
theorem Inv.kJ (I:Inv X pins σ H s): ∀b∈frs X.stack,H b=none:=fun b hb=>by
  rcases List.mem_cons.mp (I.eY b hb) with e | hb
  · rw[e];exact I.free
  · obtain⟨_,o,ho,_⟩:=I.ok.iX.mem hb
    exact I.base.free b o ho (I.ok.frf b hb) fun z=>I.ok.qJ b z hb
theorem Inv.step {g':Array GenState}{t':Nat}{d':Drawn}{ch:List Addr}(I:Inv X pins σ H s)
    (hch:∀b∈ch,(b∈X.ex\/X.s₀.heap.objs.size<=b)/\b≠X.env.locals/\(∀x c,X.env.cells.lookup x=some c->c≠b)/\∀p∈X.pn++pins,p.1≠b)
    (keep:∀b o,b≠X.env.locals->b∉X.fs->b∉ch->s.heap.get? b=some o->H b=none->h'.get? b=some o)
    (slot:∀b o,b≠X.env.locals->b∈X.fs->b∉ch->s.heap.get? b=some o->H b=none->∃sl,h'.get? b=some { o with slots:=sl }) (free:∀b o,b∉ch->s.heap.get? b=some o->H b=none->H' b=none)
    (there:∀b o,b∉ch->s.heap.get? b=some o->∃o',h'.get? b=some o')
    (tups:∀b xs,H b=some (.tup xs)->H' b=some (.tup xs)) (h_:∀b o u,H b=some (.frz o u)->H' b=some (.frz o u)) (iW:∀b ps,H b=some (.tbl ps)->∃more,H' b=some (.tbl (ps++more)))
    (ns:∀m,s.heap.Ns X.env.locals m->h'.Ns X.env.locals m) (hok:HOk X.prog X.w H' h') (hg:AllBare g') :
    Inv X pins σ H' { s with heap:=h',gens:=g',drawn:=d',toks:=t' }:=by
  have neL:∀b o,X.s₀.heap.get? b=some o->b≠X.env.locals:=fun b o e=>Nat.ne_of_lt (Nat.lt_of_lt_of_le (Heap.lt_size e) I.ok.above)
  have neC:∀b o,X.s₀.heap.get? b=some o->b∉X.ex->b∉ch:=fun b o e hx hb=>by
    rcases (hch b hb).1 with z | z
    · exact hx z
    · exact absurd (Nat.lt_of_lt_of_le (Heap.lt_size e) z) (Nat.lt_irrefl _)
  have cellK:∀x c,X.env.cells.lookup x=some c->∀v,s.heap.IsCell c v->h'.IsCell c v:=fun x c e v ⟨o,ho,hd⟩=>by
    have nch:c∉ch:=fun z=>(hch c z).2.2.1 x c e rfl
    by_cases hc:c∈X.fs
    · obtain⟨sl,q⟩:=slot c o (I.cne x c e) hc nch ho (I.d9 x c e)
      exact⟨_,q,hd⟩
    · exact⟨o,keep c o (I.cne x c e) hc nch ho (I.d9 x c e),hd⟩
  refine⟨I.ok,I.os,hg,⟨fun b o e n hb hx=>?_,fun b o e n hb hx=>?_,fun b o e n hx=>?_,fun b o e hx=>?_,fun b xs e=>tups b xs (I.base.tups b xs e),fun b o xs e=>h_ b o xs (I.base.h_ b o xs e),fun b ps e=>?_⟩,?_,fun x c e=>?_,?_,fun x c e=>?_,fun p hp=>?_,hok,I.len⟩
  · exact keep b o (neL b o e) hb (neC b o e hx) (I.base.keep b o e n hb hx) (I.base.free b o e n hx)
  · obtain⟨sl,e1⟩:=I.base.slot b o e n hb hx
    obtain⟨sl',e2⟩:=slot b _ (neL b o e) hb (neC b o e hx) e1 (I.base.free b o e n hx)
    exact⟨sl',e2⟩
  · obtain⟨o',e1⟩:=I.base.there b o e hx
    exact free b o' (neC b o e hx) e1 (I.base.free b o e n hx)
  · obtain⟨o',e1⟩:=I.base.there b o e hx
    exact there b o' (neC b o e hx) e1
  · obtain⟨m1,e1⟩:=I.base.iW b ps e
    obtain⟨m2,e2⟩:=iW b _ e1
    exact⟨m1++m2,by rw[e2,Array.append_assoc]⟩
  · obtain⟨m,hn,hl⟩:=I.loc
    refine⟨m,ns m hn,fun i x v e1 e2 e3=>?_⟩
    obtain⟨u,r,l⟩:=hl i x v e1 e2 e3
    refine⟨u,r,?_⟩
    rcases l with l | ⟨k,c,e,z⟩
    · exact .inl l
    · exact .inr ⟨k,c,e,cellK x c e _ z⟩
  · obtain⟨v,z⟩:=I.cell x c e
    exact⟨v,cellK x c e v z⟩
  · obtain⟨m,⟨o,_,_,ho,_⟩,_⟩:=I.loc
    exact free _ o (fun z=>(hch _ z).2.1 rfl) ho I.free
  · obtain⟨v,o,ho,hd⟩:=I.cell x c e
    exact free c o (fun z=>(hch c z).2.2.1 x c e rfl) ho (I.d9 x c e)
  · obtain⟨e,n,ne,nf,d⟩:=I.pin p hp
    have nch:p.1∉ch:=fun z=>(hch p.1 z).2.2.2 p hp rfl
    exact⟨keep p.1 p.2 ne nf nch e n,free p.1 p.2 nch e n,ne,nf,d⟩
theorem Inv.un {t':Nat}(I:Inv X pins σ H s)(u:Un X.fs [] H H' s.heap h')(hok:HOk X.prog X.w H' h'): Inv X pins σ H' { s with heap:=h',toks:=t' }:=by
  obtain⟨m,⟨o,es,ep,ho,r⟩,_⟩:=id I.loc
  obtain⟨sl,hL⟩:=u.any ho I.free (by simp)
  exact I.step (g':=s.gens) (d':=s.drawn) (ch:=[]) (fun _ z=>nomatch z) (fun b o _ hb _ e n=>u.keep b o e n hb (by simp)) (fun b o _ hb _ e n=>u.slot b o e n hb (by simp)) (fun b o _ e n=>u.free b o e n (by simp)) (fun b o _ e=>u.there b o e (by simp)) u.tups u.h_ u.iW (fun m' hm=>by
    obtain⟨o',es',ep',ho',r'⟩:=hm
    rw[ho] at ho';cases ho'
    exact⟨_,es',ep',hL,r'⟩) hok I.bare
theorem Inv.call {g':Array GenState}{t':Nat}{d':Drawn}{ch:List Addr}(I:Inv X pins σ H s)(u:Un (frs X.stack) ch H H' s.heap h')(hok:HOk X.prog X.w H' h')(hg:AllBare g')
    (hch:∀b∈ch,(b∈X.ex\/X.s₀.heap.objs.size<=b)/\b≠X.env.locals/\(∀x c,X.env.cells.lookup x=some c->c≠b)/\∀p∈X.pn++pins,p.1≠b) :
    Inv X pins σ H' { s with heap:=h',gens:=g',drawn:=d',toks:=t' }:=by
  obtain⟨m,⟨o,es,ep,ho,r⟩,_⟩:=id I.loc
  obtain⟨sl,hL⟩:=u.any ho I.free fun z=>(hch _ z).2.1 rfl
  exact I.step (ch:=ch) hch (fun b o hL hb hc e n=>u.keep b o e n (fun z=>(List.mem_cons.mp (I.eY b z)).elim hL hb) hc) (fun b o _ _ hc e n=>u.any e n hc) (fun b o hc e n=>u.free b o e n hc) (fun b o hc e=>u.there b o e hc) u.tups u.h_ u.iW (fun m' hm=>by
    obtain⟨o',es',ep',ho',r'⟩:=hm
    rw[ho] at ho';cases ho'
    exact⟨_,es',ep',hL,r'⟩) hok hg
theorem Inv.turned {t':Nat}{it:Addr}(I:Inv X pins σ H s)(k:∀b o,b≠it->s.heap.get? b=some o->h'.get? b=some o)(hn:H it=none)(hL:it≠X.env.locals)
    (h1:it∈X.ex\/X.s₀.heap.objs.size<=it) (h2:∀x c,X.env.cells.lookup x=some c->c≠it) (h3:∀p∈X.pn++pins,p.1≠it):Inv X pins σ H { s with heap:=h',toks:=t' }:=by
  have nit:∀b u,H b=some u->b≠it:=fun b u e z=>by rw[z,hn] at e;cases e
  refine I.step (g':=s.gens) (d':=s.drawn) (ch:=[it]) (fun b hb=>?_) (fun b o _ _ hc e _=>k b o (fun z=>hc (by simp[z])) e) (fun b o _ _ hc e _=>⟨o.slots,k b o (fun z=>hc (by simp[z])) e⟩) (fun _ _ _ _ n=>n)
    (fun b o hc e=>⟨o,k b o (fun z=>hc (by simp[z])) e⟩) (fun _ _ e=>e) (fun _ _ _ e=>e) (fun b ps e=>⟨#[],by rw[e];simp⟩) (fun m hm=>?_) (fun b u e=>?_) I.bare
  · have e:b=it:=by simpa using hb
    subst e
    exact⟨h1,hL,h2,h3⟩
  · obtain⟨o,es,ep,ho,r⟩:=hm
    exact⟨o,es,ep,k _ o (Ne.symm hL) ho,r⟩
  · refine(I.hok b u e).stay (fun c v hc q=>k c v ?_ q) (fun _ q=>q) fun _ _ q=>q
    rcases hc with z | z
    · rw[z];exact nit b u e
    · exact nit c _ z
theorem Inv.tok (I:Inv X pins σ H s)(t:Nat): Inv X pins σ H { s with toks:=t }:=I.un (h':=s.heap) (t':=t) Un.refl I.hok
theorem Inv.kept {t':Nat}(I:Inv X pins σ H s)(k:∀b u,s.heap.get? b=some u->h'.get? b=some u): Inv X pins σ H { s with heap:=h',toks:=t' }:=I.un (Un.kept k) (I.hok.kept k)
theorem Inv.laid {a:Addr}{o:HO}{t':Nat}(I:Inv X pins σ H s)(k:∀b u,s.heap.get? b=some u->h'.get? b=some u)(hp:s.heap.objs.size<=a)(new:aV X.prog X.w (upd H a o) h' a o):
    Inv X pins σ (upd H a o) { s with heap:=h',toks:=t' }:=I.un (Un.laid k hp (I.hok.fresh hp)) (I.hok.laid k hp new)
theorem Inv.write {x e:Addr}{o:HO}{t':Nat}(I:Inv X pins σ H s)(mu:Mut (H x))(he:e=x\/H e=some (.own x))(k:∀b u,b≠e->s.heap.get? b=some u->h'.get? b=some u)(heo:∃u,h'.get? e=some u)
    (new:aV X.prog X.w (upd H x o) h' x o):Inv X pins σ (upd H x o) { s with heap:=h',toks:=t' }:=I.un (Un.write mu he k heo) (I.hok.write mu he k heo new)
theorem Inv.nF {gd:List (Addr×Obj)}(I:Inv X pins σ H s)(h:∀p∈gd,s.heap.get? p.1=some p.2/\H p.1=none/\p.1≠X.env.locals/\p.1∉X.fs/\∀v,p.2.data≠.cell v): Inv X gd σ H s :=
  ⟨I.ok,I.os,I.bare,I.base,I.loc,I.cell,I.free,I.d9,fun p hp=>(List.mem_append.mp hp).elim (fun z=>I.pin p (List.mem_append_left _ z)) (h p),I.hok,I.len⟩
theorem jc {N:List Str}(hN:N.Nodup){i j:Nat}{x:Str}(a:N[i]?=some x)(b:N[j]?=some x): i=j:=by
  obtain⟨h1,e1⟩:=List.getElem?_eq_some_iff.mp a
  obtain⟨h2,e2⟩:=List.getElem?_eq_some_iff.mp b
  exact(List.getElem_inj hN).mp (e1.trans e2.symm)
theorem oy {M:Model}{A:Around}{E:Value->Shared->Prop}{i:Nat}{x:Str}{v:V}{u:Value}{Q:Unit->Shared->Prop}(I:Inv X pins σ H s)(hN:X.N.Nodup)(hi:X.N[i]?=some x)(hx:Loc X.env.scope x)(r:RelV v u)
    (h:∀s',Inv X pins (σ.set i (some v)) H s'->(∃a,Heap.SameBut a s.heap s'.heap/\(a=X.env.locals\/X.env.cells.lookup x=some a))->Q () s') (hf:X.fn x=true\/X.env.scope.names.lookup x=some .local:=by first | exact .inl rfl | exact .inr rfl | assumption):wpAny M A (storeName X.env x u) Q E s:=by
  obtain⟨m,hn,hl⟩:=id I.loc
  have hcls:(X.env.scope.kind==.class || (X.env.scope.kind==.module&&X.env.locals != X.env.globals))=false:=by rw[I.ok.kind];rfl
  have hiσ:i < σ.length:=by rw[I.len];exact(List.getElem?_eq_some_iff.mp hi).1
  have cne:=I.cne
  have tracked:∀{a:Addr} {h':Heap},(∃o,s.heap.get? a=some o/\H a=none)->Heap.SameBut a s.heap h'->HOk X.prog X.w H h':=fun {a h'} ha hs b ob e=>by
    obtain⟨_,_,hfree⟩:=ha
    refine(I.hok b ob e).stay (fun c w' hc q=>(hs.2 c ?_).trans q) (fun _ q=>q) fun _ _ q=>q
    rintro rfl
    rcases hc with rfl | hc
    · rw[hfree] at e;cases e
    · rw[hfree] at hc;cases hc
  rcases hx with hk | hk
  · refine wpAny_storeName_local hk hn (fun h' hn' hs=>?_) hcls
    obtain⟨oL,_,_,hoL,_⟩:=id hn
    refine h _ ⟨I.ok,I.os,I.bare,⟨fun b o e n hb hx=>?_,fun b o e n hb hx=>?_,I.base.free,fun b o e hx=>?_,I.base.tups,I.base.h_,I.base.iW⟩,⟨_,hn',fun j y v' e1 e2 e3=>?_⟩,fun y c e=>?_,I.free,I.d9,fun p hp=>?_,tracked ⟨oL,hoL,I.free⟩ hs,by simpa using I.len⟩ ⟨_,hs,.inl rfl⟩
    · exact(hs.2 b (Nat.ne_of_lt (Nat.lt_of_lt_of_le (Heap.lt_size e) I.ok.above))).trans (I.base.keep b o e n hb hx)
    · obtain⟨sl,e1⟩:=I.base.slot b o e n hb hx
      exact⟨sl,(hs.2 b (Nat.ne_of_lt (Nat.lt_of_lt_of_le (Heap.lt_size e) I.ok.above))).trans e1⟩
    · obtain⟨o',e1⟩:=I.base.there b o e hx
      exact⟨o',(hs.2 b (Nat.ne_of_lt (Nat.lt_of_lt_of_le (Heap.lt_size e) I.ok.above))).trans e1⟩
    · by_cases hj:j=i
      · subst hj
        rw[hi] at e1;cases e1
        rw[List.getElem?_set_self hiσ] at e2
        cases e2
        exact⟨u,r,.inl ⟨hk,by simp⟩⟩
      · rw[List.getElem?_set_ne (Ne.symm hj)] at e2
        obtain⟨u',r',q⟩:=hl j y v' e1 e2 e3
        refine⟨u',r',?_⟩
        rcases q with ⟨k,e⟩ | ⟨k,c,e,z⟩
        · refine .inl ⟨k,?_⟩
          have:y≠x:=fun e=>hj (jc hN e1 (e ▸ hi))
          simp[this,e]
        · exact .inr ⟨k,c,e,z.sameBut hs (cne y c e)⟩
    · obtain⟨w',z⟩:=I.cell y c e
      exact⟨w',z.sameBut hs (cne y c e)⟩
    · obtain⟨e,n,ne,nf,d⟩:=I.pin p hp
      exact⟨(hs.2 p.1 ne).trans e,n,ne,nf,d⟩
  · have hfn:X.fn x=true:=by
      rcases hf with z | z
      · exact z
      · rw[z] at hk;cases hk
    obtain⟨c,hc⟩:=I.ok.has x (.inl hk)
    obtain⟨w',z⟩:=I.cell x c hc
    refine wpAny_storeName_cell I.ok.kind hk hc z (fun h' hc' hs=>?_)
    obtain⟨oc,hoc,vo⟩:=id z
    refine h { s with heap:=h' } ⟨I.ok,I.os,I.bare,⟨fun b o e n hb hx=>?_,fun b o e n hb hx=>?_,I.base.free,fun b o e hx=>?_,I.base.tups,I.base.h_,I.base.iW⟩,⟨m,hn.sameBut hs (Ne.symm (cne x c hc)),fun j y v' e1 e2 e3=>?_⟩,fun y c' e=>?_,I.free,I.d9,fun p hp=>?_,tracked ⟨oc,hoc,I.d9 x c hc⟩ hs,by simpa using I.len⟩ ⟨c,hs,.inr hc⟩
    · exact(hs.2 b (Nat.ne_of_lt (Nat.lt_of_lt_of_le (Heap.lt_size e) (I.ok.cab x c hfn hc)))).trans (I.base.keep b o e n hb hx)
    · obtain⟨sl,e1⟩:=I.base.slot b o e n hb hx
      exact⟨sl,(hs.2 b (Nat.ne_of_lt (Nat.lt_of_lt_of_le (Heap.lt_size e) (I.ok.cab x c hfn hc)))).trans e1⟩
    · obtain⟨o',e1⟩:=I.base.there b o e hx
      exact⟨o',(hs.2 b (Nat.ne_of_lt (Nat.lt_of_lt_of_le (Heap.lt_size e) (I.ok.cab x c hfn hc)))).trans e1⟩
    · by_cases hj:j=i
      · subst hj
        rw[hi] at e1;cases e1
        rw[List.getElem?_set_self hiσ] at e2
        cases e2
        exact⟨u,r,.inr ⟨.inl hk,c,hc,hc'⟩⟩
      · rw[List.getElem?_set_ne (Ne.symm hj)] at e2
        obtain⟨u',r',q⟩:=hl j y v' e1 e2 e3
        refine⟨u',r',?_⟩
        rcases q with q | ⟨k,c',e,z'⟩
        · exact .inl q
        · refine .inr ⟨k,c',e,z'.sameBut hs ?_⟩
          rintro rfl
          exact hj (jc hN e1 (I.ok.inj _ _ _ e hc ▸ hi))
    · by_cases hcc:c'=c
      · subst hcc;exact⟨_,hc'⟩
      · obtain⟨w2,z2⟩:=I.cell y c' e
        exact⟨w2,z2.sameBut hs hcc⟩
    · obtain⟨e,n,ne,nf,d⟩:=I.pin p hp
      refine⟨(hs.2 p.1 ?_).trans e,n,ne,nf,d⟩
      intro q
      rw[q,hoc] at e
      have q':oc=p.2:=Option.some.inj e
      exact d w' (by rw[<-q'];exact vo)
theorem jd {M:Model}{A:Around}{E:Value->Shared->Prop}{i:Nat}{x:Str}{v:V}{u:Value}{Q:Unit->Shared->Prop}(I:Inv X pins σ H s)(hN:X.N.Nodup)(hi:X.N[i]?=some x)(hx:Loc X.env.scope x)(r:RelV v u)
    (h:∀s',Inv X pins (σ.set i (some v)) H s'->Q () s') (hf:X.fn x=true\/X.env.scope.names.lookup x=some .local:=by first | exact .inl rfl | exact .inr rfl | assumption):wpAny M A (storeName X.env x u) Q E s :=
  oy I hN hi hx r (fun s' I' _=>h s' I') hf
theorem Inv.call' {s':Shared}{ch:List Addr}(I:Inv X pins σ H s)(ho:s'.os=s.os)(u:Un (frs X.stack) ch H H' s.heap s'.heap)(hok:HOk X.prog X.w H' s'.heap)(hg:AllBare s'.gens)
    (hch:∀b∈ch,(b∈X.ex\/X.s₀.heap.objs.size<=b)/\b≠X.env.locals/\(∀x c,X.env.cells.lookup x=some c->c≠b)/\∀p∈X.pn++pins,p.1≠b):Inv X pins σ H' s':=by
  obtain⟨h',g',d',t',o'⟩:=s'
  have e:o'=s.os:=ho
  subst e
  exact I.call (g':=g') (t':=t') (d':=d') u hok hg hch
end
abbrev XK:=Value->Option Addr->Hp->Prop
abbrev St:=List (Option V)
abbrev VK:=V->Hp->Prop
abbrev TE:=St->Hp->VK->Prop
abbrev TT:=St->Hp->(Bool->Hp->Prop)->Prop
abbrev TA:=St->Hp->(List V->Hp->Prop)->Prop
structure Ends where
  nx:St->Hp->Prop
  rt:VK
  bk:St->Hp->Prop:=fun _ _=>False
  ct:St->Hp->Prop:=fun _ _=>False
abbrev TS:=Ends->St->Hp->Prop
def EP (X:Cx)(pins:List (Addr×Obj))(σ:St)(Q:VK)(u:Value)(s':Shared): Prop:=∃v H',Inv X pins σ H' s'/\RelV v u/\Q v H'
def TP (X:Cx)(pins:List (Addr×Obj))(σ:St)(Q:Bool->Hp->Prop)(b:Bool)(s':Shared): Prop:=∃H',Inv X pins σ H' s'/\Q b H'
def AP (X:Cx)(pins:List (Addr×Obj))(σ:St)(Q:List V->Hp->Prop)(us:List Value)(s':Shared): Prop:=∃vs H',Inv X pins σ H' s'/\Vals vs us/\Q vs H'
def SP (X:Cx)(pins:List (Addr×Obj))(D:Ends)(f:Flow)(s':Shared): Prop :=
  match f with
  | .next=>∃σ' H',Inv X pins σ' H' s'/\D.nx σ' H'
  | .brk=>∃σ' H',Inv X pins σ' H' s'/\D.bk σ' H'
  | .cont=>∃σ' H',Inv X pins σ' H' s'/\D.ct σ' H'
  | .ret u=>∃v σ' H',Inv X pins σ' H' s'/\RelV v u/\D.rt v H'
def PE (X:Cx)(e:Expr)(t:TE): Prop :=
  ∀(pins:List (Addr×Obj)) (s:Shared) (σ:St) (H:Hp) (Q:VK),Inv X pins σ H s->t σ H Q->wpAny (model X.prog X.w) X.A (eval e X.env) (EP X pins σ Q) X.xe s
def PT (X:Cx)(e:Expr)(t:TT): Prop :=
  ∀(pins:List (Addr×Obj)) (s:Shared) (σ:St) (H:Hp) (Q:Bool->Hp->Prop),Inv X pins σ H s->t σ H Q->wpAny (model X.prog X.w) X.A (isTrue e X.env (eval e X.env)) (TP X pins σ Q) X.xe s
def PW (X:Cx)(e:Expr)(t:TT): Prop :=
  ∀(whole:Sem Value) (pins:List (Addr×Obj)) (s:Shared) (σ:St) (H:Hp) (Q:Bool->Hp->Prop),Inv X pins σ H s->t σ H Q->wpAny (model X.prog X.w) X.A (isTrue e X.env whole) (TP X pins σ Q) X.xe s
theorem PW.pt {X:Cx}{e:Expr}{t:TT}(h:PW X e t): PT X e t:=h _
def PA (X:Cx)(es:List Expr)(t:TA): Prop :=
  ∀(pos:Pos) (pins:List (Addr×Obj)) (s:Shared) (σ:St) (H:Hp) (Q:List V->Hp->Prop),Inv X pins σ H s->t σ H Q->wpAny (model X.prog X.w) X.A (spliced (backTo pos (starEach es X.env))) (AP X pins σ Q) X.xe s
def PS (X:Cx)(st:Stmt)(t:TS): Prop :=
  ∀(pins:List (Addr×Obj)) (s:Shared) (σ:St) (H:Hp) (D:Ends),Inv X pins σ H s->t D σ H->wpAny (model X.prog X.w) X.A (exec st X.env) (SP X pins D) X.xe s
def PSs (X:Cx)(st:List Stmt)(t:TS): Prop :=
  ∀(pins:List (Addr×Obj)) (s:Shared) (σ:St) (H:Hp) (D:Ends),Inv X pins σ H s->t D σ H->wpAny (model X.prog X.w) X.A (execs st X.env) (SP X pins D) X.xe s
theorem thn {α:Type}{t:Sem α}{Q Q':α->Shared->Prop}{M:Model}{A:Around}{E:Value->Shared->Prop}{s:Shared}(h:wpAny M A t Q E s)(hQ:∀a s,Q a s->Q' a s): wpAny M A t Q' E s:=wpAny_mono h hQ fun _ _ x=>x
end L2
namespace L2
open PySem PySem.Spec PyProof.Rows
section
variable {X:Cx}
def tZ (i:Nat): TE:=fun σ H Q=>∃v,σ[i]?=some (some v)/\Q v H
def tC (v:V): TE:=fun _ H Q=>Q v H
theorem se {i:Nat} {x:Str} {pos:Pos} (hN:X.N[i]?=some x) (hv:Vis X.env.scope x) (hd:(x==("__debug__" : Str))=false:=by decide) (hcd:(x==("__classdict__" : Str))=false:=by decide):PE X (.Name x pos) (tZ i):=by
  intro pins s σ H Q I h
  obtain⟨v,e,h⟩:=h
  obtain⟨m,hn,hl⟩:=I.loc
  obtain⟨u,r,l⟩:=hl i x v hN e hv
  have fin:EP X pins σ Q u s:=⟨v,H,I,r,h⟩
  rcases l with ⟨hk,hm⟩ | ⟨hk,c,hc,hcell⟩
  · exact wpAny_Name (wpAny_loadName_local I.ok.kind hk hn hm fin) hd
  · rcases hk with hk | hk
    · exact wpAny_Name (wpAny_loadName_cell I.ok.kind hk hc hcell fin) hd
    · exact wpAny_Name (wpAny_loadName_free I.ok.kind hk hc hcell fin hcd) hd
theorem aj {i j pos}: PE X (.Constant (.int i) j pos) (tC (.int i)):=fun _ _ _ H _ I h=>wpAny_Constant_int ⟨.int i,H,I.tok _,⟨_,rfl⟩,h⟩
theorem gJ {b j pos}: PE X (.Constant (.bool b) j pos) (tC (.bl b)):=fun _ _ _ H _ I h=>Constant_bool ⟨.bl b,H,I,rfl,h⟩
theorem eZ {x j pos}: PE X (.Constant (.str x) j pos) (tC (.str x)):=fun _ _ _ H _ I h=>Calls.Constant_str ⟨.str x,H,I.tok _,⟨_,rfl⟩,h⟩
def Gl (X:Cx)(x:Str): Prop:=X.env.kindOf x=some .globalImplicit
theorem fR {E:Value->Shared->Prop}{pins:List (Addr×Obj)}{s:Shared}{σ:St}{H:Hp}{x:Str}{u:Value}{pos:Pos}{Q:Value->Shared->Prop}(I:Inv X pins σ H s)(hg:Gl X x)(hm:X.mg x=some u)(h:Q u s)
    (hd:(x==("__debug__" : Str))=false:=by decide):wpAny (model X.prog X.w) X.A (eval (.Name x pos) X.env) Q E s :=
  Calls.Name_function_global I.ok.kind hg (Calls.loadGlobal_global (by rw[I.ok.glob];exact I.mod.glob.keeps I.bk) hm h) hd
theorem kK {E:Value->Shared->Prop}{pins:List (Addr×Obj)}{s:Shared}{σ:St}{H:Hp}{x:Str}{u:Value}{pos:Pos}{Q:Value->Shared->Prop}(I:Inv X pins σ H s)(hg:Gl X x)(hm:X.mg x=none)(hv:bootBuiltins x=some u)(h:Q u s)
    (hn:x ≠ "__name__" := by decide) (hd:(x==("__debug__" : Str))=false:=by decide):wpAny (model X.prog X.w) X.A (eval (.Name x pos) X.env) Q E s:=by
  obtain⟨mb,h1,h2⟩:=I.mod.blt
  exact Calls.Name_function_global I.ok.kind hg (Calls.loadGlobal_builtin (by rw[I.ok.glob];exact I.mod.glob.keeps I.bk) hm (by rw[I.ok.blt];exact h1.keeps I.bk) ((h2 x hn).trans hv) h) hd
theorem dJ {x:Str} {v:V} {u:Value} {pos:Pos} (hg:Gl X x) (hm:X.mg x=some u) (r:RelV v u) (hd:(x==("__debug__" : Str))=false:=by decide):PE X (.Name x pos) (tC v) :=
  fun _ _ _ H _ I h=>fR I hg hm ⟨v,H,I,r,h⟩ hd
theorem i_ {x:Str} {v:V} {u:Value} {pos:Pos} (hg:Gl X x) (hm:X.mg x=none) (hv:bootBuiltins x=some u) (r:RelV v u) (hn:x ≠ "__name__" := by decide) (hd:(x==("__debug__" : Str))=false:=by decide):PE X (.Name x pos) (tC v) :=
  fun _ _ _ H _ I h=>kK I hg hm hv ⟨v,H,I,r,h⟩ hn hd
variable {a b:Expr}{ta tb:TE}{pos:Pos}
def tB (t:TE): TT:=fun σ H Q=>t σ H fun x H1=>∃c,x=.bl c/\Q c H1
theorem ib {e:Expr}{t:TE}(h:PE X e t)(he:∀whole,isTrue e X.env whole=(do let v <-whole;standAt e.pos;holding [v] (truthy v)):=by intro _;rfl): PT X e (tB t):=by
  intro pins s σ H Q I hw
  refine isTrue_plain (thn (h pins s σ H _ I hw) fun v s1 ⟨x,H1,I1,r1,q1⟩=>?_) (he _)
  obtain⟨d,rfl,q⟩:=q1
  cases r1
  exact wpAny_truthy_bool ⟨H1,I1,q⟩
variable {tA tB':TT}{rest:List Expr}
def vp (t u:TT): TT:=fun σ H Q=>t σ H fun c H1=>if c=true then u σ H1 Q else Q false H1
def tOr (t u:TT): TT:=fun σ H Q=>t σ H fun c H1=>if c=true then Q true H1 else u σ H1 Q
def vq (t:TT): TT:=fun σ H Q=>t σ H fun c H1=>Q (!c) H1
theorem qK (ha:PT X a tA): PW X (.BoolOp .And [a] pos) tA:=by
  intro wh pins s σ H Q I h
  refine isTrue_and (thn (ha pins s σ H Q I h) fun c s1 e=>?_)
  cases c with
  | true=>exact isTrue_and_nil e
  | false=>exact e
theorem pF (ha:PT X a tA): PW X (.BoolOp .Or [a] pos) tA:=by
  intro wh pins s σ H Q I h
  refine isTrue_or (thn (ha pins s σ H Q I h) fun c s1 e=>?_)
  cases c with
  | false=>exact isTrue_or_nil e
  | true=>exact e
theorem si (ha:PT X a tA)(hb:PW X (.BoolOp .And (b::rest) pos) tB'): PW X (.BoolOp .And (a::b::rest) pos) (vp tA tB'):=by
  intro wh pins s σ H Q I h
  refine isTrue_and (thn (ha pins s σ H _ I h) fun c s1 ⟨H1,I1,q1⟩=>?_)
  cases c with
  | true=>exact hb wh pins s1 σ H1 Q I1 q1
  | false=>exact⟨H1,I1,q1⟩
theorem rH (ha:PT X a tA)(hb:PW X (.BoolOp .Or (b::rest) pos) tB'): PW X (.BoolOp .Or (a::b::rest) pos) (tOr tA tB'):=by
  intro wh pins s σ H Q I h
  refine isTrue_or (thn (ha pins s σ H _ I h) fun c s1 ⟨H1,I1,q1⟩=>?_)
  cases c with
  | true=>exact⟨H1,I1,q1⟩
  | false=>exact hb wh pins s1 σ H1 Q I1 q1
theorem dv (ha:PT X a tA): PT X (.UnaryOp .Not a pos) (vq tA):=by
  intro pins s σ H Q I h
  exact isTrue_not (ha pins s σ H (fun c H1=>Q (!c) H1) I h)
def t9 (ta tb:TE): TE:=fun σ H Q=>ta σ H fun x H1=>∃c,x=.bl c/\if c=true then tb σ H1 Q else Q (.bl false) H1
def t_ (ta:TE): TE:=fun σ H Q=>ta σ H fun x H1=>∃c,x=.bl c/\Q (.bl (!c)) H1
theorem ic {op}{t:TE}(h:PE X a t): PE X (.BoolOp op [a] pos) t:=fun pins s σ H Q I hw=>BoolOp_one (h pins s σ H Q I hw)
theorem fb (ha:PE X a ta)(hb:PE X (.BoolOp .And (b::rest) pos) tb): PE X (.BoolOp .And (a::b::rest) pos) (t9 ta tb):=by
  intro pins s σ H Q I h
  refine BoolOp_and (thn (ha pins s σ H _ I h) fun v s1 ⟨x,H1,I1,r1,q1⟩=>?_)
  obtain⟨c,rfl,q1⟩:=q1
  cases r1
  refine wpAny_truthy_bool ?_
  cases c with
  | true=>exact hb pins s1 σ H1 Q I1 q1
  | false=>exact⟨.bl false,H1,I1,rfl,q1⟩
theorem my (ha:PE X a ta): PE X (.UnaryOp .Not a pos) (t_ ta):=by
  intro pins s σ H Q I h
  refine UnaryOp_ (thn (ha pins s σ H _ I h) fun v s1 ⟨x,H1,I1,r1,q1⟩=>?_)
  obtain⟨c,rfl,q1⟩:=q1
  cases r1
  exact not_of (wpAny_truthy_bool ⟨.bl (!c),H1,I1,rfl,q1⟩)
end
end L2
namespace L2
open PySem PySem.Spec PyProof.Rows
def SqL (K:PySem.W.Frag)(H:Hp)(a:Addr)(xs:List V): Prop :=
  Rd H a (.lst xs) ∨
    ∃(o:Obj) (its:Array Value) (n:Nat),K.lookup a=some o/\o.cls=.type "list" ∧ o.dict=none/\o.data=.seq its n/\its.size<=sizeLine/\Vals xs its.toList
def SqT (K:PySem.W.Frag)(H:Hp)(a:Addr)(xs:List V): Prop :=
  Rd H a (.tup xs) ∨
    ∃(o:Obj) (its:Array Value) (n:Nat),K.lookup a=some o/\o.cls=.type "tuple" ∧ o.data=.seq its n/\its.size<=sizeLine/\Vals xs its.toList
def vt:Value->Option V
  | .none=>some .non
  | .bool b=>some (.bl b)
  | .int i _=>some (.int i)
  | .str x _=>some (.str x)
  | .bytes b _=>some (.byt b)
  | .float b _=>some (.flt b)
  | .ref a=>some (.ref a)
  | .type n=>some (.ty n)
  | _=>none
theorem RelV.abs {x:V}{u:Value}(r:RelV x u): vt u=some x:=by
  cases x with
  | non=>cases r;rfl
  | bl _=>cases r;rfl
  | int _=>obtain⟨t,rfl⟩:=r;rfl
  | str _=>obtain⟨t,rfl⟩:=r;rfl
  | byt _=>obtain⟨t,rfl⟩:=r;rfl
  | flt _=>obtain⟨t,rfl⟩:=r;rfl
  | ref _=>cases r;rfl
  | ty _=>cases r;rfl
theorem RelV.inj {x y:V}{u:Value}(r:RelV x u)(q:RelV y u): x=y:=Option.some.inj (r.abs.symm.trans q.abs)
theorem Vals.inj:∀{xs ys:List V} {us:List Value},Vals xs us->Vals ys us->xs=ys
  | _,_,_,.nil,.nil=>rfl
  | _,_,_,.cons r t,.cons r' t'=>by rw[r.inj r',Vals.inj t t']
section
variable {X:Cx}{pins:List (Addr×Obj)}{σ:St}{H:Hp}{s:Shared}{a:Addr}{xs ys:List V}
theorem SqL.of {K:PySem.W.Frag}(h:H a=some (.lst xs)): SqL K H a xs:=.inl (.inl h)
theorem SqT.of {K:PySem.W.Frag}(h:H a=some (.tup xs)): SqT K H a xs:=.inl (.inl h)
theorem Inv.list (I:Inv X pins σ H s)(h:SqL X.K H a xs): ∃its:List Value,Vals xs its/\PlainL s.heap a its.toArray/\xs.length<=sizeLine:=by
  rcases h with h | ⟨o,its,n,hk,hc,hd,hs,hz,r⟩
  · obtain⟨z,its,n,r,e⟩:=h.ok I.hok
    exact⟨its,r,⟨_,n,e,rfl,rfl,rfl⟩,z⟩
  · refine⟨its.toList,r,⟨o,n,I.kIn a o hk,hc,hd,by simpa using hs⟩,?_⟩
    have e:=r.length
    simp only [Array.length_toList] at e
    omega
theorem Inv.tuple (I:Inv X pins σ H s)(h:SqT X.K H a xs): ∃its:List Value,Vals xs its/\IsTup s.heap a its.toArray/\xs.length<=sizeLine:=by
  rcases h with h | ⟨o,its,n,hk,hc,hs,hz,r⟩
  · obtain⟨z,its,r,p⟩:=h.ok I.hok
    exact⟨its,r,p,z⟩
  · refine⟨its.toList,r,⟨o,I.kIn a o hk,hc,n,by simpa using hs⟩,?_⟩
    have e:=r.length
    simp only [Array.length_toList] at e
    omega
theorem Inv.pG (I:Inv X pins σ H s)(h:SqL X.K H a xs)(h':SqL X.K H a ys): xs=ys:=by
  obtain⟨its,r,⟨o,n,e,_,_,d⟩,_⟩:=I.list h
  obtain⟨its',r',⟨o',n',e',_,_,d'⟩,_⟩:=I.list h'
  rw[e] at e';cases e'
  rw[d] at d'
  injection d' with d1 _
  have:its=its':=by simpa using congrArg Array.toList d1
  subst this
  exact r.inj r'
theorem Inv.oz (I:Inv X pins σ H s)(h:SqT X.K H a xs)(h':SqT X.K H a ys): xs=ys:=by
  obtain⟨its,r,⟨o,e,_,n,d⟩,_⟩:=I.tuple h
  obtain⟨its',r',⟨o',e',_,n',d'⟩,_⟩:=I.tuple h'
  rw[e] at e';cases e'
  rw[d] at d'
  injection d' with d1 _
  have:its=its':=by simpa using congrArg Array.toList d1
  subst this
  exact r.inj r'
end
section
variable {X:Cx}{pins:List (Addr×Obj)}{σ:St}{H:Hp}{s:Shared}{E:Value->Shared->Prop}
end
section
variable {X:Cx}{st:Stmt}{rest:List Stmt}{t u:TS}{e:Expr}{te:TE}{pos:Pos}
def ua:TS:=fun D σ H=>D.nx σ H
def vw (t u:TS): TS:=fun D σ H=>t { D with nx:=u D } σ H
theorem aL:PSs X [] ua:=fun _ _ σ H _ I h=>wpAny_execs_nil ⟨σ,H,I,h⟩
theorem af (h1:PS X st t)(h2:PSs X rest u): PSs X (st::rest) (vw t u):=by
  intro pins s σ H D I h
  refine wpAny_execs_cons (thn (h1 pins s σ H { D with nx:=u D } I h) fun f s1 q=>?_)
  cases f with
  | next =>
    obtain⟨σ',H',I',q⟩:=q
    exact h2 pins s1 σ' H' D I' q
  | ret v=>exact q
  | brk=>exact q
  | cont=>exact q
theorem ao (h1:PS X st t): PSs X [st] t:=by
  intro pins s σ H D I h
  refine wpAny_execs_cons (thn (h1 pins s σ H D I h) fun f s1 q=>?_)
  cases f with
  | next=>exact wpAny_execs_nil q
  | ret v=>exact q
  | brk=>exact q
  | cont=>exact q
theorem Inv.quiet {pins:List (Addr×Obj)}{σ:St}{H:Hp}{s:Shared}(I:Inv X pins σ H s): interactive X.env=false:=by simp[interactive,I.ok.kind]
def ub (te:TE): TS:=fun D σ H=>te σ H fun _ H1=>D.nx σ H1
theorem a0 (he:PE X e te)(hs:swapsWith e none pos.line X.env=pure false:=by rfl): PS X (.Expr e pos) (ub te):=by
  intro pins s σ H D I h
  exact wpAny_Expr_any (thn (he pins s σ H _ I h) fun v s1 ⟨x,H1,I1,r1,q1⟩=>⟨σ,H1,I1,q1⟩) I.quiet hs
def vx (te:TE): TS:=fun D σ H=>te σ H D.rt
theorem aJ (he:PE X e te): PS X (.Return (some e) pos) (vx te):=by
  intro pins s σ H D I h
  exact wpAny_Return_some (thn (he pins s σ H _ I h) fun v s1 ⟨x,H1,I1,r1,q1⟩=>⟨x,σ,H1,I1,r1,q1⟩)
def vy (c:TT)(t u:TS): TS:=fun D σ H=>c σ H fun b H1=>if b=true then t D σ H1 else u D σ H1
theorem bF {c:Expr}{a b:List Stmt}{tc:TT}(hc:PT X c tc)(ha:PSs X a t)(hb:PSs X b u): PS X (.If c a b pos) (vy tc t u):=by
  intro pins s σ H D I h
  refine wpAny_If (thn (hc pins s σ H _ I h) fun d s1 ⟨H1,I1,q1⟩=>?_)
  cases d with
  | true=>exact ha pins s1 σ H1 D I1 q1
  | false=>exact hb pins s1 σ H1 D I1 q1
end
abbrev TG:=V->St->Hp->(St->Hp->Prop)->Prop
abbrev TGs:=List V->St->Hp->(St->Hp->Prop)->Prop
def PG (X:Cx)(target:Expr)(t:TG): Prop :=
  ∀(pins:List (Addr×Obj)) (s:Shared) (σ:St) (H:Hp) (v:V) (u:Value) (Q:St->Hp->Prop),Inv X pins σ H s->RelV v u->t v σ H Q ->
    wpAny (model X.prog X.w) X.A (assign target X.env u) (fun _ s'=>∃σ' H',Inv X pins σ' H' s'/\Q σ' H') X.xe s
def PGs (X:Cx)(ts:List Expr)(t:TGs): Prop :=
  ∀(pins:List (Addr×Obj)) (s:Shared) (σ:St) (H:Hp) (vs:List V) (us:List Value) (Q:St->Hp->Prop),Inv X pins σ H s->Vals vs us->t vs σ H Q ->
    wpAny (model X.prog X.w) X.A (assignInOrder ((assignEach ts X.env).map (·.2)) us) (fun _ s'=>∃σ' H',Inv X pins σ' H' s'/\Q σ' H') X.xe s
abbrev sj:=V->V->V->Hp->(Hp->Prop)->Prop
def uc (X:Cx)(t:sj): Prop :=
  ∀(pins:List (Addr×Obj)) (s:Shared) (σ:St) (H:Hp) (o i v:V) (ov iv u:Value) (Q:Hp->Prop),Inv X pins σ H s->RelV o ov->RelV i iv->RelV v u->t o i v H Q ->
    wpAny (model X.prog X.w) X.A (setItem ov iv u) (fun _ s'=>∃H',Inv X pins σ H' s'/\Q H') X.xe s
section
variable {X:Cx}{pos:Pos}
def lN (i:Nat): TG:=fun v σ H Q=>Q (σ.set i (some v)) H
theorem a6 {i:Nat}{x:Str}(hN:X.N.Nodup)(hi:X.N[i]?=some x)(hx:Loc X.env.scope x)(hf:X.fn x=true\/X.env.scope.names.lookup x=some .local:=by first | exact .inl rfl | exact .inr rfl | assumption): PG X (.Name x pos) (lN i):=by
  intro pins s σ H v u Q I r h
  exact wpAny_assign_Name (jd I hN hi hx r (fun s' I'=>⟨_,H,I',h⟩) hf)
def ud:TGs:=fun vs σ H Q=>vs=[]/\Q σ H
def pH (t:TG)(u:TGs): TGs:=fun vs σ H Q=>∃v r,vs=v::r/\t v σ H fun σ' H'=>u r σ' H' Q
theorem gK:PGs X [] ud:=by
  intro pins s σ H vs us Q I r h
  obtain⟨e,h⟩:=h
  subst e
  cases r
  exact assignInOrder_nil ⟨σ,H,I,h⟩
theorem bV {e:Expr}{es:List Expr}{t:TG}{u:TGs}(h1:PG X e t)(h2:PGs X es u)
    (hs:(assignEach (e::es) X.env).map (·.2)=assign e X.env::(assignEach es X.env).map (·.2):=by rfl):PGs X (e::es) (pH t u):=by
  intro pins s σ H vs us Q I r h
  obtain⟨v,vr,e1,h⟩:=h
  subst e1
  cases r with
  | cons r rr =>
    rw[hs]
    refine assignInOrder_cons (thn (h1 pins s σ H _ _ _ I r h) fun _ s1 ⟨σ1,H1,I1,q1⟩=>?_)
    exact h2 pins s1 σ1 H1 _ _ Q I1 rr q1
def sk (K:PySem.W.Frag)(n:Nat)(t:TGs): TG:=fun v σ H Q=>∃a xs,v=.ref a/\SqT K H a xs/\xs.length=n/\t xs σ H Q
theorem je {es:List Expr}{k:Nat}{t:TGs}{n:Nat}(hc:X.calm=true)(h:PGs X es t)
    (hn:(assignEach es X.env).length=n:=by rfl) (hst:(assignEach es X.env).findIdx? (·.1)=none:=by rfl):PG X (.Tuple es k pos) (sk X.K n t):=by
  intro pins s σ H v u Q I r hw
  obtain⟨a,xs,e1,hq,hl,hw⟩:=hw
  subst e1
  cases r
  obtain⟨its,rv,ht,hz⟩:=I.tuple hq
  refine assign_Tuple_tuple (I.ok.hd hc) ht (by simp[hn,<-hl,rv.length]) hst fun h' hx=>?_
  have I1:Inv X pins σ H { s with heap:=h' }:=I.kept (t':=s.toks) fun b o e=>hx b o (Nat.ne_of_lt (Heap.lt_size e)) e
  exact h pins _ σ H xs _ Q I1 (by simpa using rv) hw
def vz (to ti:TE)(t:sj): TG:=fun v σ H Q=>to σ H fun o H1=>ti σ H1 fun i H2=>t o i v H2 fun H3=>Q σ H3
theorem pI {o i:Expr}{to ti:TE}{t:sj}(ho:PE X o to)(hi:PE X i ti)(hs:uc X t)
    (ha:∀v,assign (.Subscript o i pos) X.env v=(do
      let ov <-holding [v] (eval o X.env)
      let iv <-holding [v,ov] (eval i X.env)
      standAt pos
      holding [v,ov,iv] (setItem ov iv v)
      release [v,ov,iv] []):=by intro _;rfl):PG X (.Subscript o i pos) (vz to ti t):=by
  intro pins s σ H v u Q I r h
  rw[ha]
  refine wpAny_bind (wpAny_holding (thn (ho pins s σ H _ I h) fun ov s1 ⟨x,H1,I1,r1,q1⟩=>?_))
  refine wpAny_bind (wpAny_holding (thn (hi pins s1 σ H1 _ I1 q1) fun iv s2 ⟨y,H2,I2,r2,q2⟩=>?_))
  refine wpAny_bind (wpAny_standAt (wpAny_bind (wpAny_holding (thn (hs pins s2 σ H2 x y v ov iv u _ I2 r1 r2 r q2) fun _ s3 ⟨H3,I3,q3⟩=>?_))))
  exact wpAny_release ⟨σ,H3,I3,q3⟩
def uf (te:TE)(g:TG): TS:=fun D σ H=>te σ H fun x H1=>g x σ H1 D.nx
theorem pJ {tg e:Expr}{te:TE}{g:TG}(he:PE X e te)(hg:PG X tg g)(hs:swapsWithSole [tg] e pos.line X.env=pure false:=by rfl)(hw:swappedStores [tg] e X.env=pure none:=by rfl)
    (h1:(assignEach [tg] X.env).map (·.2)=[assign tg X.env]:=by rfl):PS X (.Assign [tg] e pos) (uf te g):=by
  intro pins s σ H D I h
  refine wpAny_Assign_stores (thn (he pins s σ H _ I h) fun v s1 ⟨x,H1,I1,r1,q1⟩=>?_) hs hw
  rw[h1]
  exact thn (hg pins s1 σ H1 x v _ I1 r1 q1) fun _ s2 q=>q
theorem aI {i:Nat}{x:Str}{e:Expr}{te:TE}{pos':Pos}(hN:X.N.Nodup)(hi:X.N[i]?=some x)(hx:Loc X.env.scope x)(he:PE X e te)(hs:swapsWith e (some (.Name x pos')) pos.line X.env=pure false:=by rfl)(hf:X.fn x=true\/X.env.scope.names.lookup x=some .local:=by first | exact .inl rfl | exact .inr rfl | assumption):
    PS X (.Assign [.Name x pos'] e pos) (uf te (lN i)):=by
  intro pins s σ H D I h
  refine wpAny_Assign_Name (thn (he pins s σ H _ I h) fun v s1 ⟨y,H1,I1,r1,q1⟩=>?_) hs
  exact jd I1 hN hi hx r1 (fun s2 I2=>⟨_,H1,I2,q1⟩) hf
end
section
variable {X:Cx}{pos:Pos}
def sr (c:TT)(tb:TS): TS:=fun D σ H=>∃W:Nat->St->Hp->Prop,(∃m,W m σ H)/\∀m σ H,W m σ H ->
  c σ H fun b H1=>if b=true then ∃N:St->Hp->Prop,(∀σ' H',N σ' H'->∃m',m' < m/\W m' σ' H')/\tb { D with nx:=N,ct:=N,bk:=D.nx } σ H1 else D.nx σ H1
theorem pK {c:Expr}{body:List Stmt}{tc:TT}{tb:TS}(hp:PassesOwn (model X.prog X.w) X.A X.env X.xe)(hc:PT X c tc)(hb:PSs X body tb): PS X (.While c body [] pos) (sr tc tb):=by
  intro pins s σ H D I h
  obtain⟨W,⟨m0,w0⟩,turn⟩:=h
  refine wpAny_While (codeAny_whileLoop (fun n s'=>∃σ' H',Inv X pins σ' H' s'/\W n σ' H') ?_ m0 ⟨σ,H,I,w0⟩)
  rintro n s1 ⟨σ1,H1,I1,w1⟩
  refine wpAny_passesOwn hp (thn (hc pins s1 σ1 H1 _ I1 (turn n σ1 H1 w1)) fun b s2 ⟨H2,I2,q2⟩=>?_)
  cases b with
  | true =>
    obtain⟨N,hN,q2⟩:=q2
    rw[if_pos rfl]
    refine wpAny_passesOwn hp (thn (hb pins s2 σ1 H2 _ I2 q2) fun f s3 q3=>?_)
    cases f with
    | next =>
      obtain⟨σ3,H3,I3,n3⟩:=q3
      obtain⟨m',hm,w3⟩:=hN σ3 H3 n3
      exact⟨m',hm,σ3,H3,I3,w3⟩
    | cont =>
      obtain⟨σ3,H3,I3,n3⟩:=q3
      obtain⟨m',hm,w3⟩:=hN σ3 H3 n3
      exact⟨m',hm,σ3,H3,I3,w3⟩
    | brk=>exact q3
    | ret v=>exact q3
  | false =>
    rw[if_neg Bool.false_ne_true]
    exact wpAny_execs_nil ⟨σ1,H2,I2,q2⟩
end
structure It where
  go:Nat->Hp->Prop
  yld:Nat->Hp->V->Hp->Prop
  stop:Nat->Hp->Prop
def jf (X:Cx)(pins:List (Addr×Obj))(H:Hp)(b:Addr): Prop :=
  H b=none/\b≠X.env.locals/\b∉X.fs/\(b∈X.ex\/X.s₀.heap.objs.size<=b)/\(∀x c,X.env.cells.lookup x=some c->c≠b)/\∀p∈X.pn++pins,p.1≠b
theorem Inv.qL {X:Cx}{pins:List (Addr×Obj)}{σ:St}{H H':Hp}{s:Shared}{b:Addr}(I:Inv X pins σ H s)(hb:s.heap.objs.size<=b)(hn:H' b=none): jf X pins H' b:=by
  refine⟨hn,Nat.ne_of_gt (Nat.lt_of_lt_of_le I.lt hb),I.vn hb,.inr (Nat.le_trans I.sz hb),fun x c e z=>?_,fun p hp z=>?_⟩
  · obtain⟨v,q⟩:=I.cell x c e
    exact absurd (Nat.lt_of_lt_of_le q.lt (by rw[z];exact hb)) (Nat.lt_irrefl _)
  · exact absurd (Nat.lt_of_lt_of_le (Heap.lt_size (I.pin p hp).1) (by rw[z];exact hb)) (Nat.lt_irrefl _)
structure Turn (P:Program)(w:World)(K:PySem.W.Frag)(tg:Expr)(J:It)(fp:List Addr)(it:Addr)(tn:Nat->Heap->Prop): Prop where
  mem:it∈fp
  obj:∀i h,tn i h->∀b∈fp,∃o,h.get? b=some o/\∀v,o.data≠.cell v
  keep:∀i h h',tn i h->(∀b∈fp,∀o,h.get? b=some o->h'.get? b=some o)->tn i h'
  item:∀(X:Cx),X.prog=P->X.w=w->X.K=K->X.calm=true->∀(i:Nat) (pins:List (Addr×Obj)) (s:Shared) (σ:St) (H:Hp) (E:Value->Shared->Prop),Inv X pins σ H s->(∀b∈fp,jf X pins H b)->tn i s.heap->J.go i H ->
    wpAny (model P w) X.A (pyNext (.ref it)) (fun r s1=>∃u,r=some u ∧
      wpAny (model P w) X.A (letOwnedTupleGo tg (.ref it) u) (fun _ s2=>∃x H',Inv X pins σ H' s2/\RelV x u/\J.yld i H x H'/\tn (i+1) s2.heap/\∀b∈fp,H' b=none) E s1) E s
  done:∀(X:Cx),X.prog=P->X.w=w->X.K=K->X.calm=true->∀(i:Nat) (pins:List (Addr×Obj)) (s:Shared) (σ:St) (H:Hp) (E:Value->Shared->Prop),Inv X pins σ H s->(∀b∈fp,jf X pins H b)->tn i s.heap->J.stop i H ->
    wpAny (model P w) X.A (pyNext (.ref it)) (fun r s1=>r=none/\Inv X pins σ H s1) E s
  self:∀(A:Around) (i:Nat) (s:Shared) (Q:Value->Shared->Prop) (E:Value->Shared->Prop),tn i s.heap->Q (.ref it) s->wpAny (model P w) A (pyIter (.ref it)) Q E s
abbrev TI:=St->Hp->(It->Hp->Prop)->Prop
def PIE (X:Cx)(pins:List (Addr×Obj))(σ:St)(tg:Expr)(R:It->Hp->Prop)(itv:Value)(s2:Shared): Prop :=
  ∃(it:Addr) (fp:List Addr) (tn:Nat->Heap->Prop) (J:It) (H':Hp),itv=.ref it/\Inv X pins σ H' s2/\Turn X.prog X.w X.K tg J fp it tn/\tn 0 s2.heap/\(∀b∈fp,jf X pins H' b)/\R J H'
def PI (X:Cx)(tg iter:Expr)(wi:TI): Prop :=
  ∀(pins:List (Addr×Obj)) (s:Shared) (σ:St) (H:Hp) (R:It->Hp->Prop),Inv X pins σ H s->wi σ H R ->
    wpAny (model X.prog X.w) X.A (eval iter X.env) (fun v s1=>wpAny (model X.prog X.w) X.A (pyIter v) (PIE X pins σ tg R) X.xe s1) X.xe s
theorem pL {M:Model}{A:Around}{E:Value->Shared->Prop}{s:Shared}{tg:Expr}{it:Addr}{u:Value}{o:Obj}{n:String}{vs:Array Value}{Q:Unit->Shared->Prop}(ho:s.heap.get? it=some o)(hc:o.cls=.type n)(hd:o.data=.fields vs)
    (hn:["enumerate", "zip", "dict_itemiterator", "dict_reverseitemiterator", "odict_iterator", "itertools.zip_longest", "itertools.pairwise"].contains n=false) (hQ:Q () s):wpAny M A (letOwnedTupleGo tg (.ref it) u) Q E s:=by
  unfold letOwnedTupleGo
  cases tg<;>first
    | exact wpAny_pure hQ
    | (cases u<;>first
        | exact wpAny_pure hQ
        | (refine wpAny_bind (wpAny_load ho ?_)
           rw[hc,hd]
           show wpAny M A (if (["enumerate", "zip", "dict_itemiterator", "dict_reverseitemiterator", "odict_iterator", "itertools.zip_longest", "itertools.pairwise"].contains n&&vs[0]?==some (rawInt _))=true then _ else _) Q E s
           rw[if_neg (by intro h;rw[hn,Bool.false_and] at h;cases h)]
           exact wpAny_pure hQ))
def Itl (K:PySem.W.Frag)(a:Addr): It :=
  ⟨fun i H=>∃xs x,SqL K H a xs/\xs[i]?=some x,fun i H x H'=>H'=H/\∀xs,SqL K H a xs->xs[i]?=some x,fun i H=>∃xs,SqL K H a xs/\xs.length<=i⟩
def Itt (K:PySem.W.Frag)(a:Addr): It :=
  ⟨fun i H=>∃xs x,SqT K H a xs/\xs[i]?=some x,fun i H x H'=>H'=H/\∀xs,SqT K H a xs->xs[i]?=some x,fun i H=>∃xs,SqT K H a xs/\xs.length<=i⟩
def Itr (lo:Int)(n:Nat): It:=⟨fun i _=>i < n,fun i H x H'=>H'=H/\x=.int (lo+i),fun i _=>n<=i⟩
theorem oA {P:Program}{w:World}{K:PySem.W.Frag}{tg:Expr}(a it:Addr): Turn P w K tg (Itl K a) [it] it (fun i h=>h.IsListIter it a i) where
  mem:=by simp
  obj:=fun i h st b hb=>by
    have e:b=it:=by simpa using hb
    subst e
    obtain⟨o,e,c,d⟩:=st
    exact⟨o,e,fun v z=>by rw[d] at z;cases z⟩
  keep:=fun i h h' st k=>st.at fun o e=>k it (by simp) o e
  item:=by
    intro X hP hw hK hc i pins s σ H E I hf st hg
    subst hP hw hK
    obtain⟨xs,x,hq,hx⟩:=hg
    obtain⟨its,rv,p,hz⟩:=I.list hq
    obtain⟨u,hu,ru⟩:=rv.get hx
    obtain⟨f0,f1,f2,f3,f4,f5⟩:=hf it (by simp)
    refine wpAny_pyNext_list_item st p.isList (x:=u) (by simpa using hu) fun h' st' sb=>?_
    have I1:Inv X pins σ H { s with heap:=h' }:=I.turned (t':=s.toks) (fun b o hb e=>(sb.2 b hb).trans e) f0 f1 f3 f4 f5
    obtain⟨o,e,c,d⟩:=id st'
    exact⟨u,rfl,pL (s:={ s with heap:=h' }) e c d (by decide) ⟨x,H,I1,ru,⟨rfl,fun ys hy=>by rw[I.pG hy hq];exact hx⟩,st',fun b hb=>(hf b hb).1⟩⟩
  done:=by
    intro X hP hw hK hc i pins s σ H E I hf st hg
    subst hP hw hK
    obtain⟨xs,hq,hx⟩:=hg
    obtain⟨its,rv,p,hz⟩:=I.list hq
    obtain⟨f0,f1,f2,f3,f4,f5⟩:=hf it (by simp)
    have hl:=rv.length
    exact wpAny_pyNext_list_end (I.ok.hd hc) st p.isList (by simp;omega) fun h' eb=>⟨rfl,I.turned (t':=s.toks) (fun b o hb e=>eb b o hb e) f0 f1 f3 f4 f5⟩
  self:=fun _ _ _ _ _ st h=>wpAny_pyIter_listiter st h
theorem mz {P:Program}{w:World}{K:PySem.W.Frag}{tg:Expr}(a it:Addr): Turn P w K tg (Itt K a) [it] it (fun i h=>h.IsTupleIter it a i) where
  mem:=by simp
  obj:=fun i h st b hb=>by
    have e:b=it:=by simpa using hb
    subst e
    obtain⟨o,e,c,d⟩:=st
    exact⟨o,e,fun v z=>by rw[d] at z;cases z⟩
  keep:=fun i h h' st k=>st.at fun o e=>k it (by simp) o e
  item:=by
    intro X hP hw hK hc i pins s σ H E I hf st hg
    subst hP hw hK
    obtain⟨xs,x,hq,hx⟩:=hg
    obtain⟨its,rv,p,hz⟩:=I.tuple hq
    obtain⟨u,hu,ru⟩:=rv.get hx
    obtain⟨f0,f1,f2,f3,f4,f5⟩:=hf it (by simp)
    refine wpAny_pyNext_tuple_item st (show s.heap.IsTuple a its.toArray from p) (x:=u) (by simpa using hu) fun h' st' sb=>?_
    have I1:Inv X pins σ H { s with heap:=h' }:=I.turned (t':=s.toks) (fun b o hb e=>(sb.2 b hb).trans e) f0 f1 f3 f4 f5
    obtain⟨o,e,c,d⟩:=id st'
    exact⟨u,rfl,pL (s:={ s with heap:=h' }) e c d (by decide) ⟨x,H,I1,ru,⟨rfl,fun ys hy=>by rw[I.oz hy hq];exact hx⟩,st',fun b hb=>(hf b hb).1⟩⟩
  done:=by
    intro X hP hw hK hc i pins s σ H E I hf st hg
    subst hP hw hK
    obtain⟨xs,hq,hx⟩:=hg
    obtain⟨its,rv,p,hz⟩:=I.tuple hq
    obtain⟨f0,f1,f2,f3,f4,f5⟩:=hf it (by simp)
    have hl:=rv.length
    exact wpAny_pyNext_tuple_end (I.ok.hd hc) st (show s.heap.IsTuple a its.toArray from p) (by simp;omega) fun h' eb=>⟨rfl,I.turned (t':=s.toks) (fun b o hb e=>eb b o hb e) f0 f1 f3 f4 f5⟩
  self:=fun _ _ _ _ _ st h=>wpAny_pyIter_tupleiter st h
theorem mB {P:Program}{w:World}{K:PySem.W.Frag}{tg:Expr}(it:Addr)(lo:Int)(n:Nat): Turn P w K tg (Itr lo n) [it] it (fun i h=>IsRangeIter h it (lo+(i:Nat)*1) ((n:Int)-(i:Nat)) 1) where
  mem:=by simp
  obj:=fun i h st b hb=>by
    have e:b=it:=by simpa using hb
    subst e
    exact⟨_,st,fun v z=>by
      have z':Data.fields _=Data.cell v:=z
      cases z'⟩
  keep:=fun i h h' st k=>k it (by simp) _ st
  item:=by
    intro X hP hw hK hc i pins s σ H E I hf st hg
    subst hP hw hK
    obtain⟨f0,f1,f2,f3,f4,f5⟩:=hf it (by simp)
    have W:=Walks.range (prog:=X.prog) (w:=X.w) (I.ok.hd hc) it lo 1 n
    refine W.item i s _ _ hg st fun v h' tk hv st' kk=>?_
    obtain⟨t,rfl⟩:=hv
    have I1:Inv X pins σ H { s with heap:=h',toks:=tk }:=I.turned (fun b o hb e=>kk b o (by simpa using hb) e) f0 f1 f3 f4 f5
    refine⟨_,rfl,pL (s:={ s with heap:=h',toks:=tk }) (n := "range_iterator") st' rfl rfl (by decide) ⟨.int (lo+i),H,I1,⟨t,?_⟩,⟨rfl,rfl⟩,st',fun b hb=>(hf b hb).1⟩⟩
    rw[Int.mul_one]
  done:=by
    intro X hP hw hK hc i pins s σ H E I hf st hg
    subst hP hw hK
    obtain⟨f0,f1,f2,f3,f4,f5⟩:=hf it (by simp)
    exact wpAny_pyNext_range_end (I.ok.hd hc) st (by have:n<=i:=hg;omega) fun h' eb=>⟨rfl,I.turned (t':=s.toks) (fun b o hb e=>eb b o hb e) f0 f1 f3 f4 f5⟩
  self:=fun _ _ _ _ _ st h=>wpAny_pyIter_rangeiter st h
end L2
namespace L2
open PySem PySem.Spec PyProof.Rows
section
variable {X:Cx}{tg:Expr}
def ug (K:PySem.W.Frag)(tl:TE): TI:=fun σ H R=>tl σ H fun x H1=>∃a,x=.ref a/\(∃xs,SqL K H1 a xs)/\R (Itl K a) H1
def vA (K:PySem.W.Frag)(tl:TE): TI:=fun σ H R=>tl σ H fun x H1=>∃a,x=.ref a/\(∃xs,SqT K H1 a xs)/\R (Itt K a) H1
theorem cO {l:Expr}{tl:TE}(hl:PE X l tl): PI X tg l (ug X.K tl):=by
  intro pins s σ H R I h
  refine thn (hl pins s σ H _ I h) fun v s1 ⟨x,H1,I1,r1,q1⟩=>?_
  obtain⟨a,e,⟨xs,hq⟩,q⟩:=q1
  subst e
  cases r1
  obtain⟨its,rv,p,hz⟩:=I1.list hq
  refine wpAny_pyIter_list p.isList ?_
  refine⟨s1.heap.objs.size,[s1.heap.objs.size],_,_,H1,rfl,I1.kept (t':=s1.toks) fun b o e=>Heap.get?_push_of_some _ e,oA a _,⟨_,Heap.get?_push_size _ rfl,rfl,rfl⟩,fun b hb=>?_,q⟩
  have e:b=s1.heap.objs.size:=by simpa using hb
  subst e
  exact I1.qL (Nat.le_refl _) (I1.hok.fresh (Nat.le_refl _))
theorem sv {l:Expr}{tl:TE}(hl:PE X l tl): PI X tg l (vA X.K tl):=by
  intro pins s σ H R I h
  refine thn (hl pins s σ H _ I h) fun v s1 ⟨x,H1,I1,r1,q1⟩=>?_
  obtain⟨a,e,⟨xs,hq⟩,q⟩:=q1
  subst e
  cases r1
  obtain⟨its,rv,p,hz⟩:=I1.tuple hq
  refine wpAny_pyIter_tuple (show s1.heap.IsTuple a its.toArray from p) ?_
  refine⟨s1.heap.objs.size,[s1.heap.objs.size],_,_,H1,rfl,I1.kept (t':=s1.toks) fun b o e=>Heap.get?_push_of_some _ e,mz a _,⟨_,Heap.get?_push_size _ rfl,rfl,rfl⟩,fun b hb=>?_,q⟩
  have e:b=s1.heap.objs.size:=by simpa using hb
  subst e
  exact I1.qL (Nat.le_refl _) (I1.hok.fresh (Nat.le_refl _))
theorem pM {pins:List (Addr×Obj)}{σ:St}{H:Hp}{s:Shared}{R:It->Hp->Prop}{E:Value->Shared->Prop}{lo hi:Int}{t u v:Tok}{tk:Nat}(I:Inv X pins σ H s)(h1:-(2^62)<=lo)(h2:lo < 2^62)(h3:-(2^62)<=hi)(h4:hi < 2^62)
    (q:R (Itr lo (hi-lo).toNat) H):wpAny (model X.prog X.w) X.A (pyIter (.ref s.heap.objs.size)) (PIE X pins σ tg R) E { s with heap:=s.heap.push { cls:=.type "range",data:=.fields #[.int lo t,.int hi u,.int 1 v] },toks:=tk }:=by
  refine wpAny_pyIter_range (IsRange.new ..) (small_one h1 h2 h3 h4) ?_
  have I1:Inv X pins σ H { s with heap:=s.heap.push { cls:=.type "range",data:=.fields #[.int lo t,.int hi u,.int 1 v] },toks:=tk }:=I.kept fun b o e=>Heap.get?_push_of_some _ e
  refine⟨(s.heap.push { cls:=.type "range",data:=.fields #[.int lo t,.int hi u,.int 1 v] }).objs.size,[(s.heap.push { cls:=.type "range",data:=.fields #[.int lo t,.int hi u,.int 1 v] }).objs.size],_,_,H,rfl,
    I1.kept (t':=tk) fun b o e=>Heap.get?_push_of_some _ e,mB _ lo (hi-lo).toNat,?_,fun b hb=>?_,q⟩
  · have e1:lo+((0:Nat):Int)*1=lo:=by simp
    have e2:(((hi-lo).toNat:Nat):Int)-((0:Nat):Int)=Builtin.Range.rangeSize lo hi 1:=by rw[rangeSize_one];split<;>omega
    show IsRangeIter _ _ (lo+((0:Nat):Int)*1) ((((hi-lo).toNat:Nat):Int)-((0:Nat):Int)) 1
    rw[e1,e2]
    exact Heap.get?_push_size _ rfl
  · have e:b=(s.heap.push { cls:=.type "range",data:=.fields #[.int lo t,.int hi u,.int 1 v] }).objs.size:=by simpa using hb
    subst e
    exact I1.qL (Nat.le_refl _) (I1.hok.fresh (Nat.le_refl _))
def uh (ta:TA): TI:=fun σ H R=>ta σ H fun vs H1=>∃j:Int,vs=[.int j]/\-(2^62)<=j/\j < 2^62/\R (Itr 0 j.toNat) H1
theorem oB {a:Expr} {ta:TA} {p pos:Pos} (hg:Gl X "range") (hm:X.mg "range" = none) (ha:PA X [a] ta) (hs:starEach [a] X.env=[(false,eval a X.env)]:=by rfl):PI X tg (.Call (.Name "range" p) [a] [] pos) (uh ta):=by
  intro pins s σ H R I h
  refine Call_ (kK I hg hm boot_range (PyProof.Rows.callWith_type1 (thn (ha pos pins s σ H _ I h) fun us s1 ⟨vs,H1,I1,r1,q1⟩=>?_) hs rfl))
  obtain⟨j,e,q1,q2,q⟩:=q1
  subst e
  cases r1 with
  | cons r rr =>
    cases rr
    obtain⟨t,rfl⟩:=r
    exact call_range_1 (pM I1 (by omega) (by omega) q1 q2 (by simpa using q))
def vB (wi:TI)(g:TG)(tb:TS): TS:=fun D σ H=>wi σ H fun J H1=>∃W:Nat->Nat->St->Hp->Prop,(∃m,W 0 m σ H1)/\∀i m σ H,W i m σ H ->
  (J.stop i H/\D.nx σ H)\/(J.go i H/\∃N:St->Hp->Prop,(∀σ' H',N σ' H'->∃m',m' < m/\W (i+1) m' σ' H')/\∀x H',J.yld i H x H'->g x σ H' fun σ2 H2=>tb { D with nx:=N,ct:=N,bk:=D.nx } σ2 H2)
def jg (fp:List Addr)(h:Heap): List (Addr×Obj):=fp.filterMap fun b=>(h.get? b).map fun o=>(b,o)
theorem eh {fp:List Addr}{h:Heap}{b:Addr}{o:Obj}(hb:b∈fp)(e:h.get? b=some o): (b,o)∈jg fp h:=List.mem_filterMap.mpr ⟨b,hb,by rw[e];rfl⟩
theorem oC {fp:List Addr}{h:Heap}{p:Addr×Obj}(hp:p∈jg fp h): p.1∈fp/\h.get? p.1=some p.2:=by
  obtain⟨b,hb,e⟩:=List.mem_filterMap.mp hp
  cases q:h.get? b with
  | none=>rw[q] at e;cases e
  | some o =>
    rw[q] at e
    have e':(b,o)=p:=Option.some.inj e
    subst e'
    exact⟨hb,q⟩
theorem Inv.pinned {pins:List (Addr×Obj)}{σ:St}{H:Hp}{s:Shared}{fp:List Addr}(I:Inv X pins σ H s)(hf:∀b∈fp,jf X pins H b)(ho:∀b∈fp,∃o,s.heap.get? b=some o/\∀v,o.data≠.cell v): Inv X (pins++jg fp s.heap) σ H s :=
  I.nF fun p hp=>(List.mem_append.mp hp).elim (fun z=>I.pin p (List.mem_append_right _ z)) fun z=>by
    obtain⟨hb,e⟩:=oC z
    obtain⟨f0,f1,f2,_⟩:=hf p.1 hb
    obtain⟨o,e',d⟩:=ho p.1 hb
    rw[e] at e';cases e'
    exact⟨e,f0,f1,f2,d⟩
theorem Inv.gL {pins pl:List (Addr×Obj)}{σ:St}{H:Hp}{s:Shared}(I:Inv X (pins++pl) σ H s): Inv X pins σ H s:=I.nF fun p hp=>I.pin p (List.mem_append_right _ (List.mem_append_left _ hp))
theorem dS {iter:Expr}{body:List Stmt}{wi:TI}{g:TG}{tb:TS}{pos:Pos}(hp:PassesOwn (model X.prog X.w) X.A X.env X.xe)(hc:X.calm=true)(hi:PI X tg iter wi)(hg:PG X tg g)(hb:PSs X body tb)
    (hs:∀x,foldedSetIterable iter X.env x=pure x:=by intro _;rfl):PS X (.For tg iter body [] pos) (vB wi g tb):=by
  intro pins s σ H D I h
  refine wpAny_For (thn (hi pins s σ H _ I h) fun v s1 h1=>thn h1 fun itv s2 h2=>?_) hs
  obtain⟨it,fp,tn,J,H2,e,I2,T,st2,f2,W,⟨m0,w0⟩,turn⟩:=h2
  subst e
  have stat:∀{H':Hp},(∀b∈fp,H' b=none)->∀b∈fp,jf X pins H' b:=fun hn b hb=>⟨hn b hb,(f2 b hb).2⟩
  refine codeAny_forLoop_any (fun n s'=>∃i σ' H',Inv X pins σ' H' s'/\tn i s'.heap/\(∀b∈fp,H' b=none)/\W i n σ' H') ?_ m0 ⟨0,σ,H2,I2,st2,fun b hb=>(f2 b hb).1,w0⟩
  rintro n s3 ⟨i,σ3,H3,I3,st3,fr3,w3⟩
  rcases turn i n σ3 H3 w3 with ⟨stop,qn⟩ | ⟨go,N,hN,step⟩
  · refine wpAny_passesOwn hp (thn (T.done X rfl rfl rfl hc i pins s3 σ3 H3 X.xe I3 (stat fr3) st3 stop) fun r s4 ⟨hr,I4⟩=>?_)
    subst hr
    exact wpAny_execs_nil ⟨σ3,H3,I4,qn⟩
  · refine wpAny_passesOwn hp (thn (T.item X rfl rfl rfl hc i pins s3 σ3 H3 X.xe I3 (stat fr3) st3 go) fun r s4 ⟨u,hr,h4⟩=>?_)
    subst hr
    refine wpAny_passesOwn hp (thn h4 fun _ s5 ⟨x,H5,I5,r5,y5,st5,fr5⟩=>?_)
    have I5':=I5.pinned (stat fr5) (T.obj _ _ st5)
    refine wpAny_passesOwn hp (thn (hg _ s5 σ3 H5 x u _ I5' r5 (step x H5 y5)) fun _ s6 ⟨σ6,H6,I6,q6⟩=>?_)
    refine wpAny_passesOwn hp (thn (hb _ s6 σ6 H6 _ I6 q6) fun f s7 q7=>?_)
    have again:∀{σ7:St} {H7:Hp},Inv X (pins++jg fp s5.heap) σ7 H7 s7->N σ7 H7->∃m,m < n/\∃i σ' H',Inv X pins σ' H' s7/\tn i s7.heap/\(∀b∈fp,H' b=none)/\W i m σ' H':=fun {σ7 H7} I7 n7=>by
      obtain⟨m',hm,w7⟩:=hN σ7 H7 n7
      refine⟨m',hm,i+1,σ7,H7,I7.gL,T.keep _ _ _ st5 fun b hb o e=>(I7.pin (b,o) (List.mem_append_right _ (List.mem_append_right _ (eh hb e)))).1,fun b hb=>?_,w7⟩
      obtain⟨o,e,d⟩:=T.obj _ _ st5 b hb
      exact(I7.pin (b,o) (List.mem_append_right _ (List.mem_append_right _ (eh hb e)))).2.1
    cases f with
    | next=>obtain⟨σ7,H7,I7,n7⟩:=q7;exact again I7 n7
    | cont=>obtain⟨σ7,H7,I7,n7⟩:=q7;exact again I7 n7
    | brk=>obtain⟨σ7,H7,I7,q7⟩:=q7;exact⟨σ7,H7,I7.gL,q7⟩
    | ret v=>obtain⟨x7,σ7,H7,I7,r7,q7⟩:=q7;exact⟨x7,σ7,H7,I7.gL,r7,q7⟩
end
theorem gM {K:PySem.W.Frag}{a:Addr}{xs:List V}{g:TG}{tb:TS}{D:Ends}{σ:St}{H:Hp}(Pv:Nat->St->Hp->Prop)(h0:Pv 0 σ H)(hl:∀i σ H,i<=xs.length->Pv i σ H->SqL K H a xs)
    (hs:∀i x σ H,xs[i]?=some x->Pv i σ H->g x σ H fun σ2 H2=>tb { D with nx:=Pv (i+1),ct:=Pv (i+1),bk:=D.nx } σ2 H2) (hd:∀σ H,Pv xs.length σ H->D.nx σ H) :
    ∃W:Nat->Nat->St->Hp->Prop,(∃m,W 0 m σ H)/\∀i m σ H,W i m σ H ->
      ((Itl K a).stop i H/\D.nx σ H)\/((Itl K a).go i H/\∃N:St->Hp->Prop,(∀σ' H',N σ' H'->∃m',m' < m/\W (i+1) m' σ' H')/\∀x H',(Itl K a).yld i H x H'->g x σ H' fun σ2 H2=>tb { D with nx:=N,ct:=N,bk:=D.nx } σ2 H2):=by
  refine⟨fun i m σ H=>m=xs.length-i/\i<=xs.length/\Pv i σ H,⟨xs.length,by simp,Nat.zero_le _,h0⟩,?_⟩
  rintro i m σ H ⟨rfl,hi,p⟩
  have q:=hl i σ H hi p
  by_cases hlt:i < xs.length
  · refine .inr ⟨⟨xs,xs[i],q,by simp[hlt]⟩,Pv (i+1),fun σ' H' p'=>⟨xs.length-(i+1),by omega,rfl,hlt,p'⟩,fun x H' y=>?_⟩
    obtain⟨e,y⟩:=y
    subst e
    exact hs i x σ _ (y xs q) p
  · have e:i=xs.length:=by omega
    subst e
    exact .inl ⟨⟨xs,q,Nat.le_refl _⟩,hd σ H p⟩
theorem qM {K:PySem.W.Frag}{a:Addr}{xs:List V}{g:TG}{tb:TS}{D:Ends}{σ:St}{H:Hp}(Pv:Nat->St->Hp->Prop)(h0:Pv 0 σ H)(hl:∀i σ H,i<=xs.length->Pv i σ H->SqT K H a xs)
    (hs:∀i x σ H,xs[i]?=some x->Pv i σ H->g x σ H fun σ2 H2=>tb { D with nx:=Pv (i+1),ct:=Pv (i+1),bk:=D.nx } σ2 H2) (hd:∀σ H,Pv xs.length σ H->D.nx σ H) :
    ∃W:Nat->Nat->St->Hp->Prop,(∃m,W 0 m σ H)/\∀i m σ H,W i m σ H ->
      ((Itt K a).stop i H/\D.nx σ H)\/((Itt K a).go i H/\∃N:St->Hp->Prop,(∀σ' H',N σ' H'->∃m',m' < m/\W (i+1) m' σ' H')/\∀x H',(Itt K a).yld i H x H'->g x σ H' fun σ2 H2=>tb { D with nx:=N,ct:=N,bk:=D.nx } σ2 H2):=by
  refine⟨fun i m σ H=>m=xs.length-i/\i<=xs.length/\Pv i σ H,⟨xs.length,by simp,Nat.zero_le _,h0⟩,?_⟩
  rintro i m σ H ⟨rfl,hi,p⟩
  have q:=hl i σ H hi p
  by_cases hlt:i < xs.length
  · refine .inr ⟨⟨xs,xs[i],q,by simp[hlt]⟩,Pv (i+1),fun σ' H' p'=>⟨xs.length-(i+1),by omega,rfl,hlt,p'⟩,fun x H' y=>?_⟩
    obtain⟨e,y⟩:=y
    subst e
    exact hs i x σ _ (y xs q) p
  · have e:i=xs.length:=by omega
    subst e
    exact .inl ⟨⟨xs,q,Nat.le_refl _⟩,hd σ H p⟩
theorem oE {lo:Int}{n:Nat}{g:TG}{tb:TS}{D:Ends}{σ:St}{H:Hp}(Pv:Nat->St->Hp->Prop)(h0:Pv 0 σ H)
    (hs:∀i σ H,i < n->Pv i σ H->g (.int (lo+i)) σ H fun σ2 H2=>tb { D with nx:=Pv (i+1),ct:=Pv (i+1),bk:=D.nx } σ2 H2) (hd:∀σ H,Pv n σ H->D.nx σ H) :
    ∃W:Nat->Nat->St->Hp->Prop,(∃m,W 0 m σ H)/\∀i m σ H,W i m σ H ->
      ((Itr lo n).stop i H/\D.nx σ H)\/((Itr lo n).go i H/\∃N:St->Hp->Prop,(∀σ' H',N σ' H'->∃m',m' < m/\W (i+1) m' σ' H')/\∀x H',(Itr lo n).yld i H x H'->g x σ H' fun σ2 H2=>tb { D with nx:=N,ct:=N,bk:=D.nx } σ2 H2):=by
  refine⟨fun i m σ H=>m=n-i/\i<=n/\Pv i σ H,⟨n,by simp,Nat.zero_le _,h0⟩,?_⟩
  rintro i m σ H ⟨rfl,hi,p⟩
  by_cases hlt:i < n
  · refine .inr ⟨hlt,Pv (i+1),fun σ' H' p'=>⟨n-(i+1),by omega,rfl,hlt,p'⟩,fun x H' y=>?_⟩
    obtain⟨e,y⟩:=y
    subst e y
    exact hs i σ _ hlt p
  · have e:i=n:=by omega
    subst e
    exact .inl ⟨Nat.le_refl _,hd σ H p⟩
end L2
namespace L2
open PySem PySem.Spec PyProof.Rows
abbrev R2:=V->V->Hp->VK->Prop
def OpR (X:Cx)(f:Value->Value->Sem Value)(r:R2): Prop :=
  ∀(pins:List (Addr×Obj)) (s:Shared) (σ:St) (H:Hp) (x y:V) (v u:Value) (Q:VK),Inv X pins σ H s->RelV x v->RelV y u->r x y H Q ->
    wpAny (model X.prog X.w) X.A (f v u) (EP X pins σ Q) X.xe s
def UnR (X:Cx)(f:Value->Sem Value)(r:V->Hp->VK->Prop): Prop :=
  ∀(pins:List (Addr×Obj)) (s:Shared) (σ:St) (H:Hp) (x:V) (v:Value) (Q:VK),Inv X pins σ H s->RelV x v->r x H Q ->
    wpAny (model X.prog X.w) X.A (f v) (EP X pins σ Q) X.xe s
def dw (X:Cx)(f:Value)(r:List V->Hp->VK->Prop): Prop :=
  ∀(pins:List (Addr×Obj)) (s:Shared) (σ:St) (H:Hp) (xs:List V) (us:List Value) (Q:VK),Inv X pins σ H s->Vals xs us->r xs H Q ->
    wpAny (model X.prog X.w) X.A (call f us) (EP X pins σ Q) X.xe s
def tOp (r:R2)(ta tb:TE): TE:=fun σ H Q=>ta σ H fun x H1=>tb σ H1 fun y H2=>r x y H2 Q
def tUn (r:V->Hp->VK->Prop)(ta:TE): TE:=fun σ H Q=>ta σ H fun x H1=>r x H1 Q
def rI (C:Int->Int->Prop)(g:Int->Int->V): R2:=fun x y H Q=>∃i j,x=.int i/\y=.int j/\C i j/\Q (g i j) H
def rI0 (g:Int->Int->V): R2:=fun x y H Q=>∃i j,x=.int i/\y=.int j/\Q (g i j) H
def rU (g:Int->V): V->Hp->VK->Prop:=fun x H Q=>∃i,x=.int i/\Q (g i) H
section
variable {X:Cx}{a b c:Expr}{ta tb tc:TE}{pos:Pos}
theorem sx (ha:PE X a ta)(hb:PE X b tb){pins:List (Addr×Obj)}{s:Shared}{σ:St}{H:Hp}{R:V->V->Hp->Prop}(I:Inv X pins σ H s)
    (h:ta σ H fun x H1=>tb σ H1 fun y H2=>R x y H2) {Q:Value->Shared->Prop} {f:Value->Value->Sem Value}
    (hf:∀v u s2 x y H2,Inv X pins σ H2 s2->RelV x v->RelV y u->R x y H2->wpAny (model X.prog X.w) X.A (f v u) Q X.xe s2) :
    wpAny (model X.prog X.w) X.A (eval a X.env) (fun v s₁=>wpAny (model X.prog X.w) X.A (eval b X.env) (fun u s₂=>wpAny (model X.prog X.w) X.A (f v u) Q X.xe s₂) X.xe s₁) X.xe s:=by
  refine thn (ha pins s σ H _ I h) fun v s1 ⟨x,H1,I1,r1,q1⟩=>?_
  refine thn (hb pins s1 σ H1 _ I1 q1) fun u s2 ⟨y,H2,I2,r2,q2⟩=>?_
  exact hf v u s2 x y H2 I2 r1 r2 q2
theorem aE {op:Operator}{r:R2}(ho:OpR X (binaryOp op) r)(ha:PE X a ta)(hb:PE X b tb): PE X (.BinOp a op b pos) (tOp r ta tb):=by
  intro pins s σ H Q I h
  exact wpAny_BinOp (sx ha hb I h fun v u s2 x y H2 I2 rx ry q=>ho pins s2 σ H2 x y v u Q I2 rx ry q)
theorem pN {op:UnaryOp}{r:V->Hp->VK->Prop}(ho:UnR X (unaryOp op) r)(ha:PE X a ta): PE X (.UnaryOp op a pos) (tUn r ta):=by
  intro pins s σ H Q I h
  exact UnaryOp_ (thn (ha pins s σ H _ I h) fun v s1 ⟨x,H1,I1,r1,q1⟩=>ho pins s1 σ H1 x v Q I1 r1 q1)
theorem opI {f:Value->Value->Sem Value}{C:Int->Int->Prop}{g:Int->Int->Int}
    (rule:∀(i j:Int) (t u:Tok) (s:Shared) (Q:Value->Shared->Prop) (E:Value->Shared->Prop),C i j->Q (.int (g i j) s.toks) { s with toks:=s.toks+1 }->wpAny (model X.prog X.w) X.A (f (.int i t) (.int j u)) Q E s) :
    OpR X f (rI C fun i j=>.int (g i j)):=by
  intro pins s σ H x y v u Q I rx ry h
  obtain⟨i,j,rfl,rfl,hc,q⟩:=h
  obtain⟨t,rfl⟩:=rx
  obtain⟨t',rfl⟩:=ry
  exact rule i j t t' s _ _ hc ⟨.int (g i j),H,I.tok _,⟨_,rfl⟩,q⟩
theorem sB {f:Value->Value->Sem Value}{g:Int->Int->Int}
    (rule:∀(i j:Int) (t u:Tok) (s:Shared) (Q:Value->Shared->Prop) (E:Value->Shared->Prop),Q (.int (g i j) s.toks) { s with toks:=s.toks+1 }->wpAny (model X.prog X.w) X.A (f (.int i t) (.int j u)) Q E s) :
    OpR X f (rI0 fun i j=>.int (g i j)):=by
  intro pins s σ H x y v u Q I rx ry h
  obtain⟨i,j,rfl,rfl,q⟩:=h
  obtain⟨t,rfl⟩:=rx
  obtain⟨t',rfl⟩:=ry
  exact rule i j t t' s _ _ ⟨.int (g i j),H,I.tok _,⟨_,rfl⟩,q⟩
theorem sC {f:Value->Value->Sem Value}{g:Int->Int->Bool}
    (rule:∀(i j:Int) (t u:Tok) (s:Shared) (Q:Value->Shared->Prop) (E:Value->Shared->Prop),Q (.bool (g i j)) s->wpAny (model X.prog X.w) X.A (f (.int i t) (.int j u)) Q E s) :
    OpR X f (rI0 fun i j=>.bl (g i j)):=by
  intro pins s σ H x y v u Q I rx ry h
  obtain⟨i,j,rfl,rfl,q⟩:=h
  obtain⟨t,rfl⟩:=rx
  obtain⟨t',rfl⟩:=ry
  exact rule i j t t' s _ _ ⟨.bl (g i j),H,I,rfl,q⟩
def vC (i j:Int): Prop:=0 < j/\j < 1073741824
def ui (i j:Int): Prop:=0<=j/\j<=1000000/\i.natAbs < 2^64
theorem ie:OpR X (binaryOp .Add) (rI0 fun i j=>.int (i+j)):=sB fun _ _ _ _ _ _ _ q=>add_int q
theorem jh:OpR X (binaryOp .Sub) (rI0 fun i j=>.int (i-j)):=sB fun _ _ _ _ _ _ _ q=>sub_int q
theorem bW:OpR X (binaryOp .FloorDiv) (rI vC fun i j=>.int (i / j)):=opI fun i j _ _ _ _ _ hc q=>by
  have h1:(0:Int) < j:=hc.1
  have h2:j < 1073741824:=hc.2
  exact floordiv_int (by omega) (by rw[Int.fdiv_eq_ediv_of_nonneg i (by omega)];exact q) (.inl (PyProof.noPylong_small (by omega)))
theorem b0:OpR X (binaryOp .Mod) (rI (fun _ j=>0 < j) fun i j=>.int (i%j)):=opI fun i j _ _ _ _ _ hc q=>by
  have h1:(0:Int) < j:=hc
  exact mod_int' (by omega) (by rw[Int.fmod_eq_emod_of_nonneg i (by omega)];exact q)
theorem pO:OpR X (binaryOp .Pow) (rI ui fun i j=>.int (i^j.toNat)):=opI fun _ _ _ _ _ _ _ hc q=>pow_int_small hc.1 hc.2.1 hc.2.2 q
theorem pP:OpR X (binaryOp .LShift) (rI ui fun i j=>.int (i*2^j.toNat)):=opI fun _ _ _ _ _ _ _ hc q=>lshift_int_small hc.1 hc.2.1 hc.2.2 q
theorem uj:OpR X (binaryOp .BitOr) (rI0 fun i j=>.int (Builtin.bitOr i j)):=sB fun _ _ _ _ _ _ _ q=>or_int q
theorem unI {f:Value->Sem Value}{g:Int->Int}
    (rule:∀(i:Int) (t:Tok) (s:Shared) (Q:Value->Shared->Prop) (E:Value->Shared->Prop),Q (.int (g i) s.toks) { s with toks:=s.toks+1 }->wpAny (model X.prog X.w) X.A (f (.int i t)) Q E s) :
    UnR X f (rU fun i=>.int (g i)):=by
  intro pins s σ H x v Q I rx h
  obtain⟨i,rfl,q⟩:=h
  obtain⟨t,rfl⟩:=rx
  exact rule i t s _ _ ⟨.int (g i),H,I.tok _,⟨_,rfl⟩,q⟩
theorem mC:UnR X (unaryOp .USub) (rU fun i=>.int (-i)):=unI fun _ _ _ _ _ q=>neg_int q
end
def uk:V->V->Bool
  | .non,.non=>true | .non,.int _=>true | .int _,.non=>true | .non,.bl _=>true | .bl _,.non=>true | .non,.str _=>true | .str _,.non=>true
  | .int _,.int _=>true | .bl _,.bl _=>true | .str _,.str _=>true | .byt _,.byt _=>true
  | .int _,.str _=>true | .str _,.int _=>true | .bl _,.str _=>true | .str _,.bl _=>true
  | _,_=>false
def rEq:R2:=fun x y H Q=>uk x y=true/\Q (.bl (decide (x=y))) H
def rNe:R2:=fun x y H Q=>uk x y=true/\Q (.bl (!decide (x=y))) H
theorem nG {i j:Int}: decide (V.int i=V.int j)=(i==j):=by
  rw[Bool.eq_iff_iff]
  simp
theorem pQ {i j:Bool}: decide (V.bl i=V.bl j)=(i==j):=by
  rw[Bool.eq_iff_iff]
  simp
theorem nH {i j:Str}: decide (V.str i=V.str j)=(i==j):=by
  rw[Bool.eq_iff_iff]
  simp
theorem nI {i j:Array UInt8}: decide (V.byt i=V.byt j)=(i.toList==j.toList):=by
  rw[Bool.eq_iff_iff]
  cases i
  cases j
  simp
section
variable {X:Cx}{a b c:Expr}{ta tb tc:TE}{pos:Pos}
theorem aK {pins:List (Addr×Obj)}{σ:St}{H:Hp}{s:Shared}{Q:VK}{k k':Bool}(I:Inv X pins σ H s)(q:Q (.bl k) H)(e:k=k'): EP X pins σ Q (.bool k') s:=by
  subst e
  exact⟨.bl k,H,I,rfl,q⟩
theorem gi:OpR X (compareOp .Eq) rEq:=by
  intro pins s σ H x y v u Q I rx ry h
  obtain⟨hs,q⟩:=h
  cases x with
  | non =>
    cases rx
    cases y with
    | non=>cases ry;exact PySem.EqNone.eq_none_none (aK I q (by simp))
    | bl j=>cases ry;exact PySem.EqNone.eq_none_bool (aK I q (by simp))
    | int j=>obtain⟨t',rfl⟩:=ry;exact PySem.EqNone.eq_none_int (aK I q (by simp))
    | str j=>obtain⟨t',rfl⟩:=ry;exact PySem.EqNone.eq_none_str (aK I q (by simp))
    | _=>exact absurd (show false=true from hs) Bool.false_ne_true
  | bl i =>
    cases rx
    cases y with
    | non=>cases ry;exact PySem.EqNone.eq_bool_none (aK I q (by simp))
    | bl j=>cases ry;exact eq_bool (aK I q pQ)
    | str j=>obtain⟨t',rfl⟩:=ry;exact PySem.EqMixed.eq_bool_str (aK I q (by simp))
    | _=>exact absurd (show false=true from hs) Bool.false_ne_true
  | int i =>
    obtain⟨t,rfl⟩:=rx
    cases y with
    | non=>cases ry;exact PySem.EqNone.eq_int_none (aK I q (by simp))
    | int j=>obtain⟨t',rfl⟩:=ry;exact eq_int (aK I q nG)
    | str j=>obtain⟨t',rfl⟩:=ry;exact PySem.EqMixed.eq_int_str (aK I q (by simp))
    | _=>exact absurd (show false=true from hs) Bool.false_ne_true
  | str i =>
    obtain⟨t,rfl⟩:=rx
    cases y with
    | non=>cases ry;exact PySem.EqNone.eq_str_none (aK I q (by simp))
    | bl j=>cases ry;exact PySem.EqMixed.eq_str_bool (aK I q (by simp))
    | int j=>obtain⟨t',rfl⟩:=ry;exact PySem.EqMixed.eq_str_int (aK I q (by simp))
    | str j=>obtain⟨t',rfl⟩:=ry;exact eq_str (aK I q nH)
    | _=>exact absurd (show false=true from hs) Bool.false_ne_true
  | byt i =>
    obtain⟨t,rfl⟩:=rx
    cases y with
    | byt j=>obtain⟨t',rfl⟩:=ry;exact PySem.W.eq_bytes (aK I q nI)
    | _=>exact absurd (show false=true from hs) Bool.false_ne_true
  | _=>cases y<;>exact absurd (show false=true from hs) Bool.false_ne_true
theorem um:OpR X (compareOp .NotEq) rNe:=by
  intro pins s σ H x y v u Q I rx ry h
  obtain⟨hs,q⟩:=h
  cases x with
  | non =>
    cases rx
    cases y with
    | non=>cases ry;exact PySem.EqNone.ne_none_none (aK I q (by simp))
    | bl j=>cases ry;exact PySem.EqNone.ne_none_bool (aK I q (by simp))
    | int j=>obtain⟨t',rfl⟩:=ry;exact PySem.EqNone.ne_none_int (aK I q (by simp))
    | str j=>obtain⟨t',rfl⟩:=ry;exact PySem.EqNone.ne_none_str (aK I q (by simp))
    | _=>exact absurd (show false=true from hs) Bool.false_ne_true
  | bl i =>
    cases rx
    cases y with
    | non=>cases ry;exact PySem.EqNone.ne_bool_none (aK I q (by simp))
    | bl j=>cases ry;exact ne_bool (aK I q (congrArg not pQ))
    | str j=>obtain⟨t',rfl⟩:=ry;exact PySem.EqMixed.ne_bool_str (aK I q (by simp))
    | _=>exact absurd (show false=true from hs) Bool.false_ne_true
  | int i =>
    obtain⟨t,rfl⟩:=rx
    cases y with
    | non=>cases ry;exact PySem.EqNone.ne_int_none (aK I q (by simp))
    | int j=>obtain⟨t',rfl⟩:=ry;exact ne_int (aK I q (congrArg not nG))
    | str j=>obtain⟨t',rfl⟩:=ry;exact PySem.EqMixed.ne_int_str (aK I q (by simp))
    | _=>exact absurd (show false=true from hs) Bool.false_ne_true
  | str i =>
    obtain⟨t,rfl⟩:=rx
    cases y with
    | non=>cases ry;exact PySem.EqNone.ne_str_none (aK I q (by simp))
    | bl j=>cases ry;exact PySem.EqMixed.ne_str_bool (aK I q (by simp))
    | int j=>obtain⟨t',rfl⟩:=ry;exact PySem.EqMixed.ne_str_int (aK I q (by simp))
    | str j=>obtain⟨t',rfl⟩:=ry;exact ne_str (aK I q (congrArg not nH))
    | _=>exact absurd (show false=true from hs) Bool.false_ne_true
  | byt i =>
    obtain⟨t,rfl⟩:=rx
    cases y with
    | byt j=>obtain⟨t',rfl⟩:=ry;exact PySem.W.ne_bytes (aK I q (congrArg not nI))
    | _=>exact absurd (show false=true from hs) Bool.false_ne_true
  | _=>cases y<;>exact absurd (show false=true from hs) Bool.false_ne_true
theorem rJ:OpR X (compareOp .Lt) (rI0 fun i j=>.bl (decide (i < j))):=sC fun _ _ _ _ _ _ _ q=>lt_int q
theorem gj:OpR X (compareOp .LtE) (rI0 fun i j=>.bl (decide (i<=j))):=sC fun _ _ _ _ _ _ _ q=>le_int q
theorem uo:OpR X (compareOp .Gt) (rI0 fun i j=>.bl (decide (j < i))):=sC fun _ _ _ _ _ _ _ q=>gt_int q
theorem bI (b:Expr){op:CmpOp}(h:op≠.In:=by decide)(h2:op≠.NotIn:=by decide): behindInMarks op b=false:=by
  have e1:(op==CmpOp.In)=false:=by cases op<;>first | rfl | exact absurd rfl h
  have e2:(op==CmpOp.NotIn)=false:=by cases op<;>first | rfl | exact absurd rfl h2
  cases b<;>simp[behindInMarks,e1,e2]
theorem gN {op:CmpOp}{r:R2}(ho:OpR X (compareOp op) r)(ha:PE X a ta)(hb:PE X b tb)(hm:behindInMarks op b=false): PE X (.Compare a [op] [b] pos) (tOp r ta tb):=by
  intro pins s σ H Q I h
  exact wpAny_Compare1 (sx ha hb I h fun v u s2 x y H2 I2 rx ry q=>ho pins s2 σ H2 x y v u Q I2 rx ry q) hm
def rK (t:TE): TT:=fun σ H Q=>t σ H fun x H'=>∃k,x=.bl k/\Q k H'
theorem a7 {op:CmpOp}{r:R2}(ho:OpR X (compareOp op) r)(ha:PE X a ta)(hb:PE X b tb)(hm:behindInMarks op b=false): PT X (.Compare a [op] [b] pos) (rK (tOp r ta tb)):=by
  intro pins s σ H Q I h
  refine wpAny_isTrue_Compare1 (thn (ha pins s σ H _ I h) fun v s1 ⟨x,H1,I1,r1,q1⟩=>thn (hb pins s1 σ H1 _ I1 q1) fun u s2 ⟨y,H2,I2,r2,q2⟩ =>
    thn (ho pins s2 σ H2 x y v u _ I2 r1 r2 q2) fun c s3 ⟨z,H3,I3,r3,k,e,q3⟩=>?_) hm
  subst e
  cases r3
  exact wpAny_truthy_bool ⟨H3,I3,q3⟩
def sD (r r':R2)(ta tb tc:TE): TE:=fun σ H Q=>ta σ H fun x H1=>tb σ H1 fun y H2=>r x y H2 fun z H3=>∃k,z=.bl k ∧
  (if k=true then tc σ H3 fun w' H4=>r' y w' H4 Q else Q (.bl false) H3)
theorem fc {op op':CmpOp}{r r':R2}(ho:OpR X (compareOp op) r)(ho':OpR X (compareOp op') r')(ha:PE X a ta)(hb:PE X b tb)(hc:PE X c tc)
    (hm:lastMarks [op,op'] [b,c]=false:=by with_unfolding_all rfl):PT X (.Compare a [op,op'] [b,c] pos) (rK (sD r r' ta tb tc)):=by
  intro pins s σ H Q I h
  refine isTrue_chain (thn (ha pins s σ H _ I h) fun v s1 ⟨x,H1,I1,r1,q1⟩=>test_link (thn (hb pins s1 σ H1 _ I1 q1) fun u s2 ⟨y,H2,I2,r2,q2⟩ =>
    thn (ho pins s2 σ H2 x y v u _ I2 r1 r2 q2) fun d s3 ⟨z,H3,I3,r3,k,e,q3⟩=>?_)) hm
  subst e
  cases r3
  refine wpAny_truthy_bool ?_
  cases k with
  | false =>
    obtain⟨k',e',q'⟩:=q3
    cases e'
    exact ite_ff ⟨H3,I3,q'⟩
  | true =>
    refine ite_tt (test_last (thn (hc pins s3 σ H3 _ I3 q3) fun w' s4 ⟨z',H4,I4,r4,q4⟩=>thn (ho' pins s4 σ H4 y z' u w' _ I4 r2 r4 q4) fun d' s5 ⟨z2,H5,I5,r5,k2,e2,q5⟩=>?_))
    subst e2
    cases r5
    exact wpAny_truthy_bool ⟨H5,I5,q5⟩
theorem kL:(sizeLine:Nat) < 2^63:=by rw[sizeLine_eq];decide
theorem vals1 {x:V}{us:List Value}(r:Vals [x] us): ∃u,us=[u]/\RelV x u:=by
  cases r with
  | cons r1 r2=>cases r2;exact⟨_,rfl,r1⟩
theorem vals2 {x y:V}{us:List Value}(r:Vals [x,y] us): ∃u w',us=[u,w']/\RelV x u/\RelV y w':=by
  cases r with
  | cons r1 r2 =>
    cases r2 with
    | cons r3 r4=>cases r4;exact⟨_,_,rfl,r1,r3⟩
theorem oF:dw X (.type "int") (fun xs H Q=>(∃i,xs=[.int i]/\Q (.int i) H)\/∃k,xs=[.bl k]/\Q (.int (if k then 1 else 0)) H):=by
  intro pins s σ H xs us Q I r h
  rcases h with ⟨i,rfl,q⟩ | ⟨k,rfl,q⟩
  · obtain⟨u,rfl,t,rfl⟩:=vals1 r
    exact call_int_int ⟨.int i,H,I,⟨_,rfl⟩,q⟩
  · obtain⟨u,rfl,r1⟩:=vals1 r
    cases r1
    exact call_int_bool ⟨.int (if k then 1 else 0),H,I.tok _,⟨_,rfl⟩,q⟩
end
end L2
namespace L2
open PySem PySem.Spec PyProof.Rows
structure mD (h:Heap)(x dx C:Addr)(mA:Str->Option Value): Prop where
  obj:h.get? x=some (PySem.W.instObj C dx)
  ns:h.Ns1 dx mA
  ne:dx≠x
theorem oG {h:Heap}{dx:Addr}{mA:Str->Option Value}(n:h.Ns1 dx mA): ∃od,h.get? dx=some od/\∀name,PySem.W.lookIn name od=some (mA name):=by
  obtain⟨o,es,ep,ho,hd,hk,_,hm⟩:=n
  refine⟨o,ho,fun name=>?_⟩
  have e:=hm name
  unfold nsFind findBy at e
  rw[<-Array.find?_toList] at e
  unfold PySem.W.lookIn
  rw[hd]
  dsimp only
  split
  · rename_i y q
    rw[q] at e
    exact congrArg some e
  · rename_i q
    rw[q] at e
    have a:es.toList.any (·.refKey)=false:=by
      rw[List.any_eq_false]
      intro y hy
      obtain⟨z,t,hkey⟩:=hk y (Array.mem_toList_iff.mp hy)
      simp[DictEntry.refKey,hkey]
    have a':¬es.toList.any (·.refKey)=true:=by rw[a];exact Bool.false_ne_true
    rw[if_neg a']
    exact congrArg some e
theorem mD.look {h:Heap}{x dx C:Addr}{mA:Str->Option Value}(I:mD h x dx C mA): ∃od,PySem.W.InstAt h x (PySem.W.instObj C dx) C (some od)/\∀name,PySem.W.lookIn name od=some (mA name) :=
  let ⟨od,ho,hl⟩:=oG I.ns
  ⟨od,⟨I.obj,rfl,rfl,ho⟩,hl⟩
section
variable {prog:Program}{w:World}{A:Around}{E:Value->Shared->Prop}{s:Shared}{K:PySem.W.Frag}{x dx C f:Addr}{mA:Str->Option Value}{name:Str}{v:Value}
theorem get_map {expr:Bool}{Q:Value->Shared->Prop}(X:K.In s.heap)(I:mD s.heap x dx C mA)(hg:PySem.W.plainGet K C name=true)(hh:PySem.W.hasDictIn K C=true)
    (ha:PySem.W.findIn K (.ref C) name=some none) (hv:mA name=some v) (hv':PySem.W.handedIn v=true) (h:Q v { s with toks:=s.toks+1 }) :
    wpAny (model prog w) A (getAttr (.ref x) name expr) Q E s:=by
  obtain⟨od,J,hl⟩:=I.look
  exact PySem.W.get_value X J (PySem.W.plainGet_of hg).1 (PySem.W.findObj_own hh ha rfl (by rw[hl,hv])) hv' h
theorem pR {pl:Sem Bool}{Q:Value×List Value->Shared->Prop}(X:K.In s.heap)(I:mD s.heap x dx C mA)(hg:PySem.W.plainGet K C name=true)
    (hf:PySem.W.findIn K (.ref C) name=some (some (.ref f))) (ht:PySem.W.isFn K (.ref f)=true) (hv:mA name=none) (h:Q (.ref f,[.ref x]) s) :
    wpAny (model prog w) A (getMethod (.ref x) name pl) Q E s:=by
  obtain⟨od,J,hl⟩:=I.look
  exact PySem.W.method_fn X J (PySem.W.plainGet_of hg).1 (PySem.W.plainGet_of hg).2 hf (beq_iff_eq.mp ht) (by show (PySem.W.lookIn name od).map (·.isSome)=some false;rw[hl,hv];rfl) h
theorem qN {ns:List Str}{Q:Unit->Shared->Prop}(X:K.In s.heap)(I:mD s.heap x dx C mA)
    (hs:PySem.W.findIn K (.ref C) "__setattr__" = some (some (.builtin "object.__setattr__"))) (hp:PySem.W.plainOver K C=true) (ht:PySem.W.takerIn K C name=some none) (hh:PySem.W.hasDictIn K C=true)
    (hw:PySem.Within mA ns) (hsz:ns.length<=sizeLine)
    (h:∀h',mD h' x dx C (fun y=>if y=name then some v else mA y)->Heap.SameBut dx s.heap h'->Q () { s with heap:=h',toks:=s.toks+2 }) :
    wpAny (model prog w) A (setAttr (.ref x) name v) Q E s:=by
  obtain⟨od,J,hl⟩:=I.look
  refine PySem.W.set_plain X J hs (PySem.W.osa_open (s:={ s with toks:=s.toks+1 }) (r:=none) X J hp ht fun b=>?_)
  obtain⟨cd,hc,hd'⟩:=PySem.W.any_some hh
  have hx:s.heap.get? x=some ⟨.ref C,some dx,.plain,#[]⟩:=I.obj
  refine wpAny_bind (wpAny_pure (wpAny_bind (wpAny_bind (wpAny_loadPart hx (wpAny_bind (PySem.W.Looks.here (s:={ s with toks:=s.toks+1 }) (PySem.W.looks_clsIn X hc) ?_))))))
  rw[hd']
  refine wpAny_pure (a:=some dx) (wpAny_bind (wpAny_pure (wpAny_bind ?_)))
  refine wpAny_nsSet1 (s:={ s with toks:=s.toks+1 }) I.ns fun h' hn2 hs2=>?_
  obtain⟨oD,esD,epD,hoD,hdD,hcD⟩:=hn2.count (PySem.Within.cons name v hw)
  refine wpAny_bind (wpAny_lookBehind hoD (by rw[hdD];exact pastItsLine_dict (Nat.le_trans hcD (by rw[List.length_cons];omega))) ?_)
  exact wpAny_pure (h _ ⟨(hs2.2 _ (Ne.symm I.ne)).trans I.obj,hn2,I.ne⟩ hs2)
theorem pS {R:Result->Shared->Prop}{vs:List Value}{kw:List (Str×Value)}(X:K.In s.heap)(hm:PySem.W.makesIn K C=true)
    (hi:PySem.W.findIn K (.ref C) "__init__" = some (some (.ref f))) (hf:PySem.W.typeIn K (.ref f)=some (.type "function"))
    (h:codeAny (model prog w) (A.under (.builtin "type.__call__" ⟨.ref C::vs,kw⟩)) (.call (.ref f) ⟨.ref (s.heap.objs.size+1)::vs,kw⟩) (PySem.W.InitBack (s.heap.objs.size+1) R)
      { s with heap:=(s.heap.push PySem.W.emptyDict).push (PySem.W.instObj C s.heap.objs.size) }) :
    codeAny (model prog w) A (.call (.ref C) ⟨vs,kw⟩) R s:=by
  obtain⟨hh,g,d,t,os⟩:=s
  exact PySem.W.make_core (PySem.W.makes_of X hm) (PySem.W.looks_findIn X hi) (fun self=>PySem.W.bind_fn X self hf) (.inl rfl) h
end
def dI (f:Str)(v:V): List (Str×V)->List (Str×V)
  | []=>[(f,v)]
  | (g,x)::r=>if g=f then (g,v)::r else (g,x)::dI f v r
theorem bJ (f g:Str)(v:V): ∀fs:List (Str×V),(dI f v fs).lookup g=if g=f then some v else fs.lookup g
  | []=>by
    show List.lookup g [(f,v)]=_
    by_cases h:g=f
    · have hb:(g==f)=true:=beq_iff_eq.mpr h
      simp only [List.lookup,hb,if_pos h]
    · have hb:(g==f)=false:=beq_eq_false_iff_ne.mpr h
      simp only [List.lookup,hb,if_neg h]
  | (k,x)::r=>by
    have ih:=bJ f g v r
    rw[show dI f v ((k,x)::r)=(if k=f then (k,v)::r else (k,x)::dI f v r) from rfl]
    by_cases hk:k=f
    · rw[if_pos hk]
      by_cases h:g=k
      · have hb:(g==k)=true:=beq_iff_eq.mpr h
        simp only [List.lookup,hb,if_pos (h.trans hk)]
      · have hb:(g==k)=false:=beq_eq_false_iff_ne.mpr h
        simp only [List.lookup,hb,if_neg (fun e:g=f=>h (e.trans hk.symm))]
    · rw[if_neg hk]
      by_cases h:g=k
      · have hb:(g==k)=true:=beq_iff_eq.mpr h
        simp only [List.lookup,hb,if_neg (fun e:g=f=>hk (h.symm.trans e))]
      · have hb:(g==k)=false:=beq_eq_false_iff_ne.mpr h
        simp only [List.lookup,hb]
        exact ih
theorem ig (f:Str)(v:V): ∀fs:List (Str×V),f∈(dI f v fs).map (·.1)/\∀g,g∈fs.map (·.1)->g∈(dI f v fs).map (·.1)
  | []=>⟨by simp[dI],fun g h=>by simp at h⟩
  | (k,x)::r=>by
    obtain⟨i1,i2⟩:=ig f v r
    rw[show dI f v ((k,x)::r)=(if k=f then (k,v)::r else (k,x)::dI f v r) from rfl]
    by_cases hk:k=f
    · rw[if_pos hk]
      subst hk
      exact⟨by simp,fun g h=>by simpa using h⟩
    · rw[if_neg hk]
      refine⟨?_,fun g h=>?_⟩
      · rw[List.map_cons]
        exact List.mem_cons_of_mem _ i1
      · rw[List.map_cons] at h ⊢
        rcases List.mem_cons.mp h with e | e
        · exact List.mem_cons.mpr (.inl e)
        · exact List.mem_cons_of_mem _ (i2 g e)
theorem iS (f:Str)(v:V): ∀fs:List (Str×V),(dI f v fs).length<=fs.length+1
  | []=>by simp[dI]
  | (k,x)::r=>by
    have ih:=iS f v r
    rw[show dI f v ((k,x)::r)=(if k=f then (k,v)::r else (k,x)::dI f v r) from rfl]
    by_cases hk:k=f
    · rw[if_pos hk,List.length_cons,List.length_cons];omega
    · rw[if_neg hk,List.length_cons,List.length_cons];omega
theorem eX.some_of {v:V}{o:Option Value}(r:eX (some v) o): ∃u,o=some u/\RelV v u:=by
  cases o with
  | none=>exact(show False from r).elim
  | some u=>exact⟨u,rfl,r⟩
theorem eX.none_of {o:Option Value}(r:eX none o): o=none:=by
  cases o with
  | none=>rfl
  | some u=>exact(show False from r).elim
theorem oH {v:V}{u:Value}(r:RelV v u): PySem.W.handedIn u=true:=by
  cases v with
  | non=>cases (show u=Value.none from r);rfl
  | bl b=>cases (show u=Value.bool b from r);rfl
  | int i=>obtain⟨t,e⟩:=(show ∃t,u=Value.int i t from r);cases e;rfl
  | str x=>obtain⟨t,e⟩:=(show ∃t,u=Value.str x t from r);cases e;rfl
  | byt b=>obtain⟨t,e⟩:=(show ∃t,u=Value.bytes b t from r);cases e;rfl
  | flt b=>obtain⟨t,e⟩:=(show ∃t,u=Value.float b t from r);cases e;rfl
  | ref a=>cases (show u=Value.ref a from r);rfl
  | ty n=>cases (show u=Value.type n from r);rfl
section
variable {P:Program}{w:World}{H H':Hp}{h h':Heap}{a C dx:Addr}{fs fs':List (Str×V)}
theorem ja (hok:HOk P w H h)(e:H a=some (.ins C dx fs)): ∃mA,mD h a dx C mA/\(∀f,eX (fs.lookup f) (mA f))/\PySem.Within mA (fs.map (·.1))/\fs.length<=1000/\H dx=some (.own a):=by
  obtain⟨d,z,ne,ob,mA,n,r,q⟩:=(show aV P w H h a (.ins C dx fs) from hok a _ e)
  exact⟨mA,⟨ob,n,ne⟩,r,q,z,d⟩
end
structure Cls (K:PySem.W.Frag)(C:Addr): Prop where
  pg:PySem.W.plainGet K C Str.empty=true
  hd:PySem.W.hasDictIn K C=true
  po:PySem.W.plainOver K C=true
  sa:PySem.W.findIn K (.ref C) "__setattr__" = some (some (.builtin "object.__setattr__"))
theorem Cls.get {K:PySem.W.Frag}{C:Addr}(c:Cls K C)(f:Str): PySem.W.plainGet K C f=true:=c.pg
def aG (K:PySem.W.Frag)(C:Addr)(f:Str): Prop:=PySem.W.findIn K (.ref C) f=some none
theorem aG.taker {K:PySem.W.Frag}{C:Addr}{f:Str}(n:aG K C f): PySem.W.takerIn K C f=some none:=by
  unfold PySem.W.takerIn
  rw[show PySem.W.findIn K (.ref C) f=some none from n]
  rfl
structure Meth (K:PySem.W.Frag)(C:Addr)(m:Str)(f:Addr): Prop where
  at_:PySem.W.findIn K (.ref C) m=some (some (.ref f))
  fn:PySem.W.isFn K (.ref f)=true
  kp:PySem.W.keepIn K (.ref f)=true
section
variable {X:Cx}{pins:List (Addr×Obj)}{σ:St}{H:Hp}{s:Shared}{a C dx:Addr}{fs:List (Str×V)}{f:Str}{v:V}{A:Around}{E:Value->Shared->Prop}
theorem mE {b:Bool}{Q:Value->Shared->Prop}(I:Inv X pins σ H s)(e:H a=some (.ins C dx fs))(c:Cls X.K C)(n:aG X.K C f)(l:fs.lookup f=some v)
    (h:∀u s',Inv X pins σ H s'->RelV v u->Q u s'):wpAny (model X.prog X.w) A (getAttr (.ref a) f b) Q E s:=by
  obtain⟨mA,O,r,_,_,_⟩:=ja I.hok e
  obtain⟨u,hu,ru⟩:=eX.some_of (v:=v) (o:=mA f) (by rw[<-l];exact r f)
  exact get_map I.kIn O (c.get f) c.hd n hu (oH ru) (h u _ (I.tok _) ru)
theorem ji {m:Str}{g:Addr}{pl:Sem Bool}{Q:Value×List Value->Shared->Prop}(I:Inv X pins σ H s)(e:H a=some (.ins C dx fs))(c:Cls X.K C)(k:Meth X.K C m g)(l:fs.lookup m=none)
    (h:Q (.ref g,[.ref a]) s):wpAny (model X.prog X.w) A (getMethod (.ref a) m pl) Q E s:=by
  obtain⟨mA,O,r,_,_,_⟩:=ja I.hok e
  have hn:mA m=none:=eX.none_of (by rw[<-l];exact r m)
  exact pR I.kIn O (c.get m) k.at_ k.fn hn h
theorem mF {y:V}{u:Value}{Q:Unit->Shared->Prop}(I:Inv X pins σ H s)(e:H a=some (.ins C dx fs))(c:Cls X.K C)(n:aG X.K C f)(hl:fs.length < 1000)(ry:RelV y u)
    (h:∀s',Inv X pins σ (upd H a (.ins C dx (dI f y fs))) s'->Q () s'):wpAny (model X.prog X.w) A (setAttr (.ref a) f u) Q E s:=by
  obtain⟨mA,O,r,wi,_,ho⟩:=ja I.hok e
  have hz:(fs.map (·.1)).length<=sizeLine:=by rw[List.length_map,sizeLine_eq];omega
  refine qN I.kIn O c.sa c.po n.taker c.hd wi hz fun h' O' sb=>h _ ?_
  have hd:∃o,h'.get? dx=some o:=let ⟨o,_,_,e',_⟩:=O'.ns;⟨o,e'⟩
  refine I.write (x:=a) (e:=dx) (by rw[e];exact True.intro) (.inr ho) (fun b q hb z=>(sb.2 b hb).trans z) hd ?_
  refine⟨by rw[au O.ne];exact ho,?_,O.ne,O'.obj,_,O'.ns,fun g=>?_,fun g hg=>?_⟩
  · have:=iS f y fs;omega
  · show eX ((dI f y fs).lookup g) (if g=f then some u else mA g)
    rw[bJ]
    by_cases q:g=f
    · rw[if_pos q,if_pos q];exact ry
    · rw[if_neg q,if_neg q];exact r g
  · by_cases q:g=f
    · rw[q];exact(ig f y fs).1
    · refine(ig f y fs).2 g (wi g fun z=>hg ?_)
      show (if g=f then some u else mA g)=none
      rw[if_neg q];exact z
theorem Inv.made (I:Inv X pins σ H s): Inv X pins σ (upd (upd H s.heap.objs.size (.own (s.heap.objs.size+1))) (s.heap.objs.size+1) (.ins C s.heap.objs.size []))
    { s with heap:=(s.heap.push PySem.W.emptyDict).push (PySem.W.instObj C s.heap.objs.size) }:=by
  have e1:(s.heap.push PySem.W.emptyDict).get? s.heap.objs.size=some PySem.W.emptyDict:=Heap.get?_push_size s.heap rfl
  have e2:((s.heap.push PySem.W.emptyDict).push (PySem.W.instObj C s.heap.objs.size)).get? (s.heap.objs.size+1)=some (PySem.W.instObj C s.heap.objs.size):=by
    have:=Heap.get?_push_size (s.heap.push PySem.W.emptyDict) (o:=PySem.W.instObj C s.heap.objs.size) rfl
    rwa [Heap.size_push] at this
  have e3:(s.heap.push PySem.W.emptyDict).Ns s.heap.objs.size (fun _=>none):=⟨PySem.W.emptyDict,#[],_,e1,rfl,(fun e he=>absurd he (by simp)),fun _=>rfl⟩
  have I1:=I.laid (a:=s.heap.objs.size) (o:=.own (s.heap.objs.size+1)) (h':=s.heap.push PySem.W.emptyDict) (t':=s.toks) (fun b u q=>Heap.get?_push_of_some _ q) (Nat.le_refl _) ⟨_,e1⟩
  refine I1.laid (a:=s.heap.objs.size+1) (o:=.ins C s.heap.objs.size []) (t':=s.toks) (fun b u q=>Heap.get?_push_of_some _ q) (Nat.le_of_eq (Heap.size_push _ _)) ?_
  have ne:s.heap.objs.size≠s.heap.objs.size+1:=Nat.ne_of_lt (Nat.lt_succ_self _)
  refine⟨by rw[au ne,ai],Nat.zero_le _,ne,e2,fun _=>none,(Heap.Ns1.of_empty e3).at fun o q=>Heap.get?_push_of_some _ q,fun _=>True.intro,fun y hy=>absurd rfl hy⟩
theorem qO {prog:Program}{w:World}{env:Env}{e:Expr}{f:Str}{pos:Pos}{s:Shared}{Q:Value->Shared->Prop}(hb:attributeBase e f env (eval e env)=eval e env)
    (h:wpAny (model prog w) A (eval e env) (fun o s₁=>wpAny (model prog w) A (getAttr o f true) Q E s₁) E s):wpAny (model prog w) A (eval (.Attribute e f pos) env) Q E s :=
  Attribute_any_ h (by rw[arm_eval_Attribute,hb])
end
def vD (K:PySem.W.Frag)(ta:TE)(f:Str): TE:=fun σ H Q=>ta σ H fun x H1=>∃a C dx fs v,x=.ref a/\H1 a=some (.ins C dx fs)/\Cls K C/\aG K C f/\fs.lookup f=some v/\Q v H1
def vE (K:PySem.W.Frag)(ta tv:TE)(f:Str): TS:=fun D σ H=>tv σ H fun y H1=>ta σ H1 fun x H2=>∃a C dx fs,x=.ref a/\H2 a=some (.ins C dx fs)/\Cls K C/\aG K C f/\fs.length < 1000 ∧
  D.nx σ (upd H2 a (.ins C dx (dI f y fs)))
section
variable {X:Cx}{o e value:Expr}{f:Str}{pos pos' tpos:Pos}{ta tv:TE}
theorem bE (he:PE X e ta)(hb:attributeBase e f X.env (eval e X.env)=eval e X.env): PE X (.Attribute e f pos) (vD X.K ta f):=by
  intro pins s σ H Q I h
  refine qO hb (thn (he pins s σ H _ I h) fun u s1 ⟨x,H1,I1,rx,a,C,dx,fs,v,ex,ea,c,n,l,q⟩=>?_)
  subst ex
  obtain rfl:u=Value.ref a:=rx
  exact mE I1 ea c n l fun u' s2 I2 ru=>⟨v,H1,I2,ru,q⟩
theorem aT (ha:PE X o ta)(hv:PE X value tv)(hs:swapsWith value (some (.Attribute o f pos')) pos.line X.env=pure false): PS X (.Assign [.Attribute o f pos'] value pos) (vE X.K ta tv f):=by
  intro pins s σ H D I h
  refine plainObj_wpAny_Assign_Attribute (thn (hv pins s σ H _ I h) fun u s1 ⟨y,H1,I1,ry,q⟩=>thn (ha pins s1 σ H1 _ I1 q) fun ov s2 ⟨x,H2,I2,rx,a,C,dx,fs,ex,ea,c,n,l,q2⟩=>?_) hs
  subst ex
  obtain rfl:ov=Value.ref a:=rx
  exact mF I2 ea c n l ry fun s3 I3=>⟨σ,_,I3,q2⟩
end
section
variable {X:Cx}{pins:List (Addr×Obj)}{σ:St}{H:Hp}{s:Shared}{A:Around}{E:Value->Shared->Prop}{Q:Value->Shared->Prop}{c:Value}{b:Bool}
inductive az (K:PySem.W.Frag)(H:Hp): V->Value->Prop where
  | non:az K H .non (.type "NoneType")
  | bl (x:Bool):az K H (.bl x) (.type "bool")
  | int (i:Int):az K H (.int i) (.type "int")
  | str (x:Str):az K H (.str x) (.type "str")
  | flt (x:UInt64):az K H (.flt x) (.type "float")
  | lst {a:Addr} {xs:List V} (e:H a=some (.lst xs)):az K H (.ref a) (.type "list")
  | frz {a:Addr} {o:Obj} {xs:List V} (e:H a=some (.frz o (.lst xs))):az K H (.ref a) (.type "list")
  | tup {a:Addr} {xs:List V} (e:H a=some (.tup xs)):az K H (.ref a) (.type "tuple")
  | dK {a:Addr} {kvs:List (Key×V)} (e:H a=some (.dK kvs)):az K H (.ref a) (.type "dict")
  | dT {a:Addr} {kvs:List (List Key×V)} (e:H a=some (.dT kvs)):az K H (.ref a) (.type "dict")
  | ins {a C dx:Addr} {fs:List (Str×V)} (e:H a=some (.ins C dx fs)) (cl:Cls K C) (ha:PySem.W.findIn K (.ref C) "__class__" = some (some (.builtin "object.__class__")))
      (hn:PySem.W.specialIn K (.builtin "object.__class__") "__get__" = some (some (.builtin "getset_descriptor.__get__"))) (htk:PySem.W.takesIn K (.builtin "object.__class__")=some true)
      (hm:PySem.W.mroIn K C (.type "object")=some true):az K H (.ref a) (.ref C)
end
end L2
namespace L2
open PySem PySem.Spec PyProof.Rows
structure bS (k:Nat)(A:Around): Prop where
  hd:A.handled=none
  dp:A.depth+3*k+5 < recursionLimit
  un:A.units+16*k+200 < cLine
theorem bS.mono {j k:Nat}{A:Around}(r:bS k A)(h:j<=k): bS j A:=⟨r.hd,by have:=r.dp;omega,by have:=r.un;omega⟩
theorem bS.deeper {k:Nat}{A:Around}(r:bS (k+1) A)(env:Env): bS k (A.deeper env) :=
  ⟨r.hd,by have:=r.dp;show A.depth+1+3*k+5 < _;omega,by have:=r.un;show A.units+3+16*k+200 < _;omega⟩
theorem mG {A:Around}{C:Addr}{us:List Value}{kw:List (Str×Value)}: (A.under (.builtin "type.__call__" ⟨.ref C::us,kw⟩)).depth=A.depth+1:=by
  first | rfl | simp[Around.under,Code.weight,Code.isCreation,Code.isGuard,Code.isCaller,Code.frames,Code.isFrame,guardIds]
theorem mH {A:Around}{C:Addr}{us:List Value}{kw:List (Str×Value)}: (A.under (.builtin "type.__call__" ⟨.ref C::us,kw⟩)).units=A.units+1:=by
  first | rfl | simp[Around.under,Code.cUnits,Code.frames,Code.isFrame]
theorem bS.make {k:Nat}{A:Around}(r:bS (k+1) A)(C:Addr)(us:List Value)(kw:List (Str×Value)): bS k (A.under (.builtin "type.__call__" ⟨.ref C::us,kw⟩)) :=
  ⟨r.hd,by have:=r.dp;rw[mG];omega,by have:=r.un;rw[mH];omega⟩
theorem bS.depth {k:Nat}{A:Around}(r:bS k A): A.depth < recursionLimit:=by have:=r.dp;omega
theorem bS.units {k:Nat}{A:Around}(r:bS k A): A.units+64 < cLine:=by have:=r.un;omega
def qP:TA:=fun _ H Q=>Q [] H
def rL (ta:TE)(tr:TA): TA:=fun σ H Q=>ta σ H fun x H1=>tr σ H1 fun xs H2=>Q (x::xs) H2
section
variable {X:Cx}{e:Expr}{es:List Expr}{te:TE}{t:TA}{pos:Pos}
theorem ah:PA X [] qP:=fun _ _ _ _ H Q I h=>Calls.spliced_nil ⟨[],H,I,.nil,h⟩
theorem qQ (ha:PE X e te)(hr:PA X es t)(hs:starEach (e::es) X.env=(false,eval e X.env)::starEach es X.env:=by rfl): PA X (e::es) (rL te t):=by
  intro pos pins s σ H Q I h
  rw[hs]
  show wpAny _ _ (spliced ((false,eval e X.env)::backTo pos (starEach es X.env))) _ _ s
  refine Calls.spliced_cons (thn (ha pins s σ H _ I h) fun u s1 ⟨x,H1,I1,r1,q1⟩=>?_)
  exact thn (hr pos pins s1 σ H1 _ I1 q1) fun us s2 ⟨xs,H2,I2,r2,q2⟩=>⟨x::xs,H2,I2,.cons r1 r2,q2⟩
def vF (t:TA): TE:=fun σ H Q=>t σ H fun xs H1=>xs.length<=sizeLine/\∀p,H1 p=none->Q (.ref p) (upd H1 p (.tup xs))
def vG (t:TA): TE:=fun σ H Q=>t σ H fun xs H1=>xs.length<=sizeLine/\∀p,H1 p=none->Q (.ref p) (upd H1 p (.lst xs))
theorem im {x1}(h:PA X es t): PE X (.Tuple es x1 pos) (vF t):=by
  intro pins s σ H Q I hq
  refine wpAny_Tuple_spliced (thn (h pos pins s σ H _ I hq) fun us s1 ⟨xs,H1,I1,r,z,q⟩=>⟨by rw[<-r.length];exact z,?_⟩)
  have hf:H1 s1.heap.objs.size=none:=I1.hok.fresh (Nat.le_refl _)
  refine⟨.ref s1.heap.objs.size,upd H1 s1.heap.objs.size (.tup xs),I1.laid (t':=s1.toks) (fun b u e=>Heap.get?_push_of_some _ e) (Nat.le_refl _) ?_,rfl,q _ hf⟩
  exact⟨z,us,r,⟨_,Heap.get?_push_size _ rfl,rfl,_,rfl⟩⟩
theorem bT (h:PA X es t): PE X (.List es pos) (vG t):=by
  intro pins s σ H Q I hq
  refine wpAny_List_spliced (thn (h pos pins s σ H _ I hq) fun us s1 ⟨xs,H1,I1,r,z,q⟩=>⟨by rw[<-r.length];exact z,?_⟩)
  have hf:H1 s1.heap.objs.size=none:=I1.hok.fresh (Nat.le_refl _)
  refine⟨.ref s1.heap.objs.size,upd H1 s1.heap.objs.size (.lst xs),I1.laid (t':=s1.toks) (fun b u e=>Heap.get?_push_of_some _ e) (Nat.le_refl _) ?_,rfl,q _ hf⟩
  exact⟨z,us,0,r,Heap.get?_push_size _ rfl⟩
end
abbrev Sp:=List V->Hp->VK->XK->Prop
abbrev CXT:=List Env->Hp->Shared->XK->Value->Shared->Prop
structure mI (P:Program)(w:World)(K:PySem.W.Frag)(mg:Str->Option Value)(base:Heap)(A:Around)(outer:List Env)(s:Shared)(H:Hp): Prop where
  frames:A.frames=some outer
  mod:Mod K mg base
  bs:∀b o,base.get? b=some o->s.heap.get? b=some o/\H b=none
  bsz:base.objs.size<=s.heap.objs.size
  iX:s.heap.FunFrames base outer
  frf:∀b∈frs outer,H b=none
  hok:HOk P w H s.heap
  bare:AllBare s.gens
def CE (outer:List Env)(P:Program)(w:World)(H:Hp)(s:Shared)(Q:VK)(u:Value)(s':Shared): Prop :=
  ∃v H',s'.os=s.os/\AllBare s'.gens/\Un (frs outer) [] H H' s.heap s'.heap/\HOk P w H' s'.heap/\RelV v u/\Q v H'
def CR (CX:CXT)(outer:List Env)(P:Program)(w:World)(H:Hp)(s:Shared)(Q:VK)(E:XK)(r:Result)(s':Shared): Prop :=
  match r with
  | .ok (.ret u)=>CE outer P w H s Q u s'
  | .ok _=>False
  | .error e=>CX outer H s E e s'
structure gw (P:Program)(w:World)(K:PySem.W.Frag)(mg:Str->Option Value)(base:Heap)(CX:CXT)(k:Nat)(f:Addr)(fd:FuncData)(ps:List Str)(sp:Sp): Prop where
  len:∀vs H Q E,sp vs H Q E->vs.length=ps.length
  run:∀(A:Around) (outer:List Env) (s:Shared) (H:Hp) (args:Args) (us:List Value) (vs:List V) (Q:VK) (E:XK),bS k A->mI P w K mg base A outer s H->BindsTo s fd args (ps.zip us)->Vals vs us->sp vs H Q E ->
    codeAny (model P w) A (.call (.ref f) args) (CR CX outer P w H s Q E) s
theorem mI.make {P:Program}{w:World}{K:PySem.W.Frag}{mg:Str->Option Value}{base:Heap}{A:Around}{outer:List Env}{s:Shared}{H:Hp}(e:mI P w K mg base A outer s H)(C:Addr)(us:List Value)(kw:List (Str×Value)):
    mI P w K mg base (A.under (.builtin "type.__call__" ⟨.ref C::us,kw⟩)) outer s H:=⟨by first | exact e.frames | (simpa [Around.under,Code.envs,Code.isFrame,pushEnvs] using e.frames),e.mod,e.bs,e.bsz,e.iX,e.frf,e.hok,e.bare⟩
section
variable {X:Cx}{pins:List (Addr×Obj)}{σ:St}{H:Hp}{s s':Shared}
theorem Inv.env0 (I:Inv X pins σ H s): mI X.prog X.w X.K X.mg X.base X.A X.stack s H :=
  ⟨I.ok.frames,I.ok.mod,I.bs,Nat.le_trans I.ok.bsz I.sz,I.stack,I.kJ,I.hok,I.bare⟩
theorem Inv.after {Q:VK}{u:Value}(I:Inv X pins σ H s)(h:CE X.stack X.prog X.w H s Q u s'): EP X pins σ Q u s':=by
  obtain⟨v,H',os,bare,un,hok,r,q⟩:=h
  obtain⟨hh,g,d,t,os'⟩:=s'
  obtain rfl:os'=s.os:=os
  exact⟨v,H',I.call (h':=hh) (g':=g) (d':=d) (t':=t) (ch:=[]) un hok bare (fun b z=>absurd z (by simp)),r,q⟩
end
def Binds (K:PySem.W.Frag)(fd:FuncData)(ps:List Str)(ds:List Value): Prop :=
  ∀(s:Shared) (us:List Value),K.In s.heap->(us++ds).length=ps.length->BindsTo s fd ⟨us,[]⟩ (ps.zip (us++ds))
theorem Binds.all {K:PySem.W.Frag}{fd:FuncData}{ps:List Str}(h:∀us:List Value,us.length=ps.length->bindArgs fd ⟨us,[]⟩=pure (ps.zip us)): Binds K fd ps []:=fun s us _ hl=>by
  rw[List.append_nil] at hl ⊢
  exact .of_eq (h us hl)
section
variable {X:Cx}{CX:CXT}{k:Nat}{f C:Addr}{fd:FuncData}{ps:List Str}{sp:Sp}{dvs:List V}{ds:List Value}{E:XK}{x m:Str}{p pos apos:Pos}{e o:Expr}{es:List Expr}{ta:TE}{t:TA}
structure Mk (K:PySem.W.Frag)(C f:Addr): Prop where
  makes:PySem.W.makesIn K C=true
  init:PySem.W.findIn K (.ref C) "__init__" = some (some (.ref f))
  fn:PySem.W.isFn K (.ref f)=true
  kp:PySem.W.keepIn K (.ref C)=true
end
section
variable {X:Cx}{CX:CXT}{k:Nat}{f C:Addr}{fd:FuncData}{ps ks:List Str}{sp:Sp}{E:XK}{x m:Str}{p pos apos kpos:Pos}{e o:Expr}{es:List Expr}{kws:List Keyword}{te ta:TE}{t tk:TA}{nm:Option Str}
variable {g:List Value->List Value->List Value}{gV:List V->List V->List V}
end
structure ay (N P:List Str)(sc:Scope): Prop where
  kind:sc.kind=.function
  co:sc.isCoroutine=false
  gen:sc.isGenerator=false
  nd:N.Nodup
  pre:N.take P.length=P
  par:∀x∈P,sc.names.lookup x=some .local\/sc.names.lookup x=some .cell
  sE:∀y∈sc.names,y.2≠.free
theorem j8 {kindOf:Str->Option NameKind}{x:Str}: ∀{binds:List (Str×Value)} {m:Str->Option Value},(∀v,(x,v)∉binds)->bindL kindOf binds m x=m x
  | [],_,_=>rfl
  | (n,v)::r,m,h=>by
    unfold bindL
    rw[j8 fun w hw=>h w (List.mem_cons_of_mem _ hw)]
    split
    · have:x≠n:=by rintro rfl;exact h v List.mem_cons_self
      simp[this]
    · rfl
theorem j9 {kindOf:Str->Option NameKind}{x:Str}: ∀{binds:List (Str×Value)} {m:Str->Option Value},(∀v,(x,v)∉binds)->bindC kindOf binds m x=m x
  | [],_,_=>rfl
  | (n,v)::r,m,h=>by
    unfold bindC
    rw[j9 fun w hw=>h w (List.mem_cons_of_mem _ hw)]
    split
    · rfl
    · have:x≠n:=by rintro rfl;exact h v List.mem_cons_self
      simp[this]
theorem j_ {kindOf:Str->Option NameKind}{x:Str}{v:Value}: ∀{P:List Str} {vs:List Value} {i:Nat} {m:Str->Option Value},P.Nodup->P[i]?=some x->vs[i]?=some v->kindOf x=some .local ->
    bindL kindOf (P.zip vs) m x=some v
  | [],_,_,_,_,h,_,_=>by simp at h
  | _::_,[],_,_,_,_,h,_=>by simp at h
  | p::P,w::vs,0,m,nd,h1,h2,hk=>by
    simp at h1 h2;subst h1;subst h2
    show bindL kindOf ((p,w)::P.zip vs) m p=_
    unfold bindL
    rw[j8 fun v hv=>(List.nodup_cons.mp nd).1 (List.of_mem_zip hv).1,if_pos hk]
    simp
  | p::P,w::vs,i+1,m,nd,h1,h2,hk=>by
    show bindL kindOf ((p,w)::P.zip vs) m x=_
    unfold bindL
    exact j_ (i:=i) (List.nodup_cons.mp nd).2 (by simpa using h1) (by simpa using h2) hk
theorem ka {kindOf:Str->Option NameKind}{x:Str}{v:Value}: ∀{P:List Str} {vs:List Value} {i:Nat} {m:Str->Option Value},P.Nodup->P[i]?=some x->vs[i]?=some v->kindOf x≠some .local ->
    bindC kindOf (P.zip vs) m x=some v
  | [],_,_,_,_,h,_,_=>by simp at h
  | _::_,[],_,_,_,_,h,_=>by simp at h
  | p::P,w::vs,0,m,nd,h1,h2,hk=>by
    simp at h1 h2;subst h1;subst h2
    show bindC kindOf ((p,w)::P.zip vs) m p=_
    unfold bindC
    rw[j9 fun v hv=>(List.nodup_cons.mp nd).1 (List.of_mem_zip hv).1,if_neg hk]
    simp
  | p::P,w::vs,i+1,m,nd,h1,h2,hk=>by
    show bindC kindOf ((p,w)::P.zip vs) m x=_
    unfold bindC
    exact ka (i:=i) (List.nodup_cons.mp nd).2 (by simpa using h1) (by simpa using h2) hk
def start (N:List Str)(vs:List V): St:=vs.map some++List.replicate (N.length-vs.length) none
def ei (CX:CXT)(P:Program)(w:World)(K:PySem.W.Frag)(mg:Str->Option Value)(base:Heap)(N:List Str)(qual:Str)(scope:Scope)(f:Addr)(cd:Value)(A:Around)(outer:List Env)(s:Shared)(H:Hp)(E:XK): Cx where
  prog:=P
  w:=w
  K:=K
  mg:=mg
  base:=base
  A:=A.deeper (envOfC qual scope s.heap.objs.size f cd)
  N:=N
  s₀:=s
  H₀:=H
  env:=envOfC qual scope s.heap.objs.size f cd
  outer:=outer
  stack:=envOfC qual scope s.heap.objs.size f cd::outer
  ex:=[]
  calm:=true
  fn:=fun _=>true
  pn:=[]
  xe:=fun e s'=>wpAny (model P w) (A.deeper (envOfC qual scope s.heap.objs.size f cd)) (leaving (envOfC qual scope s.heap.objs.size f cd) e) (fun _ s''=>CX outer H s E e s'') (fun e' s''=>CX outer H s E e' s'') s'
theorem lO {sc:Scope}{n:Nat}{x:Str}(h:sc.names.lookup x=some .cell): ∃c,(cellsFrom n sc.names []).lookup x=some c:=by
  have q:=PySem.W.cellsFrom_some sc.names n [] (.inl h)
  exact Option.isSome_iff_exists.mp q
theorem oI {CX:CXT}{P:Program}{w:World}{K:PySem.W.Frag}{mg:Str->Option Value}{base:Heap}{N ps:List Str}{qual:Str}{scope:Scope}{f:Addr}{cd:Value}{A:Around}{outer:List Env}{s s1:Shared}{H:Hp}{E:XK}{us:List Value}{vs:List V}
    (S:ay N ps scope) (hd:A.handled=none) (e0:mI P w K mg base A outer s H) (hl:vs.length=ps.length) (r:Vals vs us)
    (x:InCallC s s.heap.objs.size (bindL (envOfC qual scope s.heap.objs.size f cd).kindOf (ps.zip us) fun _=>none) (cellsFrom (s.heap.objs.size+1) scope.names []) (bindC (envOfC qual scope s.heap.objs.size f cd).kindOf (ps.zip us) fun _=>none) s1) :
    Inv (ei CX P w K mg base N qual scope f cd A outer s H E) [] (start N vs) H s1:=by
  have hpl:ps.length<=N.length:=by have:=congrArg List.length S.pre;rw[List.length_take] at this;omega
  obtain⟨h1,tk,rfl,hk⟩:=x.done
  have noA:∀b:Addr,b∉(ei CX P w K mg base N qual scope f cd A outer s H E).ex:=fun b z=>absurd (show b∈([]:List Addr) from z) (by simp)
  refine⟨⟨e0.mod,S.kind,rfl,rfl,Nat.le_refl _,fun y z c h1 h2=>?_,fun y hy=>?_,fun y c _ h=>?_,fun _=>hd,Around.frames_deeper e0.frames,.inr ⟨rfl,rfl⟩,fun b z=>absurd z (noA b),e0.bs,e0.bsz,fun b _ _=>noA b,fun b z=>absurd z (noA b),e0.iX,e0.frf⟩,
    rfl,e0.bare,Un.kept hk,⟨_,x.toInCall.ns,fun i y v h1 h2 h3=>?_⟩,fun y c h=>⟨_,x.cell y c h⟩,e0.hok.fresh (Nat.le_refl _),fun y c h=>?_,fun p hp=>absurd (show p∈([]:List (Addr×Obj)) from hp) (by simp),e0.hok.kept hk,?_⟩
  · exact name_of_addr x.apart (PySem.mem_of_lookup h1) (PySem.mem_of_lookup h2)
  · have hy:scope.names.lookup y=some .cell\/scope.names.lookup y=some .free:=hy
    rcases hy with hy | hy
    · exact lO hy
    · exact absurd rfl (S.sE _ (PySem.mem_of_lookup hy))
  · exact Nat.le_of_lt (x.above y c (PySem.mem_of_lookup h))
  · have hi:i < vs.length:=by
      unfold start at h2
      by_cases hi:i < vs.length
      · exact hi
      · rw[List.getElem?_append_right (by simpa using hi)] at h2
        rw[List.getElem?_replicate] at h2
        split at h2<;>cases h2
    have ha:vs[i]?=some v:=by
      unfold start at h2
      rw[List.getElem?_append_left (by simpa using hi),List.getElem?_map] at h2
      cases e:vs[i]? with
      | none=>rw[e] at h2;cases h2
      | some a=>rw[e] at h2;cases h2;rfl
    obtain⟨u,hu,rv⟩:=r.get ha
    have hp:ps[i]?=some y:=by
      rw[<-S.pre,List.getElem?_take_of_lt (by omega)];exact h1
    have ndP:ps.Nodup:=by rw[<-S.pre];exact S.nd.sublist (List.take_sublist _ _)
    refine⟨u,rv,?_⟩
    rcases S.par y (List.mem_of_getElem? hp) with k | k
    · exact .inl ⟨k,j_ ndP hp hu k⟩
    · obtain⟨c,e⟩:=lO (n:=s.heap.objs.size+1) k
      refine .inr ⟨.inl k,c,e,?_⟩
      have q:=x.cell y c e
      rw[ka ndP hp hu (by show scope.names.lookup y≠_;rw[k];decide)] at q
      exact q
  · exact e0.hok.fresh (Nat.le_of_lt (x.above y c (PySem.mem_of_lookup h)))
  · unfold start
    show _=N.length
    rw[List.length_append,List.length_map,List.length_replicate]
    omega
theorem nJ {CX:CXT}{P:Program}{w:World}{K:PySem.W.Frag}{mg:Str->Option Value}{base:Heap}{k:Nat}{f:Addr}{name qual:Str}{params:Arguments}{body:List Stmt}{scope:Scope}{dV kV doc pm cdv ct oc:Value}{an od:Option Addr}
    {osl:Array (Option Value)} {N ps:List Str} {sp:Sp} (lk:K.lookup f=some ⟨oc,od,.func (PySem.W.fnOf name qual params body scope dV kV doc pm an cdv ct),osl⟩) (hcd:PySem.W.codeIn K cdv qual=true) (S:ay N ps scope)
    (len:∀vs H Q E,sp vs H Q E->vs.length=ps.length)
    (hbody:∀(A:Around) (outer:List Env) (s:Shared) (H:Hp) (vs:List V) (Q:VK) (E:XK),bS k (A.deeper (envOfC qual scope s.heap.objs.size f cdv))->sp vs H Q E ->
      ∃t,PSs (ei CX P w K mg base N qual scope f cdv A outer s H E) body t/\t { nx:=fun _ H'=>Q .non H',rt:=Q } (start N vs) H) :
    gw P w K mg base CX (k+1) f (PySem.W.fnOf name qual params body scope dV kV doc pm an cdv ct) ps sp:=by
  refine⟨len,fun A outer s H args us vs Q E hr e0 hb r hsp=>?_⟩
  have hl:=len _ _ _ _ hsp
  have KX:K.In s.heap:=e0.mod.kin.keeps fun b o e=>(e0.bs b o e).1
  have lim:s.heap.NoLimit:=e0.mod.nolimit.keeps fun b o e=>(e0.bs b o e).1
  have hkind:∀y∈ps.zip us,scope.names.lookup y.1=some .local\/(scope.names.lookup y.1=some .cell/\((cellsFrom (s.heap.objs.size+1) scope.names []).lookup y.1).isSome=true):=fun ⟨n,v⟩ hy=>by
    rcases S.par n (List.of_mem_zip hy).1 with q | q
    · exact .inl q
    · exact .inr ⟨q,PySem.W.cellsFrom_some _ _ _ (.inl q)⟩
  refine codeAny_call_function hr.depth (KX _ _ lk) rfl S.co S.gen rfl (PySem.W.codeRec_of KX hcd) (hb _ _ _ _ ?_)
  refine wpAny_newFunctionEnv_cells S.kind hkind fun env he s1 x=>?_
  subst he
  refine⟨lim.keeps x.toInCall.keep,codeAny_func ?_⟩
  obtain⟨t,ht,hq⟩:=hbody A outer s H vs Q E (hr.deeper _) hsp
  have I:Inv (ei CX P w K mg base N qual scope f cdv A outer s H E) [] (start N vs) H s1:=oI S hr.hd e0 hl r x
  refine wpAny_mono (ht [] s1 (start N vs) H _ I hq) (fun fl s' hs=>?_) fun e s' hs=>hs
  have fin:∀{σ':St} {H':Hp} {v:V} {u:Value},Inv (ei CX P w K mg base N qual scope f cdv A outer s H E) [] σ' H' s'->RelV v u->Q v H'->CE outer P w H s Q u s' :=
    fun {σ' H' v u} J rv q=>⟨v,H',J.os,J.bare,J.base,J.hok,rv,q⟩
  cases fl with
  | ret u =>
    obtain⟨v,σ',H',J,rv,q⟩:=hs
    exact fin J rv q
  | next =>
    obtain⟨σ',H',J,q⟩:=hs
    exact fin (v:=V.non) (u:=Value.none) J rfl q
  | brk =>
    obtain⟨_,_,_,q⟩:=hs
    exact False.elim q
  | cont =>
    obtain⟨_,_,_,q⟩:=hs
    exact False.elim q
end L2
namespace L2
open PySem PySem.Spec PyProof.Rows
section
variable {X:Cx}{x:Str}{p pos:Pos}{e:Expr}{es:List Expr}{t:TA}{id T:String}{r:List V->Hp->VK->Prop}
def tCB (r:List V->Hp->VK->Prop)(t:TA): TE:=fun σ H Q=>t σ H fun vs H1=>r vs H1 Q
theorem aM (hc:dw X (.builtin id) r) (hg:Gl X x) (hm:X.mg x=none) (hv:bootBuiltins x=some (.builtin id)) (ha:PA X (e::es) t) (hn:x ≠ "__name__" := by decide) (hdb:(x==("__debug__" : Str))=false:=by decide)
    (he:starEach (e::es) X.env=(false,eval e X.env)::starEach es X.env:=by rfl) (hpl:(backTo pos (starEach es X.env)).any (·.1)=false:=by rfl):PE X (.Call (.Name x p) (e::es) [] pos) (tCB r t):=by
  intro pins s σ H Q I h
  refine wpAny_Call_Name_kw (kK I hg hm hv ?_ hn hdb)
  exact PyProof.Rows.callWith_builtin1 (thn (ha pos pins s σ H _ I h) fun us s1 ⟨vs,H1,I1,r1,q1⟩=>hc pins s1 σ H1 vs us Q I1 r1 q1) he hpl
theorem fS (hc:dw X (.type T) r) (hg:Gl X x) (hm:X.mg x=none) (hv:bootBuiltins x=some (.type T)) (ha:PA X (e::es) t) (hn:x ≠ "__name__" := by decide) (hdb:(x==("__debug__" : Str))=false:=by decide)
    (he:starEach (e::es) X.env=(false,eval e X.env)::starEach es X.env:=by rfl) (hpl:(backTo pos (starEach es X.env)).any (·.1)=false:=by rfl):PE X (.Call (.Name x p) (e::es) [] pos) (tCB r t):=by
  intro pins s σ H Q I h
  refine wpAny_Call_Name_kw (kK I hg hm hv ?_ hn hdb)
  exact PyProof.Rows.callWith_type1 (thn (ha pos pins s σ H _ I h) fun us s1 ⟨vs,H1,I1,r1,q1⟩=>hc pins s1 σ H1 vs us Q I1 r1 q1) he hpl
end
end L2
namespace HT
open PySem PyProof.Rows
section
open PySem.SeqAt
open PySem.AutoSeq1 (wpAny_loadPart')
open PySem.MeetsSeq PySem.MeetsSeq2 PySem.MeetsSeq3
end
section
variable {prog:Program}{w:World}{A:Around}{E:Value->Shared->Prop}{s:Shared}
def sIx (n d:Nat): Option Int->Nat
  | none=>d
  | some v=>if v < 0 then (v+(n:Int)).toNat else min v.toNat n
end
end HT
namespace L2
open PySem PySem.Spec PyProof.Rows
abbrev TO:=St->Hp->(Option Int->Hp->Prop)->Prop
def PO (X:Cx)(e:Option Expr)(t:TO): Prop :=
  ∀(pins:List (Addr×Obj)) (s:Shared) (σ:St) (H:Hp) (Q:Option Int->Hp->Prop),Inv X pins σ H s->t σ H Q ->
    wpAny (model X.prog X.w) X.A (evalPart e X.env) (fun u s'=>∃o H',Inv X pins σ H' s'/\IsPart u o/\Q o H') X.xe s
def qR:TO:=fun _ H Q=>Q none H
def uq (t:TE): TO:=fun σ H Q=>t σ H fun x H1=>∃i,x=.int i/\Q (some i) H1
section
variable {X:Cx}{e:Expr}{te:TE}{lo hi:Option Expr}{tl th:TO}{pos p2:Pos}
theorem qS:PO X none qR:=by
  intro pins s σ H Q I h
  rw[evalPart_none]
  exact wpAny_pure ⟨none,H,I,.none,h⟩
theorem qT (h:PE X e te): PO X (some e) (uq te):=by
  intro pins s σ H Q I hw
  rw[evalPart_some]
  refine thn (h pins s σ H _ I hw) fun u s1 ⟨x,H1,I1,r1,q1⟩=>?_
  obtain⟨i,rfl,q⟩:=q1
  obtain⟨t,rfl⟩:=r1
  exact⟨some i,H1,I1,.int i t,q⟩
def SlR (X:Cx)(r:V->Option Int->Option Int->Hp->VK->Prop): Prop :=
  ∀(pins:List (Addr×Obj)) (s:Shared) (σ:St) (H:Hp) (x:V) (v vl vu:Value) (lo hi:Option Int) (sl:Addr) (Q:VK),Inv X pins σ H s->RelV x v->s.heap.IsSliceOf sl vl vu .none->IsPart vl lo->IsPart vu hi->r x lo hi H Q ->
    ∃T id,typeLookup (.type T) "__getitem__" = pure (some (.builtin id))/\s.TypeIs v T/\wpAny (model X.prog X.w) X.A (getItem v (.ref sl)) (EP X pins σ Q) X.xe s
def tSl (r:V->Option Int->Option Int->Hp->VK->Prop)(te:TE)(tl th:TO): TE:=fun σ H Q=>te σ H fun x H1=>tl σ H1 fun l H2=>th σ H2 fun u H3=>r x l u H3 Q
theorem pT {r:V->Option Int->Option Int->Hp->VK->Prop}(hr:SlR X r)(he:PE X e te)(hl:PO X lo tl)(hu:PO X hi th): PE X (.Subscript e (.Slice lo hi none p2) pos) (tSl r te tl th):=by
  intro pins s σ H Q I h
  refine Subscript_ (thn (he pins s σ H _ I h) fun v s1 ⟨x,H1,I1,r1,q1⟩=>?_)
  refine wpAny_Slice (thn (hl pins s1 σ H1 _ I1 q1) fun vl s2 ⟨l,H2,I2,pl,q2⟩=>thn (hu pins s2 σ H2 _ I2 q2) fun vu s3 ⟨u,H3,I3,pu,q3⟩=>?_)
  rw[evalPart_none]
  refine wpAny_pure ?_
  have I4:Inv X pins σ H3 { s3 with heap:=s3.heap.push { cls:=.type "slice",data:=.fields #[vl,vu,.none] } }:=I3.kept (t':=s3.toks) fun b ob q=>Heap.get?_push_of_some _ q
  obtain⟨T,id,hT,ht,hg⟩:=hr pins { s3 with heap:=s3.heap.push { cls:=.type "slice",data:=.fields #[vl,vu,.none] } } σ H3 x v vl vu l u s3.heap.objs.size Q I4 r1 (Heap.IsSliceOf.new ..) pl pu q3
  show wpAny (model X.prog X.w) X.A (subscriptTail e (.Slice lo hi none p2) v (.ref s3.heap.objs.size)) (EP X pins σ Q) X.xe { s3 with heap:=s3.heap.push { cls:=.type "slice",data:=.fields #[vl,vu,.none] } }
  exact tail_any (ops:=[.ref s3.heap.objs.size,v]) ht hT hg (by with_unfolding_all rfl)
def oJ (xs:List V)(lo hi:Option Int): List V:=(xs.drop (HT.sIx xs.length 0 lo)).take (HT.sIx xs.length xs.length hi-HT.sIx xs.length 0 lo)
theorem lP (xs:List V)(lo hi:Option Int): (oJ xs lo hi).length<=xs.length:=by
  unfold oJ
  rw[List.length_take,List.length_drop]
  omega
end
end L2
namespace L2
open PySem PySem.Spec PyProof.Rows
def ixN (n:Nat)(i:Int): Option Nat:=if 0<=i then (if i < n then some i.toNat else none) else if -(n:Int)<=i then some (i+n).toNat else none
def atI {α:Type}(xs:List α)(i:Int): Option α:=(ixN xs.length i).bind fun j=>xs[j]?
theorem nK {n:Nat}{i:Int}{j:Nat}(h:ixN n i=some j): seqIndex? i n=some j/\j < n/\-(n:Int)<=i/\i < n:=by
  unfold ixN at h
  by_cases h0:0<=i
  · rw[if_pos h0] at h
    by_cases h1:i < n
    · rw[if_pos h1] at h
      have e:i.toNat=j:=Option.some.inj h
      exact⟨by rw[seqIndex_of h0 h1,e],by omega,by omega,h1⟩
    · rw[if_neg h1] at h;cases h
  · rw[if_neg h0] at h
    by_cases h1:-(n:Int)<=i
    · rw[if_pos h1] at h
      have e:(i+n).toNat=j:=Option.some.inj h
      exact⟨by rw[seqIndex_neg (by omega) h1,e],by omega,h1,by omega⟩
    · rw[if_neg h1] at h;cases h
theorem nL {α:Type}{xs:List α}{i:Int}{v:α}(h:atI xs i=some v): ∃j,seqIndex? i xs.length=some j/\xs[j]?=some v/\j < xs.length/\-(xs.length:Int)<=i/\i < xs.length:=by
  unfold atI at h
  cases e:ixN xs.length i with
  | none=>rw[e] at h;cases h
  | some j =>
    rw[e] at h
    obtain⟨h1,h2,h3,h4⟩:=nK e
    exact⟨j,h1,h,h2,h3,h4⟩
theorem qU {α:Type}{xs:List α}{j:Nat}{v:α}(h:xs[j]?=some v): atI xs (j:Int)=some v:=by
  have hj:j < xs.length:=(List.getElem?_eq_some_iff.mp h).1
  have e:ixN xs.length (j:Int)=some j:=by
    unfold ixN
    rw[if_pos (by omega),if_pos (by omega)];simp
  unfold atI;rw[e];exact h
def qV (b:Expr): Prop:=∀o i,subscripted b false o i=operate [o,i] (getItem o i)
def IxR (X:Cx)(r:R2): Prop :=
  ∀(value slice:Expr) (pins:List (Addr×Obj)) (s:Shared) (σ:St) (H:Hp) (x y:V) (v u:Value) (Q:VK),Inv X pins σ H s->RelV x v->RelV y u->r x y H Q ->
    subscripted slice false v u=operate [v,u] (getItem v u)->wpAny (model X.prog X.w) X.A (subscriptTail value slice v u) (EP X pins σ Q) X.xe s
def MtR (X:Cx)(id:String)(r:V->List V->Hp->VK->Prop): Prop :=
  ∀(pins:List (Addr×Obj)) (s:Shared) (σ:St) (H:Hp) (x:V) (xs:List V) (v:Value) (us:List Value) (Q:VK),Inv X pins σ H s->RelV x v->Vals xs us->r x xs H Q ->
    wpAny (model X.prog X.w) X.A (call (.builtin id) (v::us)) (EP X pins σ Q) X.xe s
section
variable {X:Cx}{a b:Expr}{ta tb:TE}{pos:Pos}
theorem iT {r:R2}(hr:IxR X r)(ha:PE X a ta)(hb:PE X b tb)(hs:qV b): PE X (.Subscript a b pos) (tOp r ta tb):=by
  intro pins s σ H Q I h
  exact Subscript_ (sx ha hb I h fun v u s2 x y H2 I2 rx ry q=>hr a b pins s2 σ H2 x y v u Q I2 rx ry q (hs _ _))
def ur (K:PySem.W.Frag): R2:=fun x y H Q=>∃p xs i v,x=.ref p/\y=.int i/\SqL K H p xs/\atI xs i=some v/\Q v H
def vH (K:PySem.W.Frag): R2:=fun x y H Q=>∃p xs i v,x=.ref p/\y=.int i/\SqT K H p xs/\atI xs i=some v/\Q v H
theorem gO:IxR X (ur X.K):=by
  intro value slice pins s σ H x y v u Q I rx ry h hs
  obtain⟨p,xs,i,z,rfl,rfl,hq,he,q⟩:=h
  cases rx
  obtain⟨t,rfl⟩:=ry
  obtain⟨its,r,pl,hz⟩:=I.list hq
  obtain⟨j,h1,h2,h3,h4,h5⟩:=nL he
  obtain⟨w,ew,rw'⟩:=r.get h2
  have hl:=r.length
  have hn:=kL
  have fin:EP X pins σ Q w s:=⟨z,H,I,rw',q⟩
  by_cases h0:0<=i
  · have hj:i.toNat=j:=by
      rw[seqIndex_of h0 h5] at h1
      exact Option.some.inj h1
    exact item_listR pl.isList h0 (by omega) (by rw[hj];simpa using ew) fin hs
  · have hj:(i+(its.toArray.size:Int)).toNat=j:=by
      rw[seqIndex_neg (by omega) h4] at h1
      rw[List.size_toArray,<-hl]
      exact Option.some.inj h1
    exact subscriptTail_builtinR (x:=w) pl.isList.typeIs slot_list_getitem.lookup
      (wpAny_getItem_list_neg (Q:=fun r s'=>r=w/\EP X pins σ Q r s') pl.isList (by omega) (by rw[List.size_toArray]<;>omega) (by omega) (by rw[hj];simpa using ew) ⟨rfl,fin⟩) hs
theorem sF:IxR X (vH X.K):=by
  intro value slice pins s σ H x y v u Q I rx ry h hs
  obtain⟨p,xs,i,z,rfl,rfl,hq,he,q⟩:=h
  cases rx
  obtain⟨t,rfl⟩:=ry
  obtain⟨its,r,pl,hz⟩:=I.tuple hq
  obtain⟨j,h1,h2,h3,h4,h5⟩:=nL he
  obtain⟨w,ew,rw'⟩:=r.get h2
  have hl:=r.length
  have hn:=kL
  have fin:EP X pins σ Q w s:=⟨z,H,I,rw',q⟩
  exact subscriptTail_builtinR (x:=w) pl.typeIs slot_tuple_getitem.lookup
    (getItem_tuple (j:=j) (Q:=fun r s'=>r=w/\EP X pins σ Q r s') pl (by omega) (by omega) (by rw[List.size_toArray,<-hl];exact h1) (by simpa using ew) ⟨rfl,fin⟩) hs
theorem mJ (its:List Value)(n j:Nat)(u:Value): Obj.mapSeq (·.setIfInBounds j u) { cls:=.type "list",data:=.seq its.toArray n }={ cls:=.type "list",data:=.seq (its.set j u).toArray n }:=by
  simp[Obj.mapSeq]
theorem Inv.lst {pins:List (Addr×Obj)}{σ:St}{H:Hp}{s:Shared}{p:Addr}{xs:List V}(I:Inv X pins σ H s)(h:H p=some (.lst xs)):
    ∃(its:List Value) (n:Nat),Vals xs its/\s.heap.get? p=some { cls:=.type "list",data:=.seq its.toArray n }/\xs.length<=sizeLine:=by
  obtain⟨z,its,n,r,e⟩:=I.hok p _ h
  exact⟨its,n,r,e,z⟩
theorem Inv.sG {pins:List (Addr×Obj)}{σ:St}{H:Hp}{s:Shared}{p:Addr}{xs ys:List V}{its its':List Value}{n n':Nat}{f:Obj->Obj}(I:Inv X pins σ H s)(h:H p=some (.lst xs))
    (ho:s.heap.get? p=some { cls:=.type "list",data:=.seq its.toArray n }) (hf:f { cls:=.type "list",data:=.seq its.toArray n }={ cls:=.type "list",data:=.seq its'.toArray n' }) (r:Vals ys its') (hz:ys.length<=sizeLine) (t:Nat) :
    Inv X pins σ (upd H p (.lst ys)) { s with heap:=s.heap.update p f,toks:=t }:=by
  have e:(s.heap.update p f).get? p=some { cls:=.type "list",data:=.seq its'.toArray n' }:=by
    rw[Heap.get?_update_self f ho (by rw[hf]<;>rfl),hf]
  refine I.write (x:=p) (e:=p) (by rw[h];trivial) (.inl rfl) (fun b u hb q=>(Heap.get?_update_other _ _ (Ne.symm hb)).trans q) ⟨_,e⟩ ?_
  exact⟨hz,its',n',r,e⟩
def uv:V->V->V->Hp->(Hp->Prop)->Prop:=fun o i v H Q=>∃p xs k j,o=.ref p/\i=.int k/\H p=some (.lst xs)/\ixN xs.length k=some j/\Q (upd H p (.lst (xs.set j v)))
theorem set_list:uc X uv:=by
  intro pins s σ H o i v ov iv u Q I ro ri rv h
  obtain⟨p,xs,k,j,rfl,rfl,hp,hj,q⟩:=h
  cases ro
  obtain⟨t,rfl⟩:=ri
  obtain⟨its,n,r,ho,hz⟩:=I.lst hp
  obtain⟨h1,h2,h3,h4⟩:=nK hj
  have hl:=r.length
  have hn:=kL
  have I':Inv X pins σ (upd H p (.lst (xs.set j v))) { s with heap:=s.heap.update p (Obj.mapSeq (·.setIfInBounds j u)) } :=
    I.sG hp ho (mJ its n j u) (r.set rv j) (by rw[List.length_set];exact hz) s.toks
  by_cases h0:0<=k
  · have hk:k.toNat=j:=by
      rw[seqIndex_of h0 h4] at h1
      exact Option.some.inj h1
    exact PySem.W.ki_setAt ho h0 (by omega) (by rw[List.size_toArray,<-hl];exact h4) (by rw[hk];exact⟨_,I',q⟩)
  · have hk:(k+(its.toArray.size:Int)).toNat=j:=by
      rw[seqIndex_neg (by omega) h3] at h1
      rw[List.size_toArray,<-hl]
      exact Option.some.inj h1
    exact PySem.W.ki_setBack ho (by omega) (by rw[List.size_toArray,<-hl];exact h3) (by omega) (by rw[hk];exact⟨_,I',q⟩)
theorem kM (lo hi:Option Int)(n:Nat): (sliceBounds lo hi none n).1=((HT.sIx n 0 lo:Nat):Int)/\(sliceBounds lo hi none n).2.1=((HT.sIx n n hi:Nat):Int)/\(sliceBounds lo hi none n).2.2=1:=by
  refine⟨?_,?_,rfl⟩
  · cases lo with
    | none=>simp[sliceBounds,HT.sIx]
    | some i =>
      simp only [sliceBounds,HT.sIx,Option.getD_none,show (1:Int) > 0 by decide,if_true]
      by_cases h:i < 0
      · simp only [h,if_true]<;>omega
      · simp only [h,if_false]<;>omega
  · cases hi with
    | none=>simp[sliceBounds,HT.sIx]
    | some i =>
      simp only [sliceBounds,HT.sIx,Option.getD_none,show (1:Int) > 0 by decide,if_true]
      by_cases h:i < 0
      · simp only [h,if_true]<;>omega
      · simp only [h,if_false]<;>omega
theorem jL (its:List Value)(lo hi:Option Int): slicePick its.toArray lo hi none=((its.drop (HT.sIx its.length 0 lo)).take (HT.sIx its.length its.length hi-HT.sIx its.length 0 lo)).toArray:=by
  obtain⟨h1,h2,h3⟩:=kM lo hi its.toArray.size
  unfold slicePick
  rw[h1,h2,h3]
  simp only [sliceRange_one,pick_run,List.size_toArray]<;>rfl
def vI (K:PySem.W.Frag): V->Option Int->Option Int->Hp->VK->Prop:=fun x lo hi H Q=>∃a xs,x=.ref a/\SqL K H a xs/\∀p,H p=none->Q (.ref p) (upd H p (.lst (oJ xs lo hi)))
theorem qW:SlR X (vI X.K):=by
  intro pins s σ H x v vl vu lo hi sl Q I rx hs pl pu h
  obtain⟨a,xs,rfl,hx,q⟩:=h
  cases rx
  obtain⟨its,r,ht,hz⟩:=I.list hx
  have hlen:=r.length
  refine⟨"list",_,slot_list_getitem.lookup,ht.isList.typeIs,?_⟩
  refine wpAny_getItem_list_slice ht.isList hs pl pu .none (by simp) ?_ (by rw[List.size_toArray]<;>omega)
  rw[jL,<-hlen]
  refine⟨.ref s.heap.objs.size,_,I.laid (t':=s.toks) (o:=.lst (oJ xs lo hi)) (fun b ob q=>Heap.get?_push_of_some _ q) (Nat.le_refl _) ?_,rfl,q _ (I.hok.fresh (Nat.le_refl _))⟩
  exact⟨Nat.le_trans (lP xs lo hi) hz,_,0,(r.drop (HT.sIx xs.length 0 lo)).take (HT.sIx xs.length xs.length hi-HT.sIx xs.length 0 lo),Heap.get?_push_size _ rfl⟩
def gk:V->Bool
  | .non=>true
  | .bl _=>true
  | .int _=>true
  | .str _=>true
  | _=>false
def eqV:V->V->Bool
  | .non,.non=>true
  | .bl a,.bl b=>a==b
  | .bl a,.int b=>(if a then 1 else 0)==b
  | .int a,.bl b=>a==(if b then 1 else 0)
  | .int a,.int b=>a==b
  | .str a,.str b=>a==b
  | _,_=>false
theorem sH {A:Around}{s:Shared}{y x:V}{u v:Value}(ry:RelV y u)(rx:RelV x v)(fy:gk y=true)(fx:gk x=true): SeqAt.EqAt A s u v (eqV y x):=by
  cases y with
  | non =>
    cases ry
    cases x with
    | non=>cases rx;exact SeqAt.EqAt.same _
    | bl b=>cases rx;exact SeqAt.EqAt.none_bool b
    | int b=>obtain⟨t,rfl⟩:=rx;exact SeqAt.EqAt.none_int b t
    | str b=>obtain⟨t,rfl⟩:=rx;exact SeqAt.EqAt.none_str b t
    | _=>exact absurd (show false=true from fx) Bool.false_ne_true
  | bl a =>
    cases ry
    cases x with
    | non=>cases rx;exact SeqAt.EqAt.bool_none a
    | bl b=>cases rx;exact SeqAt.EqAt.bool_bool a b
    | int b=>obtain⟨t,rfl⟩:=rx;exact SeqAt.EqAt.bool_int a b t
    | str b=>obtain⟨t,rfl⟩:=rx;exact SeqAt.EqAt.bool_str a b t
    | _=>exact absurd (show false=true from fx) Bool.false_ne_true
  | int a =>
    obtain⟨t',rfl⟩:=ry
    cases x with
    | non=>cases rx;exact SeqAt.EqAt.int_none a t'
    | bl b=>cases rx;exact SeqAt.EqAt.int_bool a t' b
    | int b=>obtain⟨t,rfl⟩:=rx;exact SeqAt.EqAt.int_int a t' b t
    | str b=>obtain⟨t,rfl⟩:=rx;exact SeqAt.EqAt.int_str a t' b t
    | _=>exact absurd (show false=true from fx) Bool.false_ne_true
  | str a =>
    obtain⟨t',rfl⟩:=ry
    cases x with
    | non=>cases rx;exact SeqAt.EqAt.str_none a t'
    | bl b=>cases rx;exact SeqAt.EqAt.str_bool a t' b
    | int b=>obtain⟨t,rfl⟩:=rx;exact SeqAt.EqAt.str_int a t' b t
    | str b=>obtain⟨t,rfl⟩:=rx;exact SeqAt.EqAt.str_str a t' b t
    | _=>exact absurd (show false=true from fx) Bool.false_ne_true
  | _=>exact absurd (show false=true from fy) Bool.false_ne_true
def eqU (x:V)(u:Value): Bool:=match u with
  | .none=>eqV .non x
  | .bool b=>eqV (.bl b) x
  | .int i _=>eqV (.int i) x
  | .str z _=>eqV (.str z) x
  | _=>false
theorem pU {x y:V}{u:Value}(r:RelV y u)(f:gk y=true): eqU x u=eqV y x:=by
  cases y with
  | non=>cases r;rfl
  | bl b=>cases r;rfl
  | int i=>obtain⟨t,rfl⟩:=r;rfl
  | str z=>obtain⟨t,rfl⟩:=r;rfl
  | _=>exact absurd (show false=true from f) Bool.false_ne_true
theorem kN {x:V}: ∀{xs:List V} {us:List Value},Vals xs us->xs.all gk=true->us.any (eqU x)=xs.any fun y=>eqV y x
  | _,_,.nil,_=>rfl
  | y::xs,u::us,.cons r t,f=>by
    rw[List.all_cons,Bool.and_eq_true] at f
    rw[List.any_cons,List.any_cons,pU r f.1,kN t f.2]
theorem jj {A:Around}{s:Shared}{x:V}{v:Value}(rx:RelV x v)(fx:gk x=true): ∀{xs:List V} {us:List Value},Vals xs us->xs.all gk=true->∀u∈us,SeqAt.EqAt A s u v (eqU x u)
  | _,_,.nil,_=>fun u hu=>by cases hu
  | y::xs,u::us,.cons r t,f=>fun u' hu=>by
    rw[List.all_cons,Bool.and_eq_true] at f
    rcases List.mem_cons.mp hu with rfl | hu
    · rw[pU r f.1];exact sH r rx f.1 fx
    · exact jj rx fx t f.2 u' hu
def inV (x:V)(xs:List V): Bool:=xs.any fun y=>eqV y x
def rIn (K:PySem.W.Frag)(neg:Bool): R2:=fun x y H Q=>∃p xs,y=.ref p/\(SqL K H p xs\/SqT K H p xs)/\gk x=true/\xs.all gk=true/\Q (.bl (if neg then !inV x xs else inV x xs)) H
theorem ej:OpR X (compareOp .NotIn) (rIn X.K true):=by
  intro pins s σ H x y v u Q I rx ry h
  obtain⟨p,xs,rfl,hq,fx,fs,q⟩:=h
  cases ry
  rcases hq with hq | hq
  · obtain⟨its,r,pl,hz⟩:=I.list hq
    refine SeqAt.notIn_listAt (eqU x) pl.isList (fun w hw=>jj rx fx r fs w (by simpa using hw)) ⟨.bl _,H,I,rfl,?_⟩
    rw[show its.toArray.any (eqU x)=its.any (eqU x) by simp,kN r fs]
    exact q
  · obtain⟨its,r,pl,hz⟩:=I.tuple hq
    refine SeqAt.notIn_tupleAt (eqU x) pl (fun w hw=>jj rx fx r fs w (by simpa using hw)) ⟨.bl _,H,I,rfl,?_⟩
    rw[show its.toArray.any (eqU x)=its.any (eqU x) by simp,kN r fs]
    exact q
theorem cf:dw X (.builtin "len") (fun xs H Q=>∃p ys,xs=[.ref p]/\(SqL X.K H p ys\/SqT X.K H p ys)/\Q (.int ys.length) H):=by
  intro pins s σ H xs us Q I r h
  obtain⟨p,ys,rfl,hq,q⟩:=h
  obtain⟨u,rfl,rx⟩:=vals1 r
  cases rx
  have hn:=kL
  rcases hq with hq | hq
  · obtain⟨its,r',pl,hz⟩:=I.list hq
    have hlen:=r'.length
    exact Calls.call_len_list pl.isList (by simp only [List.size_toArray]<;>omega) ⟨.int ys.length,H,I.tok _,⟨s.toks+1,by rw[List.size_toArray,hlen]⟩,q⟩
  · obtain⟨its,r',pl,hz⟩:=I.tuple hq
    have hlen:=r'.length
    exact len_tuple pl (by simp only [List.size_toArray]<;>omega) ⟨.int ys.length,H,I.tok _,⟨s.toks+1,by rw[List.size_toArray,hlen]⟩,q⟩
theorem kO:dw X (.type "list") (fun xs H Q=>∃p ys,xs=[.ref p]/\(SqL X.K H p ys\/SqT X.K H p ys)/\∀l,H l=none->Q (.ref l) (upd H l (.lst ys))):=by
  intro pins s σ H xs us Q I r h
  obtain⟨p,ys,rfl,hq,q⟩:=h
  obtain⟨u,rfl,rx⟩:=vals1 r
  cases rx
  have fin:∀(its:List Value),Vals ys its->ys.length<=sizeLine->∀(h':Heap) (c':Nat),(∀b o',s.heap.get? b=some o'->h'.get? b=some o') ->
      h'.get? s.heap.objs.size=some { cls:=.type "list",dict:=none,data:=.seq its.toArray c',slots:=#[] }->EP X pins σ Q (.ref s.heap.objs.size) { s with heap:=h' }:=fun its r' hz h' c' kp e =>
    ⟨.ref s.heap.objs.size,_,I.laid (t':=s.toks) kp (Nat.le_refl _) (show aV X.prog X.w _ h' _ (.lst ys) from ⟨hz,its,c',r',e⟩),rfl,q _ (I.hok.fresh (Nat.le_refl _))⟩
  rcases hq with hq | hq
  · obtain⟨its,r',pl,hz⟩:=I.list hq
    have hlen:=r'.length
    obtain⟨o,ho,hc,n,hd⟩:=pl.isList
    exact call_list_seq p (.inl rfl) ho hc hd (fun h' c' kp e=>fin its r' hz h' c' kp e) (by simp only [List.size_toArray]<;>omega)
  · obtain⟨its,r',pl,hz⟩:=I.tuple hq
    have hlen:=r'.length
    obtain⟨o,ho,hc,n,hd⟩:=pl
    exact call_list_seq p (.inr rfl) ho hc hd (fun h' c' kp e=>fin its r' hz h' c' kp e) (by simp only [List.size_toArray]<;>omega)
theorem jM:dw X (.type "tuple") (fun xs H Q=>∃p ys,xs=[.ref p]/\((SqL X.K H p ys/\∀l,H l=none->Q (.ref l) (upd H l (.tup ys)))\/(SqT X.K H p ys/\Q (.ref p) H))):=by
  intro pins s σ H xs us Q I r h
  obtain⟨p,ys,rfl,h⟩:=h
  obtain⟨u,rfl,rx⟩:=vals1 r
  cases rx
  rcases h with ⟨hq,q⟩ | ⟨hq,q⟩
  · obtain⟨its,r',pl,hz⟩:=I.list hq
    have hlen:=r'.length
    refine call_tuple_list pl.isList (fun h' kp=>?_) (by simp only [List.size_toArray]<;>omega)
    have I1:Inv X pins σ H { s with heap:=h' }:=I.kept (t':=s.toks) kp
    have I2:Inv X pins σ (upd H h'.objs.size (.tup ys)) { s with heap:=h'.push { cls:=.type "tuple",data:=.seq its.toArray } } :=
      I1.laid (t':=s.toks) (fun b o e=>Heap.get?_push_of_some _ e) (Nat.le_refl _) (show aV X.prog X.w _ _ _ (.tup ys) from ⟨hz,its,r',IsTup.new _ _⟩)
    exact⟨.ref h'.objs.size,_,I2,rfl,q _ (I1.hok.fresh (Nat.le_refl _))⟩
  · obtain⟨its,r',pl,hz⟩:=I.tuple hq
    exact call_tuple_same pl ⟨.ref p,H,I,rfl,q⟩
def tyV (K:PySem.W.Frag)(T:String)(x:V)(H:Hp): Prop:=match x with
  | .str _=>T = "str"
  | .int _=>T = "int"
  | .ref p=>(T = "list" ∧ ∃xs,SqL K H p xs)\/(T = "tuple" ∧ ∃o,K.lookup p=some o/\o.cls=.type "tuple" ∧ o.dict=none) ∨
      (T = "dict" ∧ ((∃kvs,H p=some (.dK kvs))\/∃kvs,H p=some (.dT kvs)))\/(T = "set" ∧ ∃S n,H p=some (.set S n))
  | _=>False
theorem pV {pins:List (Addr×Obj)}{σ:St}{H:Hp}{s:Shared}{T:String}{x:V}{v:Value}(I:Inv X pins σ H s)(r:RelV x v)(ty:tyV X.K T x H):
    s.TypeIs v T/\∀a,v=.ref a->∃ob,s.heap.get? a=some ob/\ob.dict=none:=by
  cases x with
  | str z =>
    obtain⟨t,rfl⟩:=r
    cases (show T = "str" from ty)
    exact⟨typeIs_str s z t,fun _ e=>nomatch e⟩
  | int i =>
    obtain⟨t,rfl⟩:=r
    cases (show T = "int" from ty)
    exact⟨typeIs_int s i t,fun _ e=>nomatch e⟩
  | ref p =>
    cases r
    rcases ty with ⟨rfl,xs,hq⟩ | ⟨rfl,o,hk,hc,hd⟩ | ⟨rfl,hk⟩ | ⟨rfl,S,n,hk⟩
    · obtain⟨its,_,pl,_⟩:=I.list hq
      refine⟨pl.isList.typeIs,fun a e=>?_⟩
      cases e
      obtain⟨o,n,e,c,hd,_⟩:=pl
      exact⟨o,e,hd⟩
    · refine⟨⟨o,I.kIn p o hk,hc⟩,fun a e=>?_⟩
      cases e
      exact⟨o,I.kIn _ o hk,hd⟩
    · have z:∃o,s.heap.get? p=some o/\o.ExactDict:=by
        rcases hk with ⟨kvs,hk⟩ | ⟨kvs,hk⟩
        · obtain⟨_,_,_,_,o,_,_,e,ex,_⟩:=I.hok p _ hk
          exact⟨o,e,ex⟩
        · obtain⟨_,_,_,_,o,_,_,e,ex,_⟩:=I.hok p _ hk
          exact⟨o,e,ex⟩
      obtain⟨o,e,ex⟩:=z
      refine⟨⟨o,e,ex.1⟩,fun a e2=>?_⟩
      cases e2
      exact⟨o,e,ex.2.1⟩
    · obtain⟨o,_,_,_,e,ex,_⟩:=I.hok p _ hk
      refine⟨⟨o,e,ex.1⟩,fun a e2=>?_⟩
      cases e2
      exact⟨o,e,ex.2.1⟩
  | _=>exact False.elim ty
def vJ (K:PySem.W.Frag)(T:String)(r:V->List V->Hp->VK->Prop)(to:TE): TE:=fun σ H Q=>to σ H fun x H1=>tyV K T x H1/\r x [] H1 Q
def tBM (K:PySem.W.Frag)(T:String)(r:V->List V->Hp->VK->Prop)(to:TE)(t:TA): TE:=fun σ H Q=>to σ H fun x H1=>tyV K T x H1/\t σ H1 fun xs H2=>r x xs H2 Q
variable {o e:Expr}{es:List Expr}{to:TE}{t:TA}{name:Str}{apos cpos:Pos}{T id:String}{r:V->List V->Hp->VK->Prop}
theorem sI (pa:PlainAttrs T) (slot:Slot T name id) (hty:typeOf (.builtin id)=pure (.type "method_descriptor")) (hm:MtR X id r) (ho:PE X o to)
    (hbase:attributeBase o name X.env (eval o X.env)=eval o X.env:=by rfl) (hline:(apos.endLine==cpos.line)=true:=by rfl):PE X (.Call (.Attribute o name apos) [] [] cpos) (vJ X.K T r to):=by
  intro pins s σ H Q I h
  refine wpAny_Call_method0_late hbase hline (thn (ho pins s σ H _ I h) fun v s1 ⟨x,H1,I1,r1,ty,q1⟩=>?_)
  obtain⟨h1,h2⟩:=pV I1 r1 ty
  exact⟨T,id,pa,slot,hty,h1,h2,Calls.callWith_builtin rfl (PySem.evalArgs_none (hm pins s1 σ H1 x [] v [] Q I1 r1 .nil q1))⟩
theorem kb (pa:PlainAttrs T) (slot:Slot T name id) (hty:typeOf (.builtin id)=pure (.type "method_descriptor")) (hm:MtR X id r) (ho:PE X o to) (ha:PA X (e::es) t)
    (hbase:attributeBase o name X.env (eval o X.env)=eval o X.env:=by rfl)
    (hfew:((backTo cpos (starEach (e::es) X.env)).all (fun x=>!x.1)&&(backToKw cpos (keywordEach [] X.env)).all (fun x=>x.1.isSome)
      && decide ((e::es).length+([]:List Keyword).length+(if ([]:List Keyword).isEmpty then 0 else 1) < 30))=true:=by rfl)
    (hline:(apos.endLine==cpos.line)=true:=by rfl) (hs:starEach (e::es) X.env=(false,eval e X.env)::starEach es X.env:=by rfl) (hplain:(backTo cpos (starEach es X.env)).any (·.1)=false:=by rfl) :
    PE X (.Call (.Attribute o name apos) (e::es) [] cpos) (tBM X.K T r to t):=by
  intro pins s σ H Q I h
  refine wpAny_Call_method_late hbase hfew hline rfl (thn (ho pins s σ H _ I h) fun v s1 ⟨x,H1,I1,r1,ty,q1⟩=>?_)
  obtain⟨h1,h2⟩:=pV I1 r1 ty
  refine⟨T,id,pa,slot,hty,h1,h2,?_⟩
  have hA:=ha cpos pins s1 σ H1 _ I1 q1
  rw[hs] at hA ⊢
  refine Calls.callWith_builtin (by show (false || (backTo cpos (starEach es X.env)).any (·.1))=false;rw[hplain]<;>rfl) (Calls.evalArgs_plain ?_)
  exact thn hA fun us s2 ⟨vs,H2,I2,r2,q2⟩=>hm pins s2 σ H2 x vs v us Q I2 r1 r2 q2
end
end L2
namespace L2
open PySem PySem.Spec PyProof.Rows
def MtM (X:Cx)(id:String)(r:V->List V->Hp->VK->Prop): Prop :=
  ∀(pins:List (Addr×Obj)) (s:Shared) (σ:St) (H:Hp) (x:V) (xs:List V) (v:Value) (us:List Value) (Q:VK),Inv X pins σ H s->RelV x v->Vals xs us->r x xs H Q ->
    wpAny (model X.prog X.w) X.A (call (.builtin id) (v::us)) (EP X pins σ Q) X.xe s
theorem Vals.one:∀{x:V} {us:List Value},Vals [x] us->∃u,us=[u]/\RelV x u
  | _,_,.cons r .nil=>⟨_,rfl,r⟩
theorem Vals.zero:∀{us:List Value},Vals [] us->us=[]
  | _,.nil=>rfl
theorem Vals.eraseIdx:∀{xs:List V} {us:List Value} (i:Nat),Vals xs us->Vals (xs.eraseIdx i) (us.eraseIdx i)
  | _,_,_,.nil=>.nil
  | _,_,0,.cons _ t=>t
  | _,_,i+1,.cons r t=>.cons r (Vals.eraseIdx i t)
theorem Vals.rep {xs:List V}{us:List Value}(h:Vals xs us): ∀k:Nat,Vals (List.replicate k xs).flatten (List.replicate k us).flatten
  | 0=>.nil
  | k+1=>by
    rw[List.replicate_succ,List.replicate_succ,List.flatten_cons,List.flatten_cons]
    exact Vals.append h (Vals.rep h k)
theorem ke {α:Type}: ∀(l:List α) (i:Nat),(l.eraseIdx i).length<=l.length
  | [],_=>Nat.le_refl _
  | _::_,0=>Nat.le_succ _
  | _::r,i+1=>Nat.succ_le_succ (ke r i)
theorem foldl_rep (its:List Value): ∀(k:Nat) (acc:List Value),
    List.foldl (fun x1 x2=>x1++x2) acc.toArray (List.replicate k its.toArray)=(acc++(List.replicate k its).flatten).toArray
  | 0,acc=>by simp
  | k+1,acc=>by
    have e:acc.toArray++its.toArray=(acc++its).toArray:=by simp
    have e2:(acc++its)++(List.replicate k its).flatten=acc++(List.replicate (k+1) its).flatten:=by
      rw[List.replicate_succ,List.flatten_cons,List.append_assoc]
    rw[<-e2,<-foldl_rep its k (acc++its),<-e,List.replicate_succ,List.foldl_cons]
section
variable {X:Cx}{pins:List (Addr×Obj)}{σ:St}{H:Hp}{s:Shared}{l b:Addr}{xs ys zs:List V}
theorem Inv.sJ {its its':List Value}{n:Nat}{f:Array Value->Array Value}{t':Nat}(I:Inv X pins σ H s)(hH:H l=some (.lst xs))
    (e:s.heap.get? l=some { cls:=.type "list",data:=.seq its.toArray n }) (hf:f its.toArray=its'.toArray) (hv:Vals ys its') (hz:ys.length<=sizeLine) :
    Inv X pins σ (upd H l (.lst ys)) { s with heap:=s.heap.update l (Obj.mapSeq f),toks:=t' }:=by
  have q:=PySem.IsL.update e f
  rw[hf] at q
  refine I.write (x:=l) (e:=l) (by rw[hH];exact trivial) (.inl rfl) (fun b' u hb hu=>(Heap.get?_update_other s.heap (Obj.mapSeq f) (Ne.symm hb)).trans hu) ⟨_,q⟩ ?_
  exact⟨hz,its',_,hv,q⟩
theorem Inv.sK {its:List Value}{t':Nat}(I:Inv X pins σ H s)(hv:Vals ys its)(hz:ys.length<=sizeLine):
    Inv X pins σ (upd H s.heap.objs.size (.lst ys)) { s with heap:=s.heap.push { cls:=.type "list",data:=.seq its.toArray },toks:=t' } :=
  I.laid (fun _ _ q=>Heap.get?_push_of_some _ q) (Nat.le_refl _) ⟨hz,its,0,hv,Heap.get?_push_size _ rfl⟩
theorem Inv.fresh (I:Inv X pins σ H s): H s.heap.objs.size=none:=I.hok.fresh (Nat.le_refl _)
theorem Inv.oK (I:Inv X pins σ H s)(hH:H l=some (.lst xs)): xs.length<=sizeLine/\∃(its:List Value) (n:Nat),Vals xs its/\xs.length=its.length/\s.heap.get? l=some { cls:=.type "list",data:=.seq its.toArray n }:=by
  obtain⟨z,its,n,r,e⟩:=I.hok l _ hH
  exact⟨z,its,n,r,r.length,e⟩
theorem pW {n:Nat}(h:n<=sizeLine): Builtin.List.listTooLong n=false:=by
  unfold Builtin.List.listTooLong
  exact decide_eq_false (by omega)
end
section
variable {X:Cx}
def nM:V->List V->Hp->VK->Prop:=fun x vs H Q=>∃l xs y,x=.ref l/\vs=[y]/\H l=some (.lst xs)/\xs.length < sizeLine/\Q .non (upd H l (.lst (xs++[y])))
theorem dr:MtM X "list.append" nM:=by
  intro pins s σ H x vs v us Q I rx rv h
  obtain⟨l,xs,y,rfl,rfl,hH,hz,q⟩:=h
  cases rx
  obtain⟨u,rfl,ru⟩:=rv.one
  obtain⟨z,its,n,r,hl,e⟩:=I.oK hH
  refine call_meets F.slot_list_append ⟨_,e,rfl⟩ F.entry_list_append (F.args_list_append_2 _ _) (PySem.list_append l its.toArray n u (by rw[List.size_toArray];omega)) ⟨e,?_⟩
  refine⟨.non,_,I.sJ (its':=its++[u]) hH e (by simp) (r.append (.cons ru .nil)) ?_,rfl,q⟩
  rw[List.length_append,List.length_singleton]
  omega
def sL:V->List V->Hp->VK->Prop:=fun x vs H Q=>∃l xs,x=.ref l/\vs=[]/\H l=some (.lst xs)/\Q .non (upd H l (.lst []))
theorem pX:MtM X "list.clear" sL:=by
  intro pins s σ H x vs v us Q I rx rv h
  obtain⟨l,xs,rfl,rfl,hH,q⟩:=h
  cases rx
  have hus:=rv.zero
  subst hus
  obtain⟨z,its,n,r,hl,e⟩:=I.oK hH
  refine call_meets F.slot_list_clear ⟨_,e,rfl⟩ F.entry_list_clear (F.args_list_clear_1 _) (AutoSeq1.list_clear_list_0 l its.toArray n (by rw[List.size_toArray];omega)) ⟨e,?_⟩
  exact⟨.non,_,I.sJ (its':=[]) (ys:=[]) hH e rfl .nil (Nat.zero_le _),rfl,q⟩
def vK:R2:=fun x y H Q=>∃l b xs zs,x=.ref l/\y=.ref b/\H l=some (.lst xs)/\H b=some (.lst zs)/\xs.length+zs.length<=sizeLine/\∀p,H p=none->Q (.ref p) (upd H p (.lst (xs++zs)))
theorem sM:OpR X (binaryOp .Add) vK:=by
  intro pins s σ H x y v u Q I rx ry h
  obtain⟨l,b,xs,zs,rfl,rfl,hH,hB,hz,q⟩:=h
  cases rx
  cases ry
  obtain⟨z,its,n,r,hl,e⟩:=I.oK hH
  obtain⟨z2,its2,n2,r2,hl2,e2⟩:=I.oK hB
  refine PySem.P.add_list e e2 ?_ (by rw[List.size_toArray,List.size_toArray];omega)
  have ea:its.toArray++its2.toArray=(its++its2).toArray:=by simp
  rw[ea]
  exact⟨.ref _,_,I.sK (t':=s.toks) (r.append r2) (by rw[List.length_append];omega),rfl,q _ I.fresh⟩
def vL:R2:=fun x y H Q=>∃l k xs,x=.ref l/\y=.int k/\H l=some (.lst xs)/\-(2^63)<=k/\k < 2^63/\xs.length*k.toNat<=sizeLine ∧
  ∀p,H p=none->Q (.ref p) (upd H p (.lst (List.replicate k.toNat xs).flatten))
theorem len_rep {α:Type}(xs:List α)(k:Nat): (List.replicate k xs).flatten.length=k*xs.length:=by
  induction k with
  | zero=>simp
  | succ k ih=>rw[List.replicate_succ,List.flatten_cons,List.length_append,ih,Nat.succ_mul,Nat.add_comm]
theorem pY:OpR X (binaryOp .Mult) vL:=by
  intro pins s σ H x y v u Q I rx ry h
  obtain⟨l,k,xs,rfl,rfl,hH,h1,h2,hz,q⟩:=h
  cases rx
  obtain⟨t,rfl⟩:=ry
  obtain⟨z,its,n,r,hl,e⟩:=I.oK hH
  have hlen:its.toArray.size*k.toNat<=sizeLine:=by rw[List.size_toArray,<-hl];exact hz
  have hcap:¬its.toArray.size*k.toNat > (2^63-1) / 8:=by
    have:(sizeLine:Nat)<=(2^63-1) / 8:=by decide
    omega
  have hfit:¬(!Builtin.List.listFitsIndex k)=true:=by
    rw[fitsIndex_both h1 h2]
    exact Bool.false_ne_true
  have uw:¬Builtin.List.listTooLong (its.toArray.size*k.toNat)=true:=by
    rw[pW hlen]
    exact Bool.false_ne_true
  have hnew:List.foldl (fun x1 x2=>x1++x2) #[] (List.replicate (if its.toArray.isEmpty=true then 0 else k.toNat) its.toArray)=(List.replicate k.toNat its).flatten.toArray:=by
    have f0:∀m:Nat,List.foldl (fun x1 x2=>x1++x2) #[] (List.replicate m its.toArray)=(List.replicate m its).flatten.toArray:=fun m=>by
      have:=foldl_rep its m []
      rw[List.nil_append] at this
      exact this
    rw[f0]
    cases its with
    | nil=>simp
    | cons a r'=>rw[if_neg (by simp)]
  refine wpAny_binaryOp_repeat_ref (T := "list") (U := "int") (by decide) ⟨_,e,rfl⟩ (fun s'=>typeIs_int s' k t) noFill_list_mul F.fills_int_mul F.slot_int_rmul repeat_list F.slot_int_index.lookup
    (call_meets F.slot_int_rmul (typeIs_int s k t) F.entry_int_rmul (F.args_int_rmul_2 _ _) (int___rmul___int_list k t l its.toArray n)
      ⟨e,rfl,⟨_,e,rfl⟩,call_meets F.slot_list_mul ⟨_,e,rfl⟩ F.entry_list_mul (F.args_list_mul_2 _ _) (AutoListH.list___mul___list_int_3 l its.toArray n k t hfit hcap uw) ⟨e,?_⟩⟩)
  rw[hnew]
  exact⟨.ref _,_,I.sK (t':=s.toks) (r.rep k.toNat) (by rw[len_rep,Nat.mul_comm];exact hz),rfl,q _ I.fresh⟩
end
section
variable {prog:Program}{w:World}{A:Around}{E:Value->Shared->Prop}{s:Shared}
end
section
variable {X:Cx}
end
end L2
namespace Att
open PySem PySem.W PySem.Calls PyProof.Rows
theorem iY {P:Params}{h:Heap}: ∀(ns:List Int) (vs:List Value),WellAll P h vs (ns.map WData.int)->IntsAre vs ns:=by
  intro ns
  induction ns with
  | nil =>
    intro vs w
    rw[List.map_nil] at w
    cases w
    exact .nil
  | cons n ns ih =>
    intro vs w
    rw[List.map_cons] at w
    cases w with
    | cons a b =>
      cases a
      exact .cons _ _ (ih _ b)
theorem oM {l:OpenLaw}{n:Nat}(hn:l.most=some n){P:Params}{h:Heap}{args:List WData}{vals:List Value}
    (hpre:l.row.toRowW.claim.pre args=true) (hwl:WellAll P h vals args) :
    ∃a vs ns,vals=[Value.ref a]/\args=[WData.list (ns.map WData.int)]/\h.get? a=some { cls:=.type "list",data:=.seq vs.toArray }/\IntsAre vs ns/\ns.length<=n:=by
  have hsh:WShape.hasAll [] args [.list .int]=true:=(pre_splitW hpre).1
  have hc:l.pre.holds [] { args:=args }=true:=(pre_splitW hpre).2
  obtain⟨d,r,rfl,h1,h2⟩:=hasAllW_cons hsh
  obtain rfl:=hasAllW_nil h2
  obtain⟨xs,rfl,h3⟩:=hasW_list h1
  obtain⟨ns,rfl⟩:=items_int h3
  have hlen:ns.length<=n:=by
    unfold OpenLaw.pre at hc
    have h4:(WTm.not (.lt (.lit (.int (n:Int))) (.len (.arg 0)))).holds [] { args:=[.list (ns.map .int)] }=true:=by
      have h4:=(holds_andW hc).1
      rw[hn] at h4
      exact h4
    have h5:=condW_of h4 (w_not (w_lt w_lit (w_len_list (w_arg rfl))))
    rw[List.length_map] at h5
    refine Nat.le_of_not_lt fun q=>?_
    have q':(n:Int) < ((ns.length:Nat):Int):=by omega
    first
      | (rw[decide_eq_true q'] at h5;exact absurd h5 (by decide))
      | (simp at h5;omega)
  cases hwl with
  | cons w1 w2 =>
    cases w2
    cases w1 with
    | list ho hall=>exact⟨_,_,ns,rfl,rfl,ho,iY ns _ hall,hlen⟩
theorem oN (l:OpenLaw)(args:List WData): l.row.toRowW.claim.post args (.bool true) args=true :=
  postW_of (r:=l.row.toRowW) (X:=(true==true))
    (show WShape.has [] (.bool true) .bool=true by first | rfl | decide | simp[WShape.has,WShape.arms,WShape.armsAll])
    (show (WTm.eq .res (.lit (.bool true))).value [] { args:=args,res:=some (.bool true),after:=args }=some (.bool (true==true)) from w_eq_bool (w_res rfl) w_lit) rfl
theorem lQ {l:OpenLaw}{n:Nat}{q:Program}{loose:List Str}{XP:(Str->Option Value)->Heap->Prop}{YP:World->Heap->Prop}{d:DefRec}
    (hn:l.most=some n) (hdf:d.params.defaults=[])
    (call:∀(w:World) (s₀ s₁:Shared) (mg mb:Str->Option Value) (fa:Addr) (o:Obj) (pm cd doc:Value) (a:Addr) (vs:List Value) (ns:List Int),
      Ground q loose [] XP w s₀ mg mb s₁.heap->YP w s₁.heap ->
      s₁.heap.get? fa=some o->o.data=.func (docDef d.name d.params d.body d.scope pm cd doc)->s₁.heap.CodeRec cd d.name->mg d.name=some (.ref fa) ->
      s₁.heap.get? a=some { cls:=.type "list",data:=.seq vs.toArray }->IntsAre vs ns->ns.length<=n->s₁.gens=#[] ->
      codeAny (model l.prog w) callerA (.call (.ref fa) ⟨[.ref a],[]⟩) (fun r s'=>r=.ok (.ret (.bool true))/\OldK s₁.heap s'.heap/\s'.os=s₁.os/\AllBare s'.gens) s₁) :
    WalkO q loose XP YP l.row.toRowW d [] (fun f vs=>PySem.call f vs):=by
  intro w s₀ s₁ mg mb G Y fa o pm cd doc dV kV ho hd hcd hD hmg hg args vals as hpre hlay hrd hwl hlo
  obtain rfl:dV=.none:=Dflts.none hD hdf
  obtain rfl:kV=.none:=Dflts.noKw hD
  obtain⟨a,vs,ns,rfl,rfl,hobj,hints,hlen⟩:=oM hn hpre hwl
  refine enter_call (codeAny_mono (call w s₀ s₁ mg mb fa o pm cd doc a vs ns G Y ho (fd_plain hd) hcd hmg hobj hints hlen hg) fun r s' hq=>?_)
  obtain⟨rfl,h2,h3,h4⟩:=hq
  exact⟨.inl ⟨.bool true,.bool true,[],rfl,fun _=>rfl,.bool true,oN l _,fun _=>⟨List.Pairwise.nil,fun _ hm=>(nomatch hm)⟩⟩,h2,h3,h4⟩
section
variable {prog:Program}{w:World}{A:Around}{E:Value->Shared->Prop}{s:Shared}{K:Frag}
end
end Att
namespace L2
open PySem PySem.Spec PyProof.Rows
theorem kf:∀{vs:List Value} {ns:List Int},IntsAre vs ns->Vals (ns.map V.int) vs
  | _,_,.nil=>.nil
  | _,_,.cons n t h=>.cons ⟨t,rfl⟩ (kf h)
def Only (H:Hp): Prop:=∀b,H b=none\/∃o xs,H b=some (.frz o (.lst xs))
theorem pZ {P:Program}{w:World}{K:PySem.W.Frag}{mg mb:Str->Option Value}{CX:CXT}{k:Nat}{fa a:Addr}{fd:FuncData}{x:Str}{sp:Sp}{s₁:Shared}{vs:List Value}{ns:List Int}
    (KX:K.In s₁.heap) (hns:s₁.heap.Ns mainGlobals mg) (hb:s₁.heap.Ns builtinsNs mb) (hbb:∀x:Str,x ≠ "__name__" -> mb x=bootBuiltins x) (hlim:s₁.heap.NoLimit) (hg:s₁.gens=#[])
    (ha:s₁.heap.get? a=some { cls:=.type "list",data:=.seq vs.toArray }) (hi:IntsAre vs ns) (hl:ns.length<=sizeLine) (hr:bS k callerA)
    (F:∀base:Heap,K.In base->base.Ns mainGlobals mg->gw P w K mg base CX k fa fd [x] sp) (hbind:∀(s:Shared) (u:Value),BindsTo s fd ⟨[u],[]⟩ [(x,u)])
    (hsp:∀H:Hp,Only H->SqL K H a (ns.map V.int)->sp [.ref a] H (fun v _=>v=.bl true) fun _ _ _=>False)
    (hCX:∀H e s',CX [] H s₁ (fun _ _ _=>False) e s'->False) :
    codeAny (model P w) callerA (.call (.ref fa) ⟨[.ref a],[]⟩) (fun r s'=>r=.ok (.ret (.bool true))/\OldK s₁.heap s'.heap/\s'.os=s₁.os/\AllBare s'.gens) s₁:=by
  have rv:=kf hi
  have lenV:=hi.length
  have core:∀H:Hp,Only H->SqL K H a (ns.map V.int)->HOk P w H s₁.heap->(∀b,H b≠none->b=a)->(H a≠none->K.lookup a=none) ->
      codeAny (model P w) callerA (.call (.ref fa) ⟨[.ref a],[]⟩) (fun r s'=>r=.ok (.ret (.bool true))/\OldK s₁.heap s'.heap/\s'.os=s₁.os/\AllBare s'.gens) s₁:=by
    intro H hO hS hok hA hK
    have nN:∀{b:Addr} {o:Obj},s₁.heap.get? b=some o->H b=none->(kI s₁.heap H).get? b=some o:=fun e n=>pE e n
    have noA:∀{b:Addr} {o:Obj} {es:Array DictEntry} {ep:Nat},s₁.heap.get? b=some o->o.data=.dict es ep->H b=none:=fun {b o es ep} e d=>by
      cases q:H b with
      | none=>rfl
      | some u =>
        have e':b=a:=hA b (by rw[q];simp)
        subst e'
        rw[ha] at e;cases e
        have d':Data.seq vs.toArray _=Data.dict es ep:=d
        cases d'
    have nsK:∀{b:Addr} {m:Str->Option Value},s₁.heap.Ns b m->(kI s₁.heap H).Ns b m:=fun {b m} ⟨o,es,ep,e,d,r⟩=>⟨o,es,ep,nN e (noA e d),d,r⟩
    have hKb:K.In (kI s₁.heap H):=fun b o e=>nN (KX b o e) (by
      cases q:H b with
      | none=>rfl
      | some u =>
        have e':b=a:=hA b (by rw[q];simp)
        subst e'
        rw[hK (by rw[q];simp)] at e;cases e)
    have hM:Mod K mg (kI s₁.heap H):=⟨hKb,nsK hns,⟨mb,nsK hb,hbb⟩,let ⟨mc,h1,h2⟩:=hlim;⟨mc,nsK h1,h2⟩⟩
    have e0:mI P w K mg (kI s₁.heap H) callerA [] s₁ H:=⟨rfl,hM,fun b o e=>qI e,Nat.le_of_eq (ow _ _),trivial,fun b hb=>absurd (show b∈([]:List Addr) from hb) (by simp),hok,.of_eq hg⟩
    refine codeAny_mono ((F _ hKb (nsK hns)).run callerA [] s₁ H ⟨[.ref a],[]⟩ [.ref a] [.ref a] _ _ hr e0 (hbind s₁ (.ref a)) (.cons rfl .nil) (hsp H hO hS)) fun r s' h=>?_
    cases r with
    | error e=>exact(hCX H e s' h).elim
    | ok fl =>
      cases fl with
      | next=>exact False.elim h
      | brk=>exact False.elim h
      | cont=>exact False.elim h
      | ret u =>
        obtain⟨v,H',os,bare,un,hok',r',q⟩:=h
        have q':v=.bl true:=q
        subst q'
        obtain rfl:u=Value.bool true:=r'
        refine⟨rfl,OldK.of_keep fun b o e=>?_,os,bare⟩
        cases q:H b with
        | none=>exact un.keep b o e q (by intro z;exact absurd (show b∈([]:List Addr) from z) (by simp)) (by simp)
        | some u =>
          rcases hO b with z | ⟨ob,xs,z⟩
          · rw[q] at z;cases z
          · have z2:=un.h_ b ob _ z
            obtain⟨e1,_⟩:=hok b _ z
            obtain⟨e2,_⟩:=hok' b _ z2
            rw[e] at e1;cases e1
            exact e2
  cases hk:K.lookup a with
  | some o =>
    have e:=KX a o hk
    rw[ha] at e
    cases e
    refine core (fun _=>none) (fun _=>.inl rfl) (.inr ⟨_,vs.toArray,_,hk,rfl,rfl,rfl,by rw[List.size_toArray,lenV];exact hl,by simpa using rv⟩) (fun b u z=>by have z':(none:Option HO)=some u:=z;cases z') (fun b z=>absurd rfl z) fun z=>absurd rfl z
  | none =>
    refine core (fun b=>if b=a then some (.frz { cls:=.type "list",data:=.seq vs.toArray } (.lst (ns.map V.int))) else none) (fun b=>?_) (.inl (.inr ⟨{ cls:=.type "list",data:=.seq vs.toArray },if_pos rfl⟩)) (fun b u z=>?_) (fun b z=>?_) fun _=>hk
    · by_cases hb:b=a
      · exact .inr ⟨_,_,if_pos hb⟩
      · exact .inl (if_neg hb)
    · by_cases hb:b=a
      · have z':=(if_pos hb).symm.trans z
        cases z'
        subst hb
        exact⟨ha,by rw[List.length_map];exact hl,vs,_,rv,ha⟩
      · have z':=(if_neg hb).symm.trans z
        cases z'
    · by_cases hb:b=a
      · exact hb
      · exact absurd (if_neg hb) z
end L2
namespace L2
open PySem PySem.Spec PyProof.Rows
theorem qY {l:PySem.W.OpenLaw}{n k:Nat}{q:Program}{loose:List Str}{XP:(Str->Option Value)->Heap->Prop}{YP:World->Heap->Prop}{d:DefRec}{K:Params->PySem.W.Frag}{CX:World->CXT}{sp:World->Sp}{x:Str}
    (hn:l.most=some n) (hn2:n<=sizeLine) (hdf:d.params.defaults=[]) (hr:bS k callerA)
    (hY:∀(w:World) (h:Heap),YP w h->(K w.params).In h)
    (F:∀(w:World) (mg:Str->Option Value) (fa:Addr) (h:Heap),(K w.params).In h->h.Ns mainGlobals mg->mg d.name=some (.ref fa) ->
      ∃fd:FuncData,(∀(s:Shared) (u:Value),BindsTo s fd ⟨[u],[]⟩ [(x,u)]) ∧
        ∀base:Heap,(K w.params).In base->base.Ns mainGlobals mg->gw l.prog w (K w.params) mg base (CX w) k fa fd [x] (sp w))
    (hsp:∀(w:World) (H:Hp) (a:Addr) (ns:List Int),ns.length<=n->Only H->SqL (K w.params) H a (ns.map V.int)->sp w [.ref a] H (fun v _=>v=.bl true) fun _ _ _=>False)
    (hCX:∀(w:World) (H:Hp) (s:Shared) (e:Value) (s':Shared),CX w [] H s (fun _ _ _=>False) e s'->False) :
    PySem.W.WalkO q loose XP YP l.row.toRowW d [] (fun f vs=>PySem.call f vs):=by
  refine Att.lQ hn hdf fun w s₀ s₁ mg mb fa o pm cd doc a vs ns G Y ho hd hcd hmg hobj hints hlen hg=>?_
  have KX:=hY w _ Y
  obtain⟨fd,hb,hF⟩:=F w mg fa _ KX G.T.g hmg
  exact pZ KX G.T.g G.T.b G.T.builtins G.T.nolimit hg hobj hints (Nat.le_trans hlen hn2) hr hF hb (fun H hO hS=>hsp w H a ns hlen hO hS) fun H e s'=>hCX w H s₁ e s'
end L2
namespace L2
open PySem PySem.Spec PyProof.Rows
def inClass (s:Stmt)(j:Nat): Stmt:=match s with
  | .ClassDef _ _ _ body _ _ _ _ _ _ _=>body.getD j (.Pass ⟨0,0,0,0⟩)
  | _=>.Pass ⟨0,0,0,0⟩
def bt (s:Stmt): Arguments:=match s with
  | .FunctionDef _ a _ _ _ _ _ _ _ _=>a
  | _=>{ posonlyargs:=[],args:=[],vararg:=none,kwonlyargs:=[],kw_defaults:=[],kwarg:=none,defaults:=[] }
def aP (s:Stmt): List Stmt:=match s with
  | .FunctionDef _ _ b _ _ _ _ _ _ _=>b
  | _=>[]
def ak (s:Stmt): Scope:=match s with
  | .FunctionDef _ _ _ _ _ _ sc _ _ _=>sc
  | _=>{ kind:=.function,names:=[],isGenerator:=false,isCoroutine:=false }
abbrev E0:XK:=fun _ _ _=>False
section
variable {P:Program}{w:World}{K:PySem.W.Frag}{mg:Str->Option Value}{base:Heap}
end
section
variable {X:Cx}
theorem pv (i:Nat) {x:Str} {pos:Pos} (hN:X.N[i]?=some x:=by rfl) (hv:Vis X.env.scope x:=by first | exact Or.inl rfl | exact Or.inr (Or.inl rfl) | exact Or.inr (Or.inr rfl)) (hd:(x==("__debug__" : Str))=false:=by decide)
    (hcd:(x==("__classdict__" : Str))=false:=by decide):PE X (.Name x pos) (tZ i):=se hN hv hd hcd
end
theorem sN {A B:Prop}(h:B): if false=true then A else B:=by
  rw[if_neg Bool.false_ne_true]
  exact h
theorem lR {A B:Prop}(h:A): if true=true then A else B:=by
  rw[if_pos rfl]
  exact h
def Same (H H':Hp): Prop:=∀b o,H b=some o->H' b=some o
theorem Same.refl (H:Hp): Same H H:=fun _ _ h=>h
theorem Same.trans {H H1 H2:Hp}(a:Same H H1)(b:Same H1 H2): Same H H2:=fun c o h=>b c o (a c o h)
theorem Same.seq {K:PySem.W.Frag}{H H':Hp}{a:Addr}{xs:List V}(e:Same H H')(h:SqL K H a xs): SqL K H' a xs:=by
  rcases h with (h | ⟨o,h⟩) | h
  · exact .inl (.inl (e _ _ h))
  · exact .inl (.inr ⟨o,e _ _ h⟩)
  · exact .inr h
end L2

namespace L2
open PySem PySem.Spec PyProof.Rows
section
variable {κ:Type}[DecidableEq κ]
def a4 (kvs:List (κ×V))(k:κ): Option V:=(kvs.find? fun kv=>decide (kv.1=k)).map (·.2)
def putK (kvs:List (κ×V))(k:κ)(v:V): List (κ×V) :=
  if (kvs.any fun kv=>decide (kv.1=k))=true then kvs.map (fun kv=>if kv.1=k then (kv.1,v) else kv) else kvs++[(k,v)]
def cD (kvs:List (κ×V))(k:κ): List (κ×V):=kvs.filter fun kv=>decide (kv.1≠k)
theorem bK {p:κ×V}{r:List (κ×V)}{k:κ}(e:p.1=k): a4 (p::r) k=some p.2:=by simp[a4,List.find?_cons,e]
theorem bL {p:κ×V}{r:List (κ×V)}{k:κ}(e:¬p.1=k): a4 (p::r) k=a4 r k:=by simp[a4,List.find?_cons,e]
theorem fe (k:κ): ∀kvs:List (κ×V),(kvs.any fun kv=>decide (kv.1=k))=(a4 kvs k).isSome
  | []=>rfl
  | p::r=>by
    rw[List.any_cons]
    by_cases e:p.1=k
    · simp only [bK e,decide_eq_true e,Bool.true_or,Option.isSome_some]
    · rw[bL e,decide_eq_false e,Bool.false_or];exact fe k r
theorem lS (k j:κ)(y:V): ∀kvs:List (κ×V),a4 (kvs.map fun kv=>if kv.1=k then (kv.1,y) else kv) j=(a4 kvs j).map fun x=>if j=k then y else x
  | []=>rfl
  | p::r=>by
    have ih:=lS k j y r
    rw[List.map_cons]
    by_cases h:p.1=k
    · rw[if_pos h]
      by_cases e:p.1=j
      · rw[bK (p:=(p.1,y)) e,bK e,Option.map_some,if_pos (e.symm.trans h)]
      · rw[bL (p:=(p.1,y)) e,bL e,ih]
    · rw[if_neg h]
      by_cases e:p.1=j
      · rw[bK (p:=p) e,bK e,Option.map_some,if_neg (fun z=>h (e.trans z))]
      · rw[bL (p:=p) e,bL e,ih]
theorem kg (k j:κ)(y:V): ∀kvs:List (κ×V),a4 kvs k=none->a4 (kvs++[(k,y)]) j=if j=k then some y else a4 kvs j
  | [],_=>by
    by_cases e:k=j
    · rw[if_pos e.symm];exact bK (p:=(k,y)) e
    · rw[if_neg (fun z=>e z.symm)];exact bL (p:=(k,y)) e
  | p::r,hn=>by
    rw[List.cons_append]
    have hk:¬p.1=k:=fun z=>by rw[bK z] at hn;cases hn
    rw[bL hk] at hn
    have ih:=kg k j y r hn
    by_cases e:p.1=j
    · rw[bK e,bK e,if_neg (fun z=>hk (e.trans z))]
    · rw[bL e,bL e,ih]
theorem p0 (kvs:List (κ×V))(k j:κ)(y:V): a4 (putK kvs k y) j=if j=k then some y else a4 kvs j:=by
  unfold putK
  by_cases a:(kvs.any fun kv=>decide (kv.1=k))=true
  · rw[if_pos a,lS]
    rw[fe] at a
    by_cases e:j=k
    · obtain⟨x,hx⟩:=Option.isSome_iff_exists.mp a
      rw[if_pos e,e,hx,Option.map_some,if_pos rfl]
    · rw[if_neg e]
      cases a4 kvs j with
      | none=>rfl
      | some x=>rw[Option.map_some,if_neg e]
  · rw[if_neg a]
    refine kg k j y kvs ?_
    rw[fe] at a
    cases q:a4 kvs k with
    | none=>rfl
    | some x=>rw[q] at a;exact(a rfl).elim
theorem iU (kvs:List (κ×V))(k:κ)(v:V): (putK kvs k v).length<=kvs.length+1:=by
  unfold putK
  split
  · rw[List.length_map];omega
  · rw[List.length_append,List.length_cons,List.length_nil];omega
theorem p3 {kvs:List (κ×V)}{k:κ}(v:V)(h:a4 kvs k=none): putK kvs k v=kvs++[(k,v)]:=by
  unfold putK
  rw[fe,h]
  exact if_neg (by decide)
theorem eX.d_ {o:Option V}{u:Option Value}(r:eX o u): o.isSome=u.isSome:=by
  cases o with
  | none=>cases u with
    | none=>rfl
    | some _=>exact(show False from r).elim
  | some _=>cases u with
    | none=>exact(show False from r).elim
    | some _=>rfl
theorem KV.val {kvs:List (κ×V)}{vs:List (κ×Value)}(r:KV kvs vs)(k:κ): eX (a4 kvs k) (valueAt vs k):=by
  unfold KV at r
  induction r with
  | nil=>exact True.intro
  | @cons p q ps qs h t ih =>
    obtain⟨h1,h2⟩:=h
    by_cases e:p.1=k
    · have e':q.1=k:=h1.symm.trans e
      have b:valueAt (q::qs) k=some q.2:=by simp[valueAt,List.find?_cons,e']
      rw[bK e,b];exact h2
    · have e':¬q.1=k:=fun z=>e (h1.trans z)
      have b:valueAt (q::qs) k=valueAt qs k:=by simp[valueAt,List.find?_cons,e']
      rw[bL e,b];exact ih
theorem KV.any {kvs:List (κ×V)}{vs:List (κ×Value)}(r:KV kvs vs)(k:κ): (kvs.any fun kv=>decide (kv.1=k))=vs.any fun kv=>decide (kv.1=k):=by
  unfold KV at r
  induction r with
  | nil=>rfl
  | cons h t ih=>rw[List.any_cons,List.any_cons,ih,h.1]
theorem KV.repl {kvs:List (κ×V)}{vs:List (κ×Value)}(r:KV kvs vs)(k:κ){y:V}{u:Value}(ry:RelV y u):
    KV (kvs.map fun kv=>if kv.1=k then (kv.1,y) else kv) (vs.map fun kv=>if kv.1=k then (kv.1,u) else kv):=by
  unfold KV at r ⊢
  induction r with
  | nil=>exact .nil
  | @cons p q ps qs h t ih =>
    rw[List.map_cons,List.map_cons]
    refine .cons ?_ ih
    obtain⟨h1,h2⟩:=h
    by_cases e:p.1=k
    · rw[if_pos e,if_pos (h1.symm.trans e)];exact⟨h1,ry⟩
    · rw[if_neg e,if_neg (fun z=>e (h1.trans z))];exact⟨h1,h2⟩
theorem KV.put {kvs:List (κ×V)}{vs:List (κ×Value)}(r:KV kvs vs)(k:κ){y:V}{u:Value}(ry:RelV y u): KV (putK kvs k y) (stored vs k u):=by
  unfold putK stored
  rw[r.any k]
  by_cases e:(vs.any fun kv=>decide (kv.1=k))=true
  · rw[if_pos e,if_pos e];exact r.repl k ry
  · rw[if_neg e,if_neg e];exact Paired.snoc r ⟨rfl,ry⟩
theorem KV.drop {kvs:List (κ×V)}{vs:List (κ×Value)}(r:KV kvs vs)(k:κ): KV (cD kvs k) (without vs k):=by
  unfold KV at r ⊢
  unfold cD without
  induction r with
  | nil=>exact .nil
  | @cons p q ps qs h t ih =>
    obtain⟨h1,h2⟩:=h
    rw[List.filter_cons,List.filter_cons]
    by_cases e:p.1=k
    · have a:¬decide (p.1≠k)=true:=by simp[e]
      have b:¬decide (q.1≠k)=true:=by simp[h1.symm.trans e]
      rw[if_neg a,if_neg b];exact ih
    · have e':¬q.1=k:=fun z=>e (h1.trans z)
      have a:decide (p.1≠k)=true:=by simp[e]
      have b:decide (q.1≠k)=true:=by simp[e']
      rw[if_pos a,if_pos b];exact .cons ⟨h1,h2⟩ ih
theorem KV.length {kvs:List (κ×V)}{vs:List (κ×Value)}(r:KV kvs vs): kvs.length=vs.length:=Paired.length r
theorem p4 (kvs:List (κ×V))(k:κ): (cD kvs k).length<=kvs.length:=List.length_filter_le _ _
end
theorem kh {P:Program}{w:World}{k:Key}{u:Value}(r:RelV (kV k) u): (bq P w).is k u=true:=by
  cases k with
  | inl i=>obtain⟨t,e⟩:=(show ∃t,u=Value.int i t from r);subst e;exact lL P w i t
  | inr x=>obtain⟨t,e⟩:=(show ∃t,u=Value.str x t from r);subst e;exact lM P w x t
theorem kj {P:Program}{w:World}: ∀{ks:List Key} {us:List Value},Vals (ks.map kV) us->ItemsAre (bq P w) ks us
  | [],_,r=>by rw[List.map_nil] at r;cases r;exact .nil
  | k::ks,_,r=>by
    rw[List.map_cons] at r
    cases r with
    | cons h t=>exact .cons (kh h) (kj t)
abbrev KT (H:Hp): List (List Key×V)->List (List Key×Addr×Value)->Prop:=Paired fun p q=>p.1=q.1/\H q.2.1=some (.tup (p.1.map kV))/\RelV p.2 q.2.2
theorem KT.val {H:Hp}{kvs:List (List Key×V)}{xs:List (List Key×Addr×Value)}(r:KT H kvs xs)(k:List Key): eX (a4 kvs k) ((atKey xs k).map (·.2)):=by
  induction r with
  | nil=>exact True.intro
  | @cons p q ps qs h t ih =>
    obtain⟨h1,_,h2⟩:=h
    by_cases e:p.1=k
    · have e':q.1=k:=h1.symm.trans e
      have b:atKey (q::qs) k=some q.2:=by simp[atKey,List.find?_cons,e']
      rw[bK e,b];exact h2
    · have e':¬q.1=k:=fun z=>e (h1.trans z)
      have b:atKey (q::qs) k=atKey qs k:=by simp[atKey,List.find?_cons,e']
      rw[bL e,b];exact ih
theorem KT.repl {H:Hp}{kvs:List (List Key×V)}{xs:List (List Key×Addr×Value)}(r:KT H kvs xs)(k:List Key){y:V}{u:Value}(ry:RelV y u):
    KT H (kvs.map fun kv=>if kv.1=k then (kv.1,y) else kv) (xs.map (putAt k u)):=by
  induction r with
  | nil=>exact .nil
  | @cons p q ps qs h t ih =>
    rw[List.map_cons,List.map_cons]
    refine .cons ?_ ih
    obtain⟨h1,h2,h3⟩:=h
    unfold putAt
    by_cases e:p.1=k
    · rw[if_pos e,if_pos (h1.symm.trans e)];exact⟨h1,h2,ry⟩
    · rw[if_neg e,if_neg (fun z=>e (h1.trans z))];exact⟨h1,h2,h3⟩
theorem KT.put {H:Hp}{kvs:List (List Key×V)}{xs:List (List Key×Addr×Value)}(r:KT H kvs xs)(k:List Key){b:Addr}{y:V}{u:Value}(hb:H b=some (.tup (k.map kV)))(ry:RelV y u):
    KT H (putK kvs k y) (storedH xs k b u):=by
  have e:(kvs.any fun kv=>decide (kv.1=k))=(atKey xs k).isSome:=by
    rw[fe,(r.val k).d_,Option.isSome_map]
  unfold putK storedH
  rw[e]
  by_cases q:(atKey xs k).isSome=true
  · rw[if_pos q,if_pos q];exact r.repl k ry
  · rw[if_neg q,if_neg q];exact Paired.snoc r ⟨rfl,hb,ry⟩
theorem KT.keeps {H H':Hp}{kvs:List (List Key×V)}{xs:List (List Key×Addr×Value)}(r:KT H kvs xs)(ht:∀b ys,H b=some (.tup ys)->H' b=some (.tup ys)): KT H' kvs xs :=
  Paired.sd r fun _ _ z=>⟨z.1,ht _ _ z.2.1,z.2.2⟩
section
variable {P:Program}{w:World}{H:Hp}{h:Heap}{a:Addr}
theorem rM {u:HO}(ok:HOk P w H h)(e:Rd H a u): aV P w H h a u:=e.ok ok
theorem km {kvs:List (Key×V)}(ok:HOk P w H h)(e:Rd H a (.dK kvs)): kvs.length<=sizeLine/\(a==sysModules)=false/\∃vs,KV kvs vs/\h.DictOf (bq P w) a vs :=
  show aV P w H h a (.dK kvs) from rM ok e
theorem nO {kvs:List (Key×V)}(ok:HOk P w H h)(e:H a=some (.dK kvs)): kvs.length<=sizeLine/\(a==sysModules)=false/\∃vs,KV kvs vs/\h.DictOf (bq P w) a vs:=km ok (.inl e)
theorem jk {ks:List Key}(ok:HOk P w H h)(e:H a=some (.tup (ks.map kV))): (tupleKind (bq P w)).is h ks a:=by
  obtain⟨_,its,r,o,h1,h2,n,h3⟩:=(show aV P w H h a (.tup (ks.map kV)) from ok a _ e)
  exact⟨o,its.toArray,n,h1,h2,h3,by simpa using kj r⟩
theorem kn {kvs:List (List Key×V)}(ok:HOk P w H h)(e:Rd H a (.dT kvs)): kvs.length<=sizeLine/\(a==sysModules)=false ∧
    ∃xs,KT H kvs xs/\h.DictOfH (tupleKind (bq P w)) a xs:=by
  obtain⟨z,y,xs,r,o,es,ep,h1,h2,h3,h4,h5⟩:=(show aV P w H h a (.dT kvs) from rM ok e)
  refine⟨z,y,xs,r,o,es,ep,h1,h2,h3,h4,fun x hx=>?_,h5⟩
  have all:∀{l:List (List Key×V)} {m:List (List Key×Addr×Value)},KT H l m->∀x∈m,(tupleKind (bq P w)).is h x.1 x.2.1:=by
    intro l m q
    induction q with
    | nil=>intro x hx;exact nomatch hx
    | @cons p q ps qs hq t ih =>
      intro x hx
      rcases List.mem_cons.mp hx with e | hx
      · subst e
        exact jk ok (by rw[<-hq.1];exact hq.2.1)
      · exact ih x hx
  exact all r x hx
theorem ux {kvs:List (List Key×V)}(ok:HOk P w H h)(e:H a=some (.dT kvs)): kvs.length<=sizeLine/\(a==sysModules)=false ∧
    ∃xs,KT H kvs xs/\h.DictOfH (tupleKind (bq P w)) a xs:=kn ok (.inl e)
end
def jl (H:Hp)(a:Addr)(y:V)(r:Option V): Prop :=
  (∃kvs k,Rd H a (.dK kvs)/\y=kV k/\r=a4 kvs k)\/∃kvs k b,Rd H a (.dT kvs)/\y=.ref b/\H b=some (.tup (k.map kV))/\r=a4 kvs k
def oO (H:Hp)(a:Addr)(y v:V)(H':Hp): Prop :=
  (∃kvs k,H a=some (.dK kvs)/\y=kV k/\kvs.length < sizeLine/\H'=upd H a (.dK (putK kvs k v))) ∨
  ∃kvs k b,H a=some (.dT kvs)/\y=.ref b/\H b=some (.tup (k.map kV))/\kvs.length < sizeLine/\H'=upd H a (.dT (putK kvs k v))
theorem jl.k {H:Hp}{a:Addr}{kvs:List (Key×V)}{k:Key}(e:H a=some (.dK kvs)): jl H a (kV k) (a4 kvs k):=.inl ⟨kvs,k,.inl e,rfl,rfl⟩
theorem oO.k {H:Hp}{a:Addr}{kvs:List (Key×V)}{k:Key}{v:V}(e:H a=some (.dK kvs))(hl:kvs.length < sizeLine): oO H a (kV k) v (upd H a (.dK (putK kvs k v))):=.inl ⟨kvs,k,e,rfl,hl,rfl⟩
section
variable {X:Cx}{pins:List (Addr×Obj)}{σ:St}{H:Hp}{s:Shared}{a:Addr}{y v:V}{u r:Value}{o:Option V}{A:Around}{E:Value->Shared->Prop}
theorem Inv.big (I:Inv X pins σ H s): sysModules < s.heap.objs.size:=by
  have h:mainGlobals < s.heap.objs.size:=(I.mod.glob.keeps I.bk).lt
  exact Nat.lt_trans (by decide) h
theorem oP {Q:Value->Shared->Prop}(hu:A.units+1 < cLine)(I:Inv X pins σ H s)(g:jl H a y (some v))(ry:RelV y u)(h:∀w' s',Inv X pins σ H s'->RelV v w'->Q w' s'):
    wpAny (model X.prog X.w) A (getItem (.ref a) u) Q E s:=by
  rcases g with ⟨kvs,k,e,ey,l⟩ | ⟨kvs,k,b,e,ey,eb,l⟩
  · subst ey
    obtain⟨z,hd,vs,rel,dd⟩:=km I.hok e
    obtain⟨w',hw,rw'⟩:=eX.some_of (v:=v) (o:=valueAt vs k) (by rw[l];exact rel.val k)
    exact wpAny_getItem_of (kh ry) dd.mapOf hw (h w' _ (I.tok _) rw')
  · subst ey
    cases (show u=Value.ref b from ry)
    obtain⟨z,hd,xs,rel,dd⟩:=kn I.hok e
    obtain⟨w',hw,rw'⟩:=eX.some_of (v:=v) (o:=(atKey xs k).map (·.2)) (by rw[l];exact rel.val k)
    obtain⟨p,hp,hp2⟩:=Option.map_eq_some_iff.mp hw
    refine wpAny_getItem_heap (tupleKind_room_in1 hu) (jk I.hok eb) dd hp ?_
    rw[hp2]
    exact h w' _ (I.tok _) rw'
theorem vM {Q:Value->Shared->Prop}(hu:A.units+1 < cLine)(I:Inv X pins σ H s)(g:jl H a y o)(ry:RelV y u)(h:∀s',Inv X pins σ H s'->Q (.bool o.isSome) s'):
    wpAny (model X.prog X.w) A (compareOp .In u (.ref a)) Q E s:=by
  rcases g with ⟨kvs,k,e,ey,l⟩ | ⟨kvs,k,b,e,ey,eb,l⟩
  · subst ey
    obtain⟨z,hd,vs,rel,dd⟩:=km I.hok e
    refine wpAny_in_of (kh ry) hd dd.mapOf ?_
    rw[<-(rel.val k).d_,<-l]
    exact h _ (I.tok _)
  · subst ey
    cases (show u=Value.ref b from ry)
    obtain⟨z,hd,xs,rel,dd⟩:=kn I.hok e
    refine wpAny_in_heap (tupleKind_room_in1 hu) (jk I.hok eb) hd dd ?_
    have q:=(rel.val k).d_
    rw[Option.isSome_map] at q
    rw[<-q,<-l]
    exact h _ (I.tok _)
theorem qZ {Q:Value->Shared->Prop}(hu:A.units+1 < cLine)(I:Inv X pins σ H s)(g:jl H a y o)(ry:RelV y u)(h:∀s',Inv X pins σ H s'->Q (.bool (!o.isSome)) s'):
    wpAny (model X.prog X.w) A (compareOp .NotIn u (.ref a)) Q E s:=by
  rcases g with ⟨kvs,k,e,ey,l⟩ | ⟨kvs,k,b,e,ey,eb,l⟩
  · subst ey
    obtain⟨z,hd,vs,rel,dd⟩:=km I.hok e
    refine wpAny_notIn_of (kh ry) hd dd.mapOf ?_
    rw[<-(rel.val k).d_,<-l]
    exact h _ (I.tok _)
  · subst ey
    cases (show u=Value.ref b from ry)
    obtain⟨z,hd,xs,rel,dd⟩:=kn I.hok e
    refine wpAny_notIn_heap (tupleKind_room_in1 hu) (jk I.hok eb) hd dd ?_
    have q:=(rel.val k).d_
    rw[Option.isSome_map] at q
    rw[<-q,<-l]
    exact h _ (I.tok _)
theorem kP {h':Heap}{t':Nat}{ob:HO}(I:Inv X pins σ H s)(mu:Mut (H a))(hs:Heap.SameBut a s.heap h')(he:∃q,h'.get? a=some q)(new:aV X.prog X.w (upd H a ob) h' a ob):
    Inv X pins σ (upd H a ob) { s with heap:=h',toks:=t' } :=
  I.write (x:=a) (e:=a) mu (.inl rfl) (fun b q hb z=>(hs.2 b hb).trans z) he new
theorem p5 {P:Program}{w:World}{H':Hp}{h':Heap}{kvs:List (Key×V)}{vs:List (Key×Value)}(z:kvs.length<=sizeLine)(hd:(a==sysModules)=false)(rel:KV kvs vs)(dd:h'.DictOf (bq P w) a vs):
    aV P w H' h' a (.dK kvs):=⟨z,hd,vs,rel,dd⟩
theorem oQ {H':Hp}{Q:Unit->Shared->Prop}(hu:A.units+1 < cLine)(I:Inv X pins σ H s)(g:oO H a y v H')(ry:RelV y u)(rv:RelV v r)(h:∀s',Inv X pins σ H' s'->Q () s'):
    wpAny (model X.prog X.w) A (setItem (.ref a) u r) Q E s:=by
  rcases g with ⟨kvs,k,e,ey,l,eH⟩ | ⟨kvs,k,b,e,ey,eb,l,eH⟩
  · subst ey eH
    obtain⟨z,hd,vs,rel,dd⟩:=nO I.hok e
    have hz:vs.length<=sizeLine:=by rw[<-rel.length];exact z
    have hl:(putK kvs k v).length<=sizeLine:=by have:=iU kvs k v;omega
    refine wpAny_setItem_pairs (hsz:=hz) (kh ry) dd fun h' dd' hs=>h _ ?_
    have he:∃q,h'.get? a=some q:=let ⟨q,_,_,hq,_⟩:=dd';⟨q,hq⟩
    exact kP I (by rw[e];exact True.intro) hs he (p5 hl hd (rel.put k rv) dd')
  · subst ey eH
    cases (show u=Value.ref b from ry)
    obtain⟨z,hd,xs,rel,dd⟩:=ux I.hok e
    have hz:xs.length<=sizeLine:=by rw[<-Paired.length rel];exact z
    have hl:(putK kvs k v).length<=sizeLine:=by have:=iU kvs k v;omega
    refine wpAny_setItem_heap (hsz:=hz) (tupleKind_room_in1 hu) (jk I.hok eb) dd fun h' dd' hs=>h _ ?_
    obtain⟨q,es,ep,hq,h2,h3,h4,_,h5⟩:=dd'
    refine kP I (by rw[e];exact True.intro) hs ⟨q,hq⟩ ⟨hl,hd,_,(rel.put k eb rv).keeps fun c ys ec=>?_,q,es,ep,hq,h2,h3,h4,h5⟩
    rw[au (cC ec e (fun z=>nomatch z))]
    exact ec
end
section
variable {X:Cx}{pins:List (Addr×Obj)}{σ:St}{H:Hp}{s:Shared}{a:Addr}{kvs:List (Key×V)}{k:Key}{u:Value}{A:Around}{E:Value->Shared->Prop}
theorem uy {v:V}{more:List Value}{Q:Value->Shared->Prop}(I:Inv X pins σ H s)(e:H a=some (.dK kvs))(ry:RelV (kV k) u)(l:a4 kvs k=some v)(hm:more=[]\/∃x,more=[x])
    (h:∀w' s',Inv X pins σ (upd H a (.dK (cD kvs k))) s'->RelV v w'->Q w' s'):wpAny (model X.prog X.w) A (call (.builtin "dict.pop") (.ref a::u::more)) Q E s:=by
  obtain⟨z,hd,vs,rel,dd⟩:=nO I.hok e
  obtain⟨w',hw,rw'⟩:=eX.some_of (v:=v) (o:=valueAt vs k) (by rw[<-l];exact rel.val k)
  have hp:(keyPart u).isSome=true:=by
    cases k with
    | inl i=>obtain⟨t,q⟩:=(show ∃t,u=Value.int i t from ry);subst q;rfl
    | inr x=>obtain⟨t,q⟩:=(show ∃t,u=Value.str x t from ry);subst q;rfl
  have ha:argsOk "dict.pop" ⟨.ref a::u::more,[]⟩:=by
    rcases hm with q | ⟨x,q⟩
    · subst q;exact PySem.F.args_dict_pop_2 _ _
    · subst q;exact PySem.F.args_dict_pop_3 _ _ _
  refine call_meetsIn PySem.F.slot_dict_pop dd.typeIs PySem.F.entry_dict_pop ha (meets_dict_pop_there (bq X.prog X.w) a (kh ry) more hm hp)
    ⟨vs,w',dd,by rw[<-rel.length];exact z,hw,fun h' dd' hs=>h w' _ ?_ rw'⟩
  have he:∃q,h'.get? a=some q:=let ⟨q,_,_,hq,_⟩:=dd';⟨q,hq⟩
  exact kP I (by rw[e];exact True.intro) hs he (p5 (Nat.le_trans (p4 kvs k) z) hd (rel.drop k) dd')
end
def uz (i:Expr): Prop:=∀ov iv,subscripted i false ov iv=operate [ov,iv] (getItem ov iv)
theorem q_ {prog:Program}{w:World}{A:Around}{E:Value->Shared->Prop}{s:Shared}{env:Env}{value slice:Expr}{pos:Pos}{T id:String}{Q:Value->Shared->Prop}
    (hl:typeLookup (.type T) "__getitem__" = pure (some (.builtin id))) (hs:uz slice)
    (h:wpAny (model prog w) A (eval value env) (fun o s₁=>wpAny (model prog w) A (eval slice env) (fun i s₂=>s₂.TypeIs o T/\wpAny (model prog w) A (getItem o i) Q E s₂) E s₁) E s) :
    wpAny (model prog w) A (eval (.Subscript value slice pos) env) Q E s:=by
  refine Subscript_ (wpAny_mono h (fun o s₁ h₁=>wpAny_mono h₁ (fun i s₂ h₂=>?_) fun _ _ x=>x) fun _ _ x=>x)
  obtain⟨hT,h₂⟩:=h₂
  unfold subscriptTail
  refine wpAny_bind ?_
  rw[getitemInPython_of_ne hT.not_modules]
  refine wpAny_bind (wpAny_specialOf hT hl ?_)
  have fin:wpAny (model prog w) A (subscripted slice false o i) (fun r s₃=>wpAny (model prog w) A (letTemporaryGo value o r >>= fun _=>pure r) Q E s₃) E s₂:=by
    rw[hs o i]
    exact wpAny_operating (wpAny_mono h₂ (fun r s₃ h₃=>wpAny_bind (wpAny_letTemporaryGo (wpAny_pure h₃))) fun _ _ x=>x)
  first
    | exact wpAny_pure (wpAny_bind fin)
    | exact wpAny_bind (wpAny_pure (wpAny_bind fin))
    | exact wpAny_bind fin
theorem lT {X:Cx}{pins:List (Addr×Obj)}{σ:St}{H:Hp}{s:Shared}{a:Addr}{y:V}{o:Option V}(I:Inv X pins σ H s)(g:jl H a y o): s.TypeIs (.ref a) "dict" := by
  rcases g with ⟨kvs,k,e,_,_⟩ | ⟨kvs,k,b,e,_,_,_⟩
  · obtain⟨_,_,vs,_,dd⟩:=km I.hok e
    exact dd.typeIs
  · obtain⟨_,_,xs,_,dd⟩:=kn I.hok e
    exact dd.typeIs
def uA (td ty:TE): TE:=fun σ H Q=>td σ H fun x H1=>ty σ H1 fun y H2=>∃a v,x=.ref a/\jl H2 a y (some v)/\Q v H2
def uB (td ty tv:TE): TS:=fun D σ H=>tv σ H fun v H1=>td σ H1 fun x H2=>ty σ H2 fun y H3=>∃a H4,x=.ref a/\oO H3 a y v H4/\D.nx σ H4
section
variable {X:Cx}{o i e value:Expr}{pos pos' tpos:Pos}{td ty tv:TE}
theorem kQ (hu:X.A.units+1 < cLine)(ho:PE X o td)(hi:PE X i ty)(hs:uz i): PE X (.Subscript o i pos) (uA td ty):=by
  intro pins s σ H Q I h
  refine q_ PySem.F.slot_dict_getitem.lookup hs (thn (ho pins s σ H _ I h) fun u s1 ⟨x,H1,I1,rx,q1⟩=>thn (hi pins s1 σ H1 _ I1 q1) fun iv s2 ⟨y,H2,I2,ry,a,v,ex,g,q2⟩=>?_)
  subst ex
  obtain rfl:u=Value.ref a:=rx
  exact⟨lT I2 g,oP hu I2 g ry fun w' s3 I3 rw'=>⟨v,H2,I3,rw',q2⟩⟩
theorem nP (hu:X.A.units+1 < cLine)(ho:PE X o td)(hi:PE X i ty)(hv:PE X value tv)(hs:swapsWith value (some (.Subscript o i pos')) pos.line X.env=pure false):
    PS X (.Assign [.Subscript o i pos'] value pos) (uB td ty tv):=by
  intro pins s σ H D I h
  refine wpAny_Assign_Subscript (thn (hv pins s σ H _ I h) fun r s1 ⟨v,H1,I1,rv,q1⟩=>thn (ho pins s1 σ H1 _ I1 q1) fun u s2 ⟨x,H2,I2,rx,q2⟩=>thn (hi pins s2 σ H2 _ I2 q2) fun iv s3 ⟨y,H3,I3,ry,a,H4,ex,g,q3⟩=>?_) hs
  subst ex
  obtain rfl:u=Value.ref a:=rx
  exact oQ hu I3 g ry rv fun s4 I4=>⟨σ,H4,I4,q3⟩
end
theorem p6 {P:Program}{w:World}{H:Hp}(h:Heap)(hb:sysModules < h.objs.size): aV P w H (h.push { cls:=.type "dict",data:=.dict #[] }) h.objs.size (.dK []) :=
  ⟨Nat.zero_le _,beq_eq_false_iff_ne.mpr (Ne.symm (Nat.ne_of_lt hb)),[],.nil,Heap.DictOf.new h⟩
def sO:TE:=fun _ H Q=>∀p,H p=none->Q (.ref p) (upd H p (.dK []))
section
variable {X:Cx}{pos:Pos}
theorem fh:PE X (.Dict [] [] pos) sO:=fun pins s σ H Q I h =>
  wpAny_Dict_empty ⟨.ref s.heap.objs.size,_,I.laid (a:=s.heap.objs.size) (o:=.dK []) (t':=s.toks) (fun _ _ q=>Heap.get?_push_of_some _ q) (Nat.le_refl _) (p6 s.heap I.big),rfl,h _ (I.hok.fresh (Nat.le_refl _))⟩
end
structure M1 (X:Cx)(o:Expr)(m:Str)(apos:Pos)(e:Expr)(cpos:Pos): Prop where
  base:attributeBase o m X.env (eval o X.env)=eval o X.env
  few:((backTo cpos (starEach [e] X.env)).all (fun x=>!x.1)&&(backToKw cpos (keywordEach [] X.env)).all (fun x=>x.1.isSome)
    && decide (([e]:List Expr).length+([]:List Keyword).length+(if ([]:List Keyword).isEmpty then 0 else 1) < 30))=true
  line:(apos.endLine==cpos.line)=true
  trees:backTo cpos (starEach [e] X.env)=[(false,eval e X.env)]
def IsD (H:Hp)(a:Addr): Prop:=(∃kvs,Rd H a (.dK kvs))\/∃kvs,Rd H a (.dT kvs)
theorem sP {X:Cx}{pins:List (Addr×Obj)}{σ:St}{H:Hp}{s:Shared}{a:Addr}(I:Inv X pins σ H s)(d:IsD H a):
    s.TypeIs (.ref a) "dict" ∧ (∀b,Value.ref a=.ref b->∃ob,s.heap.get? b=some ob/\ob.dict=none)/\(a==sysModules)=false:=by
  rcases d with ⟨kvs,e⟩ | ⟨kvs,e⟩
  · obtain⟨_,hd,vs,_,dd⟩:=km I.hok e
    refine⟨dd.typeIs,fun b q=>?_,hd⟩
    cases q
    obtain⟨ob,_,_,h1,h2,_⟩:=dd
    exact⟨ob,h1,h2.2.1⟩
  · obtain⟨_,hd,xs,_,dd⟩:=kn I.hok e
    refine⟨dd.typeIs,fun b q=>?_,hd⟩
    cases q
    obtain⟨ob,_,_,h1,h2,_⟩:=dd
    exact⟨ob,h1,h2.2.1⟩
section
variable {X:Cx}{pins:List (Addr×Obj)}{σ:St}{H:Hp}{s:Shared}{a:Addr}{y d:V}{u r:Value}{o:Option V}{A:Around}{E:Value->Shared->Prop}
end
def sQ (td ty:TE): TE:=fun σ H Q=>td σ H fun x H1=>∃a,x=.ref a/\IsD H1 a/\ty σ H1 fun y H2=>∃kvs k v,H2 a=some (.dK kvs)/\y=kV k/\a4 kvs k=some v/\Q v (upd H2 a (.dK (cD kvs k)))
section
variable {X:Cx}{o e f:Expr}{apos cpos:Pos}{td ty tx:TE}
theorem lU (ho:PE X o td) (he:PE X e ty) (m:M1 X o "pop" apos e cpos):PE X (.Call (.Attribute o "pop" apos) [e] [] cpos) (sQ td ty):=by
  intro pins s σ H Q I h
  refine wpAny_Call_method m.base m.few m.line PySem.F.plainAttrs_dict PySem.F.slot_dict_pop PySem.F.type_dict_pop (thn (ho pins s σ H _ I h) fun u s1 ⟨x,H1,I1,rx,a,ex,d,q1⟩=>?_)
  subst ex
  obtain rfl:u=Value.ref a:=rx
  obtain⟨t1,t2,_⟩:=sP I1 d
  refine⟨t1,t2,?_⟩
  rw[m.trees]
  refine Calls.callWith_builtin rfl (Calls.evalArgs_plain (Calls.spliced_cons (thn (he pins s1 σ H1 _ I1 q1) fun iv s2 ⟨y,H2,I2,ry,kvs,k,v,ea,ey,l,q2⟩=>Calls.spliced_nil ?_)))
  subst ey
  exact uy I2 ea ry l (.inl rfl) fun w' s3 I3 rw'=>⟨v,_,I3,rw',q2⟩
end
section
variable {X:Cx}{pins:List (Addr×Obj)}{σ:St}{H:Hp}{s:Shared}{a:Addr}{kvs:List (Key×V)}{A:Around}{E:Value->Shared->Prop}
end
section
variable {X:Cx}{pins:List (Addr×Obj)}{σ:St}{H:Hp}{s:Shared}{a:Addr}{y:V}{u:Value}{A:Around}{E:Value->Shared->Prop}
end
end L2
namespace L2
open PySem PySem.Spec PyProof.Rows
section
variable {X:Cx}
end
section
variable {κ:Type}[DecidableEq κ]
theorem kq {p:κ×V}{r:List (κ×V)}{k:κ}(e:p.1=k): cD (p::r) k=cD r k:=by
  unfold cD
  rw[List.filter_cons,if_neg (by simp[e])]
theorem kr {p:κ×V}{r:List (κ×V)}{k:κ}(e:¬p.1=k): cD (p::r) k=p::cD r k:=by
  unfold cD
  rw[List.filter_cons,if_pos (by simp[e])]
end
end L2

set_option maxHeartbeats 4000000
namespace L2
open PySem
def jm (h:Heap)(a:Addr)(cls:Value)(dct:Option Addr)(hd:Value): Prop :=
  ∃oe vs,h.get? a=some oe/\oe.cls=cls/\oe.dict=dct/\oe.data=.fields vs/\vs[1]?=some hd ∧
    (hd=.none\/∃T oT ts,hd=.ref T/\T≠a/\h.get? T=some oT/\oT.data=.fields ts/\ts[3]?=some .none)
theorem oR (o:Obj)(f:Array Value->Array Value): (o.mapFields f).dict=o.dict:=by
  obtain⟨c,d,dt,sl⟩:=o
  cases dt<;>rfl
section
variable {M:Model}{A:Around}{E:Value->Shared->Prop}{s:Shared}
theorem ku {base:Heap}{env:Env}{outer:List Env}{L a:Addr}{oe:Obj}{vs:Array Value}{hd:Value}{b:Bool}{Q:Unit->Shared->Prop}
    (hfr:A.frames=some (env::outer)) (hl:s.heap.FunFrames base (env::outer)) (hf:env.frame=some L) (he:s.heap.get? a=some oe) (hdt:oe.data=.fields vs) (h1:1 < vs.size)
    (h:∀(h':Heap) (T:Addr),s.heap.get? T=none->T≠a->(∀b o,b≠a->b∉(env::outer).filterMap (·.frame)->s.heap.get? b=some o->h'.get? b=some o) ->
      (∀b o,b≠a->s.heap.get? b=some o->∃sl,h'.get? b=some { o with slots:=sl })->jm h' a oe.cls oe.dict (.ref T)->Q () { s with heap:=h' }) :
    wpAny M A (do setField (.ref a) 1 (<-EntryCells.newEntry hd (<-frameOf env) .none (rawInt L) .none (<-entryPlaceOf L b))) (fun _ s'=>wpAny M A (setFlight (.ref a) none) Q E s') E s:=by
  have na:a∉(env::outer).filterMap (·.frame):=fun hm=>by
    obtain⟨_,o,ho,hn⟩:=hl.mem hm
    rw[he] at ho;cases ho
    exact hn vs hdt
  refine wpAny_bind (wpAny_frameOf_fun hfr hl hf fun h₁ hs=>?_)
  refine wpAny_bind (wpAny_entryPlaceOf fun pl hpl=>?_)
  unfold EntryCells.newEntry newFields
  refine wpAny_bind (wpAny_newObj_type ?_ (hpl.sizeOk5 _ _ _ _ _))
  generalize hts:([hd,Value.ref L,Value.none,rawInt L,Value.none]++(if pl.isEmpty then List.replicate 6 Value.none else pl)).toArray=ts
  have hsz:3 < ts.size:=by
    rw[<-hts]
    simp only [List.size_toArray,List.length_append,List.length_cons,List.length_nil]
    omega
  have e1:h₁.get? a=some oe:=(hs.2.1 a na).trans he
  have lt1:h₁.objs.size≠a:=Nat.ne_of_gt (Heap.lt_size e1)
  have e2:(h₁.push { cls:=.type "traceback",dict:=none,data:=.fields ts }).get? a=some oe:=Heap.get?_push_of_some _ e1
  refine wpAny_setField e2 hdt h1 ?_
  have d3:=Obj.data_mapFields hdt (·.setIfInBounds 1 (Value.ref h₁.objs.size))
  have e3:=Heap.get?_update_self (Obj.mapFields (·.setIfInBounds 1 (Value.ref h₁.objs.size))) e2 (Obj.isFreed_of_fields d3)
  have t3:((h₁.push { cls:=.type "traceback",dict:=none,data:=.fields ts }).update a (Obj.mapFields (·.setIfInBounds 1 (Value.ref h₁.objs.size)))).get? h₁.objs.size=some { cls:=.type "traceback",dict:=none,data:=.fields ts }:=by
    rw[Heap.get?_update_other _ _ (Ne.symm lt1)]
    exact Heap.get?_push_size h₁ rfl
  unfold setFlight
  refine wpAny_bind (wpAny_field e3 d3 (x:=.ref h₁.objs.size) (by simp[h1]) ?_)
  rw[if_pos (show (Value.ref h₁.objs.size != Value.none)=true by simp)]
  refine wpAny_setField t3 rfl hsz ?_
  have keep:∀b o,b≠a->h₁.get? b=some o->(((h₁.push { cls:=.type "traceback",dict:=none,data:=.fields ts }).update a (Obj.mapFields (·.setIfInBounds 1 (Value.ref h₁.objs.size)))).update h₁.objs.size
      (Obj.mapFields (·.setIfInBounds 3 ((none:Option Addr).elim Value.none fun f=>rawInt f)))).get? b=some o:=fun b o nb e=>by
    rw[Heap.get?_update_other _ _ (Nat.ne_of_gt (Heap.lt_size e)),Heap.get?_update_other _ _ (Ne.symm nb)]
    exact Heap.get?_push_of_some _ e
  refine h _ h₁.objs.size ?_ lt1 (fun b o nb nf e=>keep b o nb ((hs.2.1 b nf).trans e)) (fun b o nb e=>?_) ?_
  · rw[hs.1]
    exact Heap.get?_none_of_le (Nat.le_refl _)
  · obtain⟨sl,q⟩:=hs.2.2 b o e
    exact⟨sl,keep b _ nb q⟩
  · refine⟨_,_,?_,Obj.cls_mapFields oe (·.setIfInBounds 1 (Value.ref h₁.objs.size)),oR oe (·.setIfInBounds 1 (Value.ref h₁.objs.size)),d3,by simp[h1],.inr ⟨h₁.objs.size,_,_,rfl,lt1,
      Heap.get?_update_self _ t3 (Obj.isFreed_of_fields (Obj.data_mapFields rfl _)),Obj.data_mapFields rfl _,by simp[hsz]⟩⟩
    rw[Heap.get?_update_other _ _ lt1]
    exact e3
theorem lV {base:Heap}{env:Env}{outer:List Env}{L a:Addr}{cls hd:Value}{dct:Option Addr}{Q:Unit->Shared->Prop}
    (hfr:A.frames=some (env::outer)) (hl:s.heap.FunFrames base (env::outer)) (hf:env.frame=some L) (hx:jm s.heap a cls dct hd)
    (h:∀(h':Heap) (T:Addr),s.heap.get? T=none->T≠a->(∀b o,b≠a->hd≠.ref b->b∉(env::outer).filterMap (·.frame)->s.heap.get? b=some o->h'.get? b=some o) ->
      (∀b o,b∈(env::outer).filterMap (·.frame)->s.heap.get? b=some o->∃sl,h'.get? b=some { o with slots:=sl })->jm h' a cls dct (.ref T)->Q () { s with heap:=h' }) :
    wpAny M A (noteFrame (.ref a) env) (fun _ s'=>wpAny M A (setFlight (.ref a) none) Q E s') E s:=by
  obtain⟨oe,vs,he,rfl,rfl,hdt,h1,hc⟩:=hx
  have fr:∀b o,b∈(env::outer).filterMap (·.frame)->s.heap.get? b=some o->∀ws,o.data≠.fields ws:=fun b o hb e=>by
    obtain⟨_,o',ho,hn⟩:=hl.mem hb
    rw[e] at ho;cases ho
    exact hn
  have na:∀b o,b∈(env::outer).filterMap (·.frame)->s.heap.get? b=some o->b≠a:=fun b o hb e z=>by
    subst z
    rw[e] at he;cases he
    exact fr _ _ hb e vs hdt
  have z1:=(Array.getElem?_eq_some_iff.mp h1).1
  unfold noteFrame
  simp only [hf]
  refine wpAny_bind (wpAny_field he hdt h1 ?_)
  rcases hc with rfl | ⟨T,oT,ts,rfl,hTa,hT,hTd,h3⟩
  · rw[if_neg (by decide)]
    refine ku hfr hl hf he hdt z1 fun h' T' n1 n2 k1 k2 fl=>h h' T' n1 n2 (fun b o nb _ nf e=>k1 b o nb nf e) (fun b o hb e=>k2 b o (na b o hb e) e) fl
  · rw[if_pos (show (Value.ref T != Value.none)=true by simp)]
    refine wpAny_bind (wpAny_field hT hTd h3 ?_)
    rw[if_neg (show ¬((Value.none==rawInt L)=true) by simp[rawInt])]
    refine wpAny_bind (wpAny_setField hT hTd (Array.getElem?_eq_some_iff.mp h3).1 ?_)
    have oth:∀b,b≠T->(s.heap.update T (Obj.mapFields (·.setIfInBounds 3 Value.none))).get? b=s.heap.get? b:=fun b nb=>Heap.get?_update_other _ _ (Ne.symm nb)
    have fT:∀b o,s.heap.get? b=some o->(∀ws,o.data≠.fields ws)->b≠T:=fun b o e hn z=>by
      rw[z,hT] at e;cases e
      exact hn ts hTd
    refine ku (s:={ s with heap:=s.heap.update T (Obj.mapFields (·.setIfInBounds 3 Value.none)) }) hfr (hl.of_keeps fun b o e hn=>⟨o,(oth b (fT b o e hn)).trans e,rfl⟩) hf ((oth a (Ne.symm hTa)).trans he) hdt z1
      fun h' T' n1 n2 k1 k2 fl=>h h' T' ?_ n2 (fun b o nb nT nf e=>k1 b o nb nf ((oth b (fun z=>nT (by rw[z]))).trans e)) (fun b o hb e=>k2 b o (na b o hb e) ((oth b (fT b o e (fr b o hb e))).trans e)) fl
    cases q:s.heap.get? T' with
    | none=>rfl
    | some o =>
      by_cases z:T'=T
      · subst z
        have:=Heap.get?_update_self (Obj.mapFields (·.setIfInBounds 3 Value.none)) hT (Obj.isFreed_of_fields (Obj.data_mapFields hTd _))
        rw[this] at n1;cases n1
      · have n1':(s.heap.update T (Obj.mapFields (·.setIfInBounds 3 Value.none))).get? T'=none:=n1
        rw[oth T' z,q] at n1';cases n1'
theorem oS {base:Heap}{env:Env}{outer:List Env}{L a:Addr}{cls hd:Value}{dct:Option Addr}{Q:Unit->Shared->Prop}
    (hfr:A.frames=some (env::outer)) (hl:s.heap.FunFrames base (env::outer)) (hf:env.frame=some L) (hx:jm s.heap a cls dct hd)
    (h:∀(h':Heap) (T:Addr),s.heap.get? T=none->T≠a->(∀b o,b≠a->hd≠.ref b->b∉(env::outer).filterMap (·.frame)->s.heap.get? b=some o->h'.get? b=some o) ->
      (∀b o,b∈(env::outer).filterMap (·.frame)->s.heap.get? b=some o->∃sl,h'.get? b=some { o with slots:=sl })->jm h' a cls dct (.ref T)->Q () { s with heap:=h' }) :
    wpAny M A (leaving env (.ref a)) Q E s:=by
  unfold leaving
  exact wpAny_bind (lV hfr hl hf hx h)
theorem p7 {a T:Addr}{cls:Value}{dct:Option Addr}{Q:Unit->Shared->Prop}(hx:jm s.heap a cls dct (.ref T))
    (h:∀h',(∀b o,b≠T->s.heap.get? b=some o->h'.get? b=some o)->jm h' a cls dct (.ref T)->Q () { s with heap:=h' }):wpAny M A (setFlight (.ref a) none) Q E s:=by
  obtain⟨oe,vs,he,rfl,rfl,hdt,h1,hc⟩:=hx
  rcases hc with z | ⟨T',oT,ts,z,hTa,hT,hTd,h3⟩
  · cases z
  · cases z
    unfold setFlight
    refine wpAny_bind (wpAny_field he hdt h1 ?_)
    rw[if_pos (show (Value.ref T != Value.none)=true by simp)]
    have z3:=(Array.getElem?_eq_some_iff.mp h3).1
    have oth:∀b,b≠T->(s.heap.update T (Obj.mapFields (·.setIfInBounds 3 ((none:Option Addr).elim Value.none fun f=>rawInt f)))).get? b=s.heap.get? b:=fun b nb=>Heap.get?_update_other _ _ (Ne.symm nb)
    refine wpAny_setField hT hTd z3 (h _ (fun b o nb e=>(oth b nb).trans e) ⟨oe,vs,(oth a (Ne.symm hTa)).trans he,rfl,rfl,hdt,h1,.inr ⟨T,_,_,rfl,hTa,Heap.get?_update_self _ hT (Obj.isFreed_of_fields (Obj.data_mapFields hTd _)),Obj.data_mapFields hTd _,?_⟩⟩)
    simp[z3]
end
end L2

set_option maxHeartbeats 4000000
namespace L2
open PySem PySem.Spec PyProof.Rows
def rN (h0 h:Heap)(H:Hp)(a:Addr)(cls:Value)(dct:Option Addr): Prop :=
  ∃hd,jm h a cls dct hd/\H a=none/\h0.get? a=none/\∀T,hd=.ref T->H T=none/\h0.get? T=none
def CXE (P:Program)(w:World): CXT:=fun outer H s E e s'=>∃a cls dct H',e=.ref a/\s'.os=s.os/\AllBare s'.gens/\Un (frs outer) [] H H' s.heap s'.heap/\HOk P w H' s'.heap/\rN s.heap s'.heap H' a cls dct/\E cls dct H'
theorem aV.there {P:Program}{w:World}{H:Hp}{h:Heap}{a:Addr}{o:HO}(x:aV P w H h a o): ∃ob,h.get? a=some ob:=by
  cases o with
  | lst xs=>obtain⟨_,_,_,_,e⟩:=x;exact⟨_,e⟩
  | tup xs=>obtain⟨_,_,_,ob,e,_⟩:=x;exact⟨_,e⟩
  | dK kvs=>obtain⟨_,_,_,_,o,_,_,e,_⟩:=x;exact⟨_,e⟩
  | dT kvs=>obtain⟨_,_,_,_,o,_,_,e,_⟩:=x;exact⟨_,e⟩
  | set S n=>obtain⟨o,_,_,_,e,_⟩:=x;exact⟨_,e⟩
  | ins C dx fs=>obtain⟨_,_,_,e,_⟩:=x;exact⟨_,e⟩
  | own y=>exact x
  | xd fs=>obtain⟨_,⟨_,_,_,e,_⟩,_⟩:=x;exact⟨_,e⟩
  | rng lo hi=>obtain⟨_,_,_,e⟩:=x;exact⟨_,e⟩
  | frz ob u=>obtain⟨e,_⟩:=x;exact⟨_,e⟩
  | tbl ps=>exact⟨_,(show h.get? a=some _ from x)⟩
  | met f y=>exact⟨_,(show h.get? a=some _ from x)⟩
  | ext φ=>obtain⟨_,e,_⟩:=x;exact e
theorem nQ {env:Env}{l:List Env}{b:Addr}(hb:b∈frs l): b∈frs (env::l):=by
  unfold frs at *
  rw[List.filterMap_cons]
  cases env.frame with
  | none=>exact hb
  | some L=>exact List.mem_cons_of_mem _ hb
section
variable {X:Cx}{pins:List (Addr×Obj)}{σ:St}{H H':Hp}{s:Shared}{h':Heap}{a T:Addr}{cls hd:Value}{dct:Option Addr}
theorem fU (I:Inv X pins σ H s)(hex:X.ex=[])(n:s.heap.get? a=none): X.s₀.heap.get? a=none:=by
  cases e:X.s₀.heap.get? a with
  | none=>rfl
  | some o =>
    obtain⟨o1,e1⟩:=I.base.there a o e (by rw[hex];simp)
    rw[n] at e1;cases e1
theorem nR (I:Inv X pins σ H s)(keep:∀b o,b≠a->hd≠.ref b->b∉frs X.stack->s.heap.get? b=some o->h'.get? b=some o)(ha:H a=none)(hT:∀T,hd=.ref T->H T=none): HOk X.prog X.w H h':=fun b u e=>by
  have tr:∀c v,H c=some v->c≠a/\hd≠.ref c/\c∉frs X.stack:=fun c v q=>⟨aw q ha,fun z=>(by rw[hT c z] at q;cases q),fun z=>(by rw[I.kJ c z] at q;cases q)⟩
  refine(I.hok b u e).stay (fun c v hc q=>?_) (fun _ q=>q) fun _ _ q=>q
  obtain⟨z,hz⟩:∃v,H c=some v:=by
    rcases hc with rfl | hc
    · exact⟨_,e⟩
    · exact⟨_,hc⟩
  exact keep c v (tr c z hz).1 (tr c z hz).2.1 (tr c z hz).2.2 q
theorem mK (I:Inv X pins σ H s)(n:s.heap.get? T=none): H T=none:=by
  cases q:H T with
  | none=>rfl
  | some u =>
    obtain⟨ob,e⟩:=(I.hok T u q).there
    rw[n] at e;cases e
theorem rc (I:Inv X pins σ H s)(hex:X.ex=[])(hst:X.stack=X.env::X.outer)(ha:H a=none)(na:X.s₀.heap.get? a=none)(hT:∀T,hd=.ref T->H T=none/\X.s₀.heap.get? T=none)
    (nT:s.heap.get? T=none) (keep:∀b o,b≠a->hd≠.ref b->b∉frs X.stack->s.heap.get? b=some o->h'.get? b=some o)
    (slot:∀b o,b∈frs X.stack->s.heap.get? b=some o->∃sl,h'.get? b=some { o with slots:=sl }) (fl:jm h' a cls dct (.ref T)) :
    Un (frs X.outer) [] X.H₀ H X.s₀.heap h'/\HOk X.prog X.w H h'/\rN X.s₀.heap h' H a cls dct:=by
  have s0a:∀b o,X.s₀.heap.get? b=some o->b≠a/\hd≠.ref b:=fun b o e=>⟨fun z=>(by rw[z,na] at e;cases e),fun z=>(by rw[(hT b z).2] at e;cases e)⟩
  have s0L:∀b o,X.s₀.heap.get? b=some o->b∈frs X.stack->b∈frs X.outer:=fun b o e hb=>by
    rcases List.mem_cons.mp (I.eY b hb) with z | z
    · rw[z] at e
      exact absurd (Nat.lt_of_lt_of_le (Heap.lt_size e) I.ok.above) (Nat.lt_irrefl _)
    · exact z
  have jK:∀b:Addr,b∉X.ex:=fun b=>by rw[hex];simp
  refine⟨⟨fun b o e n hb _=>?_,fun b o e n hb _=>?_,fun b o e n _=>I.base.free b o e n (jK b),fun b o e _=>?_,I.base.tups,I.base.h_,I.base.iW⟩,nR I keep ha fun T z=>(hT T z).1,?_⟩
  · exact keep b o (s0a b o e).1 (s0a b o e).2 (fun z=>hb (s0L b o e z)) (I.base.keep b o e n hb (jK b))
  · obtain⟨sl,e1⟩:=I.base.slot b o e n hb (jK b)
    obtain⟨sl',e2⟩:=slot b _ (by rw[hst];exact nQ hb) e1
    exact⟨sl',e2⟩
  · obtain⟨o1,e1⟩:=I.base.there b o e (jK b)
    by_cases hb:b∈frs X.stack
    · obtain⟨sl,e2⟩:=slot b o1 hb e1
      exact⟨_,e2⟩
    · exact⟨_,keep b o1 (s0a b o e).1 (s0a b o e).2 hb e1⟩
  · exact⟨.ref T,fl,ha,na,fun T' z=>by cases z;exact⟨mK I nT,fU I hex nT⟩⟩
def bG (CX:CXT)(X:Cx)(E:St->XK): Prop:=∀(pins:List (Addr×Obj)) (σ:St) (H:Hp) (s:Shared) (e:Value) (s':Shared),Inv X pins σ H s->CX X.stack H s (E σ) e s'->X.xe e s'
end
section
variable {P:Program}{w:World}{K:W.Frag}{mg:Str->Option Value}{base:Heap}{N:List Str}{qual:Str}{scope:Scope}{f:Addr}{cd:Value}{A:Around}{outer:List Env}{s:Shared}{H:Hp}{E:XK}
theorem aq:bG (CXE P w) (ei (CXE P w) P w K mg base N qual scope f cd A outer s H E) (fun _=>E):=by
  intro pins σ H1 s1 e s2 I hx
  obtain⟨a,cls,dct,H2,he,hos,hg,un,hok,⟨hd,fl,ha,na,hT⟩,q⟩:=hx
  subst he
  have I2:Inv (ei (CXE P w) P w K mg base N qual scope f cd A outer s H E) pins σ H2 s2:=I.call' hos un hok hg (fun b z=>absurd z (by simp))
  show wpAny _ _ (leaving _ (.ref a)) _ _ s2
  refine oS (env:=envOfC qual scope s.heap.objs.size f cd) (outer:=outer) I.ok.frames I2.stack rfl fl fun h' T n1 n2 k1 k2 fl'=>?_
  obtain⟨y1,y2,y3⟩:=rc I2 rfl rfl ha (fU I rfl na) (fun T z=>⟨(hT T z).1,fU I rfl (hT T z).2⟩) n1 k1 k2 fl'
  exact⟨a,cls,dct,H2,rfl,I2.os,I2.bare,y1,y2,y3,q⟩
theorem cg:PassesOwn (model P w) (A.deeper (envOfC qual scope s.heap.objs.size f cd)) (envOfC qual scope s.heap.objs.size f cd) (ei (CXE P w) P w K mg base N qual scope f cd A outer s H E).xe:=PassesOwn.leaving
end
section
variable {P:Program}{w:World}{K:W.Frag}{mg:Str->Option Value}{base:Heap}
end
def p8 (sp:Sp)(dvs:List V)(E:St->XK)(t:TA): TE:=fun σ H Q=>t σ H fun vs H1=>sp (vs++dvs) H1 Q (E σ)
def kR (C:Addr)(m:Str)(sp:Sp)(dvs:List V)(E:St->XK)(ta:TE)(t:TA): TE:=fun σ H Q=>ta σ H fun x H1=>∃a dx fs,x=.ref a/\H1 a=some (.ins C dx fs)/\fs.lookup m=none ∧
  t σ H1 fun vs H2=>sp (x::(vs++dvs)) H2 Q (E σ)
def mL (C:Addr)(sp:Sp)(dvs:List V)(E:St->XK)(t:TA): TE:=fun σ H Q=>t σ H fun vs H1=>∀x dx,H1 x=none->H1 dx=none->dx≠x ->
  sp (.ref x::(vs++dvs)) (upd (upd H1 dx (.own x)) x (.ins C dx [])) (fun v H2=>v=.non/\Q (.ref x) H2) (E σ)
section
variable {X:Cx}{CX:CXT}{k:Nat}{f C:Addr}{fd:FuncData}{ps:List Str}{sp:Sp}{dvs:List V}{ds:List Value}{E:St->XK}{x m:Str}{p pos apos:Pos}{e o:Expr}{es:List Expr}{ta:TE}{t:TA}
theorem kS {pins:List (Addr×Obj)}{σ:St}{H:Hp}{s:Shared}{Q:VK}{us:List Value}{vs:List V}(F:gw X.prog X.w X.K X.mg X.base CX k f fd ps sp)(hr:bS k X.A)(hb:Binds X.K fd ps ds)(hd:Vals dvs ds)(hx:bG CX X E)
    (I:Inv X pins σ H s) (r:Vals vs us) (h:sp (vs++dvs) H Q (E σ)):wpAny (model X.prog X.w) X.A (call (.ref f) us) (EP X pins σ Q) X.xe s:=by
  have r2:Vals (vs++dvs) (us++ds):=r.append hd
  have hl:(us++ds).length=ps.length:=by rw[<-r2.length];exact F.len _ _ _ _ h
  refine wpAny_call (codeAny_mono (F.run X.A X.stack s H ⟨us,[]⟩ (us++ds) (vs++dvs) Q (E σ) hr I.env0 (hb s us I.kIn hl) r2 h) fun r s' hq=>?_)
  cases r with
  | error e=>exact hx pins σ H s e s' I hq
  | ok fl =>
    cases fl with
    | ret u=>exact I.after hq
    | next=>exact False.elim hq
    | brk=>exact False.elim hq
    | cont=>exact False.elim hq
theorem p9 (F:gw X.prog X.w X.K X.mg X.base CX k f fd ps sp)(hr:bS k X.A)(hg:Gl X x)(hm:X.mg x=some (.ref f))(hk:W.keepIn X.K (.ref f)=true)(hb:Binds X.K fd ps ds)(hd:Vals dvs ds)(hx:bG CX X E)
    (ha:PA X (e::es) t) (hdb:(x==("__debug__" : Str))=false:=by decide) (he:starEach (e::es) X.env=(false,eval e X.env)::starEach es X.env:=by rfl) (hpl:(backTo pos (starEach es X.env)).any (·.1)=false:=by rfl) :
    PE X (.Call (.Name x p) (e::es) [] pos) (p8 sp dvs E t):=by
  intro pins s σ H Q I h
  refine wpAny_Call_Name_kw (fR I hg hm ?_ hdb)
  refine W.callWith_K (h₀:=X.base) I.ok.mod.kin hk (thn (ha pos pins s σ H _ I h) fun us s1 ⟨vs,H1,I1,r,q⟩=>⟨I1.kIn,?_⟩) he hpl
  exact kS F hr hb hd hx I1 r q
theorem p_ {pl:Sem Bool}(he:PE X o ta)(c:Cls X.K C)(hm:Meth X.K C m f)(F:gw X.prog X.w X.K X.mg X.base CX k f fd ps sp)(hr:bS k X.A)(hb:Binds X.K fd ps ds)(hd:Vals dvs ds)(hx:bG CX X E)(ha:PA X (e::es) t)
    (hst:starEach (e::es) X.env=(false,eval e X.env)::starEach es X.env:=by rfl) (hpl:(backTo pos (starEach es X.env)).any (·.1)=false:=by rfl)
    (ht:eval (.Call (.Attribute o m apos) (e::es) [] pos) X.env=(do
      let ov <-eval o X.env
      standAt apos.atName
      let (f,first) <-holding [ov] (getMethod ov m pl)
      callWith pos f first (backTo pos (starEach (e::es) X.env)) (backToKw pos (keywordEach [] X.env))):=by rfl) :
    PE X (.Call (.Attribute o m apos) (e::es) [] pos) (kR C m sp dvs E ta t):=by
  intro pins s σ H Q I h
  refine W.methodCall_KW (pl:=pl) (thn (he pins s σ H _ I h) fun u s1 ⟨x,H1,I1,rx,a,dx,fs,ex,ea,l,q⟩=>?_) ht
  subst ex
  obtain rfl:u=Value.ref a:=rx
  refine ji I1 ea c hm l ?_
  refine W.callWith_K (first:=[.ref a]) (h₀:=X.base) I.ok.mod.kin hm.kp (thn (ha pos pins s1 σ H1 _ I1 q) fun us s2 ⟨vs,H2,I2,r,q2⟩=>⟨I2.kIn,?_⟩) hst hpl
  exact kS (us:=.ref a::us) (vs:=.ref a::vs) F hr hb hd hx I2 (.cons rfl r) q2
theorem oU {pl:Sem Bool}(he:PE X o ta)(c:Cls X.K C)(hm:Meth X.K C m f)(F:gw X.prog X.w X.K X.mg X.base CX k f fd ps sp)(hr:bS k X.A)(hb:Binds X.K fd ps ds)(hd:Vals dvs ds)(hx:bG CX X E)
    (ht:eval (.Call (.Attribute o m apos) [] [] pos) X.env=(do
      let ov <-eval o X.env
      standAt apos.atName
      let (f,first) <-holding [ov] (getMethod ov m pl)
      callWith pos f first (backTo pos (starEach [] X.env)) (backToKw pos (keywordEach [] X.env))):=by rfl) :
    PE X (.Call (.Attribute o m apos) [] [] pos) (kR C m sp dvs E ta qP):=by
  intro pins s σ H Q I h
  refine W.methodCall_KW (pl:=pl) (thn (he pins s σ H _ I h) fun u s1 ⟨x,H1,I1,rx,a,dx,fs,ex,ea,l,q⟩=>?_) ht
  subst ex
  obtain rfl:u=Value.ref a:=rx
  refine ji I1 ea c hm l ?_
  exact W.callWith_K0 (first:=[.ref a]) I1.kIn hm.kp (kS (us:=[.ref a]) (vs:=[.ref a]) F hr hb hd hx I1 (.cons rfl .nil) q)
theorem ky {pins:List (Addr×Obj)}{σ:St}{H:Hp}{s:Shared}{Q:VK}{us:List Value}{vs:List V}(M:Mk X.K C f)(F:gw X.prog X.w X.K X.mg X.base CX k f fd ps sp)(hr:bS (k+1) X.A)(hb:Binds X.K fd ps ds)(hd:Vals dvs ds)
    (hx:∀(H2:Hp) (s2:Shared) (e:Value) (s':Shared),Inv X pins σ H2 s2->CX X.stack H2 s2 (E σ) e s'->X.xe e s') (I:Inv X pins σ H s) (r:Vals vs us)
    (h:∀x dx,H x=none->H dx=none->dx≠x->sp (.ref x::(vs++dvs)) (upd (upd H dx (.own x)) x (.ins C dx [])) (fun v H2=>v=.non/\Q (.ref x) H2) (E σ)) :
    wpAny (model X.prog X.w) X.A (call (.ref C) us) (EP X pins σ Q) X.xe s:=by
  have hq:=h (s.heap.objs.size+1) s.heap.objs.size (I.hok.fresh (Nat.le_succ _)) (I.hok.fresh (Nat.le_refl _)) (Nat.ne_of_lt (Nat.lt_succ_self _))
  have I2:=Inv.made (C:=C) I
  have r2:Vals (V.ref (s.heap.objs.size+1)::(vs++dvs)) (Value.ref (s.heap.objs.size+1)::(us++ds)):=.cons rfl (r.append hd)
  have hl:(Value.ref (s.heap.objs.size+1)::us++ds).length=ps.length:=by
    have e:=r2.length
    rw[F.len _ _ _ _ hq] at e
    exact e.symm
  refine wpAny_call (pS (f:=f) I.kIn M.makes M.init (beq_iff_eq.mp M.fn) (codeAny_mono (F.run _ X.stack _ _ ⟨Value.ref (s.heap.objs.size+1)::us,[]⟩ (Value.ref (s.heap.objs.size+1)::(us++ds)) _ _ (E σ) (hr.make C us [])
    (I2.env0.make C us []) (hb _ (Value.ref (s.heap.objs.size+1)::us) I2.kIn hl) r2 hq) fun r s' hq'=>?_))
  cases r with
  | error e=>exact hx _ _ e s' I2 hq'
  | ok fl =>
    cases fl with
    | ret u =>
      obtain⟨v,H',I3,rv,ev,q3⟩:=I2.after hq'
      subst ev
      exact⟨rv,⟨V.ref (s.heap.objs.size+1),H',I3,rfl,q3⟩⟩
    | next=>exact False.elim hq'
    | brk=>exact False.elim hq'
    | cont=>exact False.elim hq'
theorem qc (M:Mk X.K C f)(F:gw X.prog X.w X.K X.mg X.base CX k f fd ps sp)(hr:bS (k+1) X.A)(hg:Gl X x)(hm:X.mg x=some (.ref C))(hb:Binds X.K fd ps ds)(hd:Vals dvs ds)(hx:bG CX X E)
    (ha:PA X (e::es) t) (hdb:(x==("__debug__" : Str))=false:=by decide) (he:starEach (e::es) X.env=(false,eval e X.env)::starEach es X.env:=by rfl) (hpl:(backTo pos (starEach es X.env)).any (·.1)=false:=by rfl) :
    PE X (.Call (.Name x p) (e::es) [] pos) (mL C sp dvs E t):=by
  intro pins s σ H Q I h
  refine wpAny_Call_Name_kw (fR I hg hm ?_ hdb)
  refine W.callWith_K (h₀:=X.base) I.ok.mod.kin M.kp (thn (ha pos pins s σ H _ I h) fun us s1 ⟨vs,H1,I1,r,q⟩=>⟨I1.kIn,?_⟩) he hpl
  exact ky M F hr hb hd (fun H2 s2 e s' J z=>hx pins σ H2 s2 e s' J z) I1 r q
end
end L2

set_option maxHeartbeats 4000000
namespace L2
open PySem PySem.Spec PyProof.Rows
def bmV:List Value:=[.type "ValueError",.type "Exception",.type "BaseException",.type "object"]
def kT (K:W.Frag)(C:Addr): Prop:=W.excIn K C bmV "ValueError.__new__" = true
theorem kT.obj {K:W.Frag}{C:Addr}(q:kT K C): ∃bm N nm qn bs hdct sn sub ab col dd k0 k1 k2 k3 k5,W.nsOkIn K N=true/\W.nsIn K N "__init__" = some none/\W.tailIn K bmV bm=true ∧
    K.lookup C=some (excClassObj nm qn C N bs bm hdct sn sub ab col dd k0 k1 k2 k3 k5 "ValueError.__new__"):=by
  unfold kT W.excIn at q
  split at q
  · next dd cd sl lk =>
    split at q
    · next C' bm k0 k1 k2 k3 nid k5 em es =>
      simp only [Bool.and_eq_true,beq_iff_eq,Bool.not_eq_true'] at q
      obtain⟨⟨⟨⟨⟨e1,e2⟩,e3⟩,e4⟩,e5⟩,e6⟩:=q
      subst e1
      subst e2
      obtain⟨nm,bs,mro,ns,qn,hdct,sn,sub,ab,col,del⟩:=cd
      dsimp only at em e3 e5 e6
      subst em
      subst e3
      obtain⟨sll⟩:=sl
      dsimp only at es
      subst es
      exact⟨bm,ns,nm,qn,bs,hdct,sn,sub,ab,col,dd,k0,k1,k2,k3,k5,e5,e6,e4,lk⟩
    · cases q
  · cases q
theorem sR {K:W.Frag}{N:Addr}{h h2:Heap}{m:Str->Option Value}(ok:W.nsOkIn K N=true)(X:K.In h)(X2:K.In h2)(n:h.Ns N m): h2.Ns N m:=by
  obtain⟨o,es,ep,ho,r⟩:=n
  unfold W.nsOkIn at ok
  split at ok
  · next lk =>
    have e:=X _ _ lk
    rw[ho] at e
    cases e
    exact⟨_,es,ep,X2 _ _ lk,r⟩
  · cases ok
section
variable {X:Cx}{E:St->XK}{x:Str}{C:Addr}{e₀:Expr}{es:List Expr}{t:TA}{np cpos pos:Pos}
def sS (C:Addr)(E:St->XK)(t:TA): TS:=fun _ σ H=>t σ H fun vs H1=>vs.length<=sizeLine/\E σ (.ref C) none H1
theorem cS (hC:kT X.K C) (hc:X.calm=true) (hg:Gl X x) (hm:X.mg x=some (.ref C)) (hx:bG (CXE X.prog X.w) X E) (ha:PA X (e₀::es) t) (hdb:(x==("__debug__" : Str))=false:=by decide)
    (he:starEach (e₀::es) X.env=(false,eval e₀ X.env)::starEach es X.env:=by rfl) (hpl:(backTo cpos (starEach es X.env)).any (·.1)=false:=by rfl) :
    PS X (.Raise (some (.Call (.Name x np) (e₀::es) [] cpos)) none pos) (sS C E t):=by
  intro pins s σ H D I h
  obtain⟨bm,N,nm,qn,bs,hdct,sn,sub,ab,col,dd,k0,k1,k2,k3,k5,f1,f2,f3,f4⟩:=hC.obj
  have hN:=PySem.Heap.Ns.of_isNs (W.isNs_of_in I.kIn f1)
  refine wpAny_Raise_call_subT (C:=C) (nm:=nm) (q:=qn) (N:=N) (bs:=bs) (bm:=bm) (hdct:=hdct) (sn:=sn) (sub:=sub) (ab:=ab) (col:=col) (dd:=dd) (k0:=k0) (k1:=k1) (k2:=k2) (k3:=k3) (k5:=k5)
    PySem.F.excBase_ValueError (mN:=s.heap.nsMap N) ((W.tail_of_in I.kIn f3).hasType PySem.F.excBase_ValueError.hasBase) (I.ok.hd hc) ?_ (W.nsMap_none_of_in I.kIn f1 f2) (fR I hg hm ⟨rfl,?_⟩ hdb)
  · rw[he]
    show (false || (backTo cpos (starEach es X.env)).any (·.1))=false
    rw[hpl]
    rfl
  · have ha':=ha cpos pins s σ H _ I h
    rw[he] at ha' ⊢
    refine Calls.evalArgs_plain (thn ha' fun us s2 q=>?_)
    obtain⟨vs,H1,I1,r,z,q⟩:=q
    refine⟨rfl,by rw[<-r.length];exact z,I1.kIn _ _ f4,sR f1 I.kIn I1.kIn hN,W.tail_of_in I1.kIn f3,fun h' e hmade=>?_⟩
    obtain⟨tp,q1,_,_⟩:=hmade.there
    exact hx pins σ H1 s2 (.ref e) _ I1 ⟨e,.ref C,none,H1,rfl,rfl,I1.bare,Un.kept hmade.keeps,I1.hok.kept hmade.keeps,⟨.none,⟨_,_,q1,rfl,rfl,rfl,rfl,.inl rfl⟩,mK I1 hmade.new,hmade.new,fun T z=>nomatch z⟩,q⟩
end
section
variable {X:Cx}{pins gd:List (Addr×Obj)}{σ:St}{H H':Hp}{s:Shared}{h':Heap}{a T:Addr}{cls hd:Value}{dct:Option Addr}
theorem Inv.sT {pn':List (Addr×Obj)}{A':Around}{gP:Bool}{xe':Value->Shared->Prop}(I:Inv X pins σ H s)(hA:A'.frames=X.A.frames)(hcalm:gP=true->A'.handled=none)(hp:∀p∈pn'++gd,p∈X.pn++pins):
    Inv { X with pn:=pn',A:=A',calm:=gP,xe:=xe' } gd σ H s :=
  ⟨⟨I.ok.mod,I.ok.kind,I.ok.glob,I.ok.blt,I.ok.above,I.ok.inj,I.ok.has,I.ok.cab,hcalm,hA.trans I.ok.frames,I.ok.stk,I.ok.exf,I.ok.bs,I.ok.bsz,I.ok.jK,I.ok.qJ,I.ok.iX,I.ok.frf⟩,
    I.os,I.bare,I.base,I.loc,I.cell,I.free,I.d9,fun p q=>I.pin p (hp p q),I.hok,I.len⟩
theorem Inv.uC {pn':List (Addr×Obj)}{A':Around}{gP:Bool}{xe':Value->Shared->Prop}(I:Inv { X with pn:=pn',A:=A',calm:=gP,xe:=xe' } gd σ H s)(hA:A'.frames=X.A.frames)(hcalm:X.calm=true->X.A.handled=none)(hp:∀p∈X.pn++pins,p∈pn'++gd):
    Inv X pins σ H s :=
  ⟨⟨I.ok.mod,I.ok.kind,I.ok.glob,I.ok.blt,I.ok.above,I.ok.inj,I.ok.has,I.ok.cab,hcalm,hA.symm.trans I.ok.frames,I.ok.stk,I.ok.exf,I.ok.bs,I.ok.bsz,I.ok.jK,I.ok.qJ,I.ok.iX,I.ok.frf⟩,
    I.os,I.bare,I.base,I.loc,I.cell,I.free,I.d9,fun p q=>I.pin p (hp p q),I.hok,I.len⟩
theorem Inv.flew (I:Inv X pins σ H s)(ha:H a=none)(na:X.s₀.heap.get? a=none)(hT:∀T,hd=.ref T->H T=none/\X.s₀.heap.get? T=none)(fl:jm s.heap a cls dct hd)(hp:∀p∈X.pn++pins,p.1≠a/\hd≠.ref p.1)
    (keep:∀b o,b≠a->hd≠.ref b->b∉frs X.stack->s.heap.get? b=some o->h'.get? b=some o)
    (slot:∀b o,b∈frs X.stack->s.heap.get? b=some o->∃sl,h'.get? b=some { o with slots:=sl }) {t':Nat}:Inv X pins σ H { s with heap:=h',toks:=t' }:=by
  obtain⟨oe,vs,he,_,_,hdt,_,hc⟩:=fl
  have fT:∀T,hd=.ref T->∃o ts,s.heap.get? T=some o/\o.data=.fields ts:=fun T z=>by
    rcases hc with q | ⟨T',oT,ts,q,_,q2,q3,_⟩
    · rw[z] at q;cases q
    · rw[z] at q;cases q;exact⟨_,_,q2,q3⟩
  have off:∀b o,s.heap.get? b=some o->(∀ws,o.data≠.fields ws)->b≠a/\hd≠.ref b:=fun b o e hn=>⟨fun z=>(by rw[z,he] at e;cases e;exact hn vs hdt),fun z=>by
    obtain⟨o',ts,q1,q2⟩:=fT b z
    rw[q1] at e;cases e;exact hn ts q2⟩
  have s0:∀b o,X.s₀.heap.get? b=some o->b≠a/\hd≠.ref b:=fun b o e=>⟨fun z=>(by rw[z,na] at e;cases e),fun z=>(by rw[(hT b z).2] at e;cases e)⟩
  have s0L:∀b o,X.s₀.heap.get? b=some o->b∈frs X.stack->b∈X.fs:=fun b o e hb=>by
    rcases List.mem_cons.mp (I.eY b hb) with z | z
    · rw[z] at e
      exact absurd (Nat.lt_of_lt_of_le (Heap.lt_size e) I.ok.above) (Nat.lt_irrefl _)
    · exact z
  have any:∀b o,s.heap.get? b=some o->b≠a->hd≠.ref b->∃sl,h'.get? b=some { o with slots:=sl }:=fun b o e n1 n2=>by
    by_cases hb:b∈frs X.stack
    · exact slot b o hb e
    · exact⟨o.slots,keep b o n1 n2 hb e⟩
  have rd:∀b,b∈X.fs->b∈frs X.stack:=fun b hb=>by
    rcases I.ok.stk with z | ⟨z,_⟩
    · rw[z];exact hb
    · rw[z];exact nQ hb
  refine⟨I.ok,I.os,I.bare,⟨fun b o e n hb hx=>?_,fun b o e n hb hx=>?_,fun b o e n hx=>I.base.free b o e n hx,fun b o e hx=>?_,I.base.tups,I.base.h_,I.base.iW⟩,?_,fun y c e=>?_,I.free,I.d9,fun p q=>?_,nR I keep ha fun T z=>(hT T z).1,I.len⟩
  · exact keep b o (s0 b o e).1 (s0 b o e).2 (fun z=>hb (s0L b o e z)) (I.base.keep b o e n hb hx)
  · obtain⟨sl,e1⟩:=I.base.slot b o e n hb hx
    obtain⟨sl',e2⟩:=slot b _ (rd b hb) e1
    exact⟨sl',e2⟩
  · obtain⟨o1,e1⟩:=I.base.there b o e hx
    obtain⟨sl,e2⟩:=any b o1 e1 (s0 b o e).1 (s0 b o e).2
    exact⟨_,e2⟩
  · obtain⟨m,⟨o,es,ep,ho,hd',r⟩,hl⟩:=I.loc
    have nf:=off _ o ho fun ws z=>by rw[hd'] at z;cases z
    obtain⟨sl,e2⟩:=any _ o ho nf.1 nf.2
    refine⟨m,⟨_,es,ep,e2,hd',r⟩,fun i x v q1 q2 q3=>?_⟩
    obtain⟨u,r1,l⟩:=hl i x v q1 q2 q3
    refine⟨u,r1,?_⟩
    rcases l with l | ⟨k,c,e,oc,hoc,hcd⟩
    · exact .inl l
    · have nf:=off c oc hoc fun ws z=>by rw[hcd] at z;cases z
      obtain⟨sl,e3⟩:=any c oc hoc nf.1 nf.2
      exact .inr ⟨k,c,e,_,e3,hcd⟩
  · obtain⟨v,oc,hoc,hcd⟩:=I.cell y c e
    have nf:=off c oc hoc fun ws z=>by rw[hcd] at z;cases z
    obtain⟨sl,e3⟩:=any c oc hoc nf.1 nf.2
    exact⟨v,_,e3,hcd⟩
  · obtain⟨e,n,ne,nf,d⟩:=I.pin p q
    refine⟨keep p.1 p.2 (hp p q).1 (hp p q).2 (fun z=>?_) e,n,ne,nf,d⟩
    rcases List.mem_cons.mp (I.eY p.1 z) with z | z
    · exact ne z
    · exact nf z
def exO (a:Addr)(cls:Value)(dct:Option Addr): HO:=.ext fun h=>∃oe vs,h.get? a=some oe/\oe.cls=cls/\oe.dict=dct/\oe.data=.fields vs
theorem Inv.track (I:Inv X pins σ H s)(ha:H a=none)(na:X.s₀.heap.get? a=none)(hp:∀p∈X.pn++pins,p.1≠a)(fl:jm s.heap a cls dct hd): Inv X pins σ (upd H a (exO a cls dct)) s:=by
  obtain⟨oe,vs,he,f1,f2,hdt,_,_⟩:=fl
  have off:∀b o,s.heap.get? b=some o->(∀ws,o.data≠.fields ws)->b≠a:=fun b o e hn z=>by rw[z,he] at e;cases e;exact hn vs hdt
  have tr:∀b u,H b=some u->upd H a (exO a cls dct) b=some u:=fun b u q=>by rw[au (aw q ha)];exact q
  refine⟨I.ok,I.os,I.bare,⟨I.base.keep,I.base.slot,fun b o e n hx=>?_,I.base.there,fun b xs e=>tr b _ (I.base.tups b xs e),fun b o u e=>tr b _ (I.base.h_ b o u e),fun b ps e=>?_⟩,I.loc,I.cell,?_,fun y c e=>?_,fun p q=>?_,fun b u e=>?_,I.len⟩
  · rw[au (fun z=>(by rw[z,na] at e;cases e))]
    exact I.base.free b o e n hx
  · obtain⟨more,q⟩:=I.base.iW b ps e
    exact⟨more,tr b _ q⟩
  · obtain⟨m,⟨o,es,ep,ho,hd',r⟩,_⟩:=I.loc
    rw[au (off _ o ho fun ws z=>(by rw[hd'] at z;cases z))]
    exact I.free
  · obtain⟨v,oc,hoc,hcd⟩:=I.cell y c e
    rw[au (off c oc hoc fun ws z=>(by rw[hcd] at z;cases z))]
    exact I.d9 y c e
  · obtain⟨e,n,r⟩:=I.pin p q
    exact⟨e,by rw[au (hp p q)];exact n,r⟩
  · by_cases hb:b=a
    · subst hb
      rw[ai] at e
      cases e
      exact⟨⟨oe,vs,he,f1,f2,hdt⟩,⟨_,he⟩,fun h1 h2 ⟨o',ws,q1,q2⟩ k=>⟨o',ws,k _ q1,q2⟩⟩
    · rw[au hb] at e
      exact(I.hok b u e).stay (fun _ _ _ q=>q) (fun c q=>tr c _ q) fun c xs q=>tr c _ q
end
theorem lW {M:Model}{A:Around}{E:Value->Shared->Prop}{s:Shared}{K:W.Frag}{e D:Addr}{oe:Obj}{C:Addr}{b:Bool}{Q:Bool->Shared->Prop}(X:K.In s.heap)(he:s.heap.get? e=some oe)(hc:oe.cls=.ref C)
    (hD:kT K D) (hsub:W.mroIn K C (.ref D)=some b) (h:Q b s):wpAny M A (excMatches (.ref e) (.ref D)) Q E s:=by
  obtain⟨bm,N,nm,qn,bs,hdct,sn,sub,ab,col,dd,k0,k1,k2,k3,k5,f1,f2,f3,f4⟩:=hD.obj
  have hD0:=X _ _ f4
  have L:=W.looks_mroIn (M:=M) X hsub
  obtain⟨hp,g,d,tk,os⟩:=s
  have hcB:(Value.ref D::bm).contains (.type "BaseException")=true:=by rw[List.contains_cons,(W.tail_of_in X f3).hasType (show bmV.contains (.type "BaseException")=true by decide +kernel),Bool.or_true]
  have ft:=tc_notTuple
  unfold excMatches
  repeat (first | (with_reducible refine wpAny_loadPart_at he ?_;rw[hc]) | with_reducible refine wpAny_loadPart_at hD0 ?_ | (with_reducible refine wpAny_isSubtype_exc hD0 ?_;rw[hcB]) | (with_reducible refine L.at ?_) | wp_step)
  cases b<;>(try wp_walk)<;>exact h
def qd (i:Nat)(D:Ends): Ends:={ nx:=fun σ H=>D.nx (σ.set i none) H,rt:=D.rt,bk:=fun σ H=>D.bk (σ.set i none) H,ct:=fun σ H=>D.ct (σ.set i none) H }
def sU (K:W.Frag)(D:Addr)(i:Nat)(tb:(St->XK)->TS)(ts:TS): TS:=fun Dn σ H =>
  tb (fun σ' cls dct H'=>∃C,cls=.ref C/\W.mroIn K C (.ref D)=some true/\∀a,H' a=none->ts (qd i Dn) (σ'.set i (some (.ref a))) (upd H' a (exO a (.ref C) dct))) Dn σ H
theorem kz {X:Cx}{body suite:List Stmt}{b₀:Stmt}{x n:Str}{np hpos pos:Pos}{D:Addr}{i:Nat}{tb:(St->XK)->TS}{ts:TS}
    (hc:X.calm=true) (hex:X.ex=[]) (hst:X.stack=X.env::X.outer) (hfr:X.env.frame=some X.env.locals) (hD:kT X.K D) (hg:Gl X x) (hm:X.mg x=some (.ref D))
    (hN:X.N.Nodup) (hi:X.N[i]?=some n) (hl:X.env.scope.names.lookup n=some .local)
    (hb:∀(pn:List (Addr×Obj)) (xe:Value->Shared->Prop) (EX:St->XK),bG (CXE X.prog X.w) { X with pn:=pn,xe:=xe } EX->PSs { X with pn:=pn,xe:=xe } body (tb EX))
    (hs:∀(pn:List (Addr×Obj)) (A':Around) (xe:Value->Shared->Prop),PSs { X with pn:=pn,A:=A',calm:=false,xe:=xe } (b₀::suite) ts) (hdb:(x==("__debug__" : Str))=false:=by decide) :
    PS X (.Try body [.ExceptHandler (some (.Name x np)) (some n) (b₀::suite) hpos] [] [] pos) (sU X.K D i tb ts):=by
  intro pins s σ H Dn I h
  have hh:=I.ok.hd hc
  refine wpAny_Try_except ?_
  have back:∀{xe:Value->Shared->Prop} {σ':St} {H':Hp} {s':Shared},Inv { X with pn:=X.pn++pins,xe:=xe } [] σ' H' s'->Inv X pins σ' H' s':=fun {xe σ' H' s'} J =>
    Inv.uC (A':=X.A) (gP:=X.calm) J rfl (fun _=>hh) fun p q=>by simpa using q
  refine wpAny_mono (hb (X.pn++pins) (fun e s₁=>wpAny (model X.prog X.w) X.A (noteFrame e X.env) (fun _ s₂=>wpAny (model X.prog X.w) X.A (setFlight e none) (fun _ s₃ =>
      wpAny (model X.prog X.w) X.A (handleBy e X.env [.ExceptHandler (some (.Name x np)) (some n) (b₀::suite) hpos]) (SP X pins Dn) X.xe s₃) X.xe s₂) X.xe s₁) _ ?_ [] s σ H Dn
      (Inv.sT (A':=X.A) (gP:=X.calm) I rfl (fun _=>hh) fun p q=>by simpa using q) h) (fun f s1 q=>?_) fun _ _ z=>z
  · intro jn σ2 H2 s2 e s3 I2 hx
    obtain⟨a,cls,dct,H3,he,hos,hgn,un,hok,⟨hd,fl,ha,na,hT⟩,C,hcls,hsub,q⟩:=hx
    subst he
    subst hcls
    have I3:=I2.call' hos un hok hgn (fun b z=>absurd z (by simp))
    have na0:=fU I2 hex na
    have hT0:∀T,hd=.ref T->H3 T=none/\X.s₀.heap.get? T=none:=fun T z=>⟨(hT T z).1,by have q:=fU I2 hex (hT T z).2;exact q⟩
    have hp3:∀p∈(X.pn++pins)++jn,p.1≠a/\hd≠.ref p.1:=fun p z=>by
      have e:=(I2.pin p z).1
      exact⟨fun w=>(by rw[w,na] at e;cases e),fun w=>(by rw[(hT _ w).2] at e;cases e)⟩
    refine lV (env:=X.env) (outer:=X.outer) (by have:=I.ok.frames;rw[hst] at this;exact this) (by have:=I3.stack;rw[show Cx.stack _=X.env::X.outer from hst] at this;exact this) hfr fl fun h4 T n1 n2 k1 k2 fl4=>?_
    have I4:Inv _ jn σ2 H3 { s3 with heap:=h4,toks:=s3.toks }:=I3.flew ha na0 hT0 fl hp3 (fun b o m1 m2 m3 e=>k1 b o m1 m2 (by rw[<-hst];exact m3) e) (fun b o m1 e=>k2 b o (by rw[<-hst];exact m1) e)
    have nT4:H3 T=none:=mK I3 n1
    have nT0:=fU I3 hex n1
    have hp4:∀p∈(X.pn++pins)++jn,p.1≠a/\(Value.ref T:Value)≠.ref p.1:=fun p z=>⟨(hp3 p z).1,fun w=>by
      have e:=(I3.pin p z).1
      cases w
      rw[n1] at e;cases e⟩
    obtain⟨oe,vs,g1,g2,_⟩:=id fl4
    have J40:=Inv.sT (A':=X.A.mark (some (.ref a))) (gP:=false) (pn':=X.pn++pins) (gd:=jn) (xe':=fun _ _=>True) I4 rfl (fun z=>nomatch z) (fun p q=>q)
    have J4:Inv { X with pn:=X.pn++pins,A:=X.A.mark (some (.ref a)),calm:=false,xe:=fun _ _=>True } jn σ2 H3 { s3 with heap:=h4 }:=J40
    refine wpAny_handleBy_cons (codeAny_handlers_test ?_) (by intro z;cases z)
    refine fR (X:={ X with pn:=X.pn++pins,A:=X.A.mark (some (.ref a)),calm:=false,xe:=fun _ _=>True }) J4 hg hm ?_ hdb
    refine lW J4.kIn g1 g2 hD hsub ?_
    refine codeAny_handlers_suite_as (p7 fl4 fun h5 k5 fl5=>?_)
    have J5:=J4.flew (h':=h5) (t':=s3.toks) ha na0 (fun T' z=>by cases z;exact⟨nT4,nT0⟩) fl4 hp4 (fun b o _ m2 _ e=>k5 b o (fun z=>m2 (by rw[z])) e) (fun b o m1 e=>by
      refine⟨o.slots,k5 b o (fun z=>?_) e⟩
      obtain⟨_,o',ho',hn⟩:=J4.stack.mem m1
      obtain⟨oe',vs',_,_,_,_,_,hcc⟩:=id fl4
      rcases hcc with w | ⟨T',oT,ts',w,_,w2,w3,_⟩
      · cases w
      · cases w
        rw[z,w2] at ho'
        cases ho'
        exact hn _ w3)
    have J6:=J5.track ha na0 (fun p z=>(hp4 p z).1) fl5
    refine jd (X:={ X with pn:=X.pn++pins,A:=X.A.mark (some (.ref a)),calm:=false,xe:=fun _ _=>True }) (v:=.ref a) J6 hN hi (.inl hl) rfl (fun s7 J7=>?_) (.inr hl)
    refine wpAny_mono ((hs (X.pn++pins) (X.A.mark (some (.ref a))) _) jn s7 _ _ (qd i Dn) (Inv.sT (X:={ X with pn:=X.pn++pins,A:=X.A.mark (some (.ref a)),calm:=false,xe:=fun _ _=>True }) (A':=X.A.mark (some (.ref a))) (gP:=false) (pn':=X.pn++pins) J7 rfl (fun z=>nomatch z) fun p q=>q) (q a ha)) (fun f s8 w=>?_) fun _ _ z=>z
    have fin:∀{xe:Value->Shared->Prop} {σ':St} {H':Hp} {Q':Unit->Shared->Prop},Inv { X with pn:=X.pn++pins,A:=X.A.mark (some (.ref a)),calm:=false,xe:=xe } jn σ' H' s8->(∀s9,Inv X pins (σ'.set i none) H' s9->Q' () s9) ->
        wpAny (model X.prog X.w) X.A (do bindName X.env n .none;unbindBehindTheSuite X.env n hpos) Q' X.xe s8:=fun {xe σ' H' Q'} J k=>by
      have J':Inv X pins σ' H' s8:=Inv.uC (A':=X.A.mark (some (.ref a))) (gP:=false) J rfl (fun _=>hh) fun p q=>by simp;rcases List.mem_append.mp q with z | z<;>simp[z]
      obtain⟨m,hn,hlo⟩:=J'.loc
      refine wpAny_nameGoes_keeps hl hn (by rw[J'.ok.kind];rfl) fun h9 v hn9 sb=>k _ ?_
      have J8:Inv X pins σ' H' { s8 with toks:=s8.toks+1 }:=J'.tok _
      obtain⟨oL,_,_,hoL,_⟩:=id hn
      have cne:=J'.cne
      have oth:∀b o,b≠X.env.locals->s8.heap.get? b=some o->h9.get? b=some o:=fun b o nb e=>(sb.2 b nb).trans e
      refine⟨J'.ok,J'.os,J'.bare,⟨fun b o e n hb hx=>?_,fun b o e n hb hx=>?_,J'.base.free,fun b o e hx=>?_,J'.base.tups,J'.base.h_,J'.base.iW⟩,⟨_,hn9,fun j y v' e1 e2 e3=>?_⟩,fun y c e=>?_,J'.free,J'.d9,fun p hp=>?_,fun b ob e=>?_,by simpa using J'.len⟩
      · exact oth b o (Nat.ne_of_lt (Nat.lt_of_lt_of_le (Heap.lt_size e) J'.ok.above)) (J'.base.keep b o e n hb hx)
      · obtain⟨sl,e1⟩:=J'.base.slot b o e n hb hx
        exact⟨sl,oth b _ (Nat.ne_of_lt (Nat.lt_of_lt_of_le (Heap.lt_size e) J'.ok.above)) e1⟩
      · obtain⟨o',e1⟩:=J'.base.there b o e hx
        exact⟨o',oth b _ (Nat.ne_of_lt (Nat.lt_of_lt_of_le (Heap.lt_size e) J'.ok.above)) e1⟩
      · by_cases hj:j=i
        · subst hj
          rw[List.getElem?_set_self (by rw[J'.len];exact(List.getElem?_eq_some_iff.mp hi).1)] at e2
          cases e2
        · rw[List.getElem?_set_ne (Ne.symm hj)] at e2
          obtain⟨u',r',w'⟩:=hlo j y v' e1 e2 e3
          refine⟨u',r',?_⟩
          rcases w' with ⟨k',e⟩ | ⟨k',c,e,z⟩
          · refine .inl ⟨k',?_⟩
            have:y≠n:=fun e=>hj (jc hN e1 (e ▸ hi))
            simp[this,e]
          · exact .inr ⟨k',c,e,z.sameBut sb (cne y c e)⟩
      · obtain⟨w',z⟩:=J'.cell y c e
        exact⟨w',z.sameBut sb (cne y c e)⟩
      · obtain⟨e,n,ne,nf,d⟩:=J'.pin p hp
        exact⟨oth p.1 _ ne e,n,ne,nf,d⟩
      · refine(J'.hok b ob e).stay (fun c w' hc q=>oth c w' ?_ q) (fun _ q=>q) fun _ _ q=>q
        rintro rfl
        rcases hc with rfl | hc
        · rw[J'.free] at e;cases e
        · rw[J'.free] at hc;cases hc
    cases f with
    | next=>obtain⟨σ',H',J,d⟩:=w;exact fin J fun s9 J9=>⟨_,H',J9,d⟩
    | brk=>obtain⟨σ',H',J,d⟩:=w;exact fin J fun s9 J9=>⟨_,H',J9,d⟩
    | cont=>obtain⟨σ',H',J,d⟩:=w;exact fin J fun s9 J9=>⟨_,H',J9,d⟩
    | ret u=>obtain⟨v,σ',H',J,r,d⟩:=w;exact fin J fun s9 J9=>⟨v,_,H',J9,r,d⟩
  · cases f with
    | next=>obtain⟨σ',H',J,d⟩:=q;exact wpAny_execs_nil ⟨σ',H',back J,d⟩
    | brk=>obtain⟨σ',H',J,d⟩:=q;exact⟨σ',H',back J,d⟩
    | cont=>obtain⟨σ',H',J,d⟩:=q;exact⟨σ',H',back J,d⟩
    | ret u=>obtain⟨v,σ',H',J,r,d⟩:=q;exact⟨v,σ',H',back J,r,d⟩
end L2

set_option maxHeartbeats 4000000
namespace L2
open PySem PySem.Spec PyProof.Rows PyProof.V PySem.SeqAt
mutual
inductive iZ (K:W.Frag)(H:Hp): V->PyData->Prop
  | non:iZ K H .non .none
  | bl (b:Bool):iZ K H (.bl b) (.bool b)
  | int (i:Int):iZ K H (.int i) (.int i)
  | str (x:Str):iZ K H (.str x) (.str x)
  | lst {a:Addr} {xs:List V} {ds:List PyData}:SqL K H a xs->DatAll K H xs ds->iZ K H (.ref a) (.list ds)
  | tup {a:Addr} {xs:List V} {ds:List PyData}:SqT K H a xs->DatAll K H xs ds->iZ K H (.ref a) (.tuple ds)
inductive DatAll (K:W.Frag)(H:Hp): List V->List PyData->Prop
  | nil:DatAll K H [] []
  | cons {x:V} {xs:List V} {d:PyData} {ds:List PyData}:iZ K H x d->DatAll K H xs ds->DatAll K H (x::xs) (d::ds)
end
theorem fi (K:W.Frag)(H:Hp): ∀ns:List Int,DatAll K H (ns.map V.int) (ns.map PyData.int)
  | []=>.nil
  | n::r=>.cons (.int n) (fi K H r)
section
variable {X:Cx}{pins:List (Addr×Obj)}{σ:St}{H:Hp}{s:Shared}
mutual
theorem iZ.reads (I:Inv X pins σ H s){v:V}{d:PyData}(h:iZ X.K H v d){u:Value}(r:RelV v u): ∃as,Reads s.heap u d as:=by
  cases h with
  | non=>cases r;exact⟨_,.none⟩
  | bl b=>cases r;exact⟨_,.bool b⟩
  | int i=>obtain⟨t,rfl⟩:=r;exact⟨_,.int i t⟩
  | str x=>obtain⟨t,rfl⟩:=r;exact⟨_,.str x t⟩
  | lst hq ha =>
    cases r
    obtain⟨its,rv,⟨o,n,e,c,_,dd⟩,_⟩:=I.list hq
    obtain⟨as,q⟩:=DatAll.reads I ha rv
    exact⟨_,.list e c dd (by simpa using q)⟩
  | tup hq ha =>
    cases r
    obtain⟨its,rv,⟨o,e,c,n,dd⟩,_⟩:=I.tuple hq
    obtain⟨as,q⟩:=DatAll.reads I ha rv
    exact⟨_,.tuple e c dd (by simpa using q)⟩
theorem DatAll.reads (I:Inv X pins σ H s){vs:List V}{ds:List PyData}(h:DatAll X.K H vs ds){us:List Value}(r:Vals vs us): ∃as,ReadsAll s.heap us ds as:=by
  cases h with
  | nil=>cases r;exact⟨_,.nil⟩
  | cons h1 h2 =>
    cases r with
    | cons r1 r2 =>
      obtain⟨a1,q1⟩:=iZ.reads I h1 r1
      obtain⟨a2,q2⟩:=DatAll.reads I h2 r2
      exact⟨_,.cons q1 q2⟩
end
def sV (K:W.Frag): R2:=fun x y H Q=>∃d d',iZ K H x d/\iZ K H y d'/\shaped d=true/\shaped d'=true/\noMix d d'=true/\Q (.bl (same d d')) H
theorem mM (hu:X.A.units+64 < cLine): OpR X (compareOp .Eq) (sV X.K):=by
  intro pins s σ H x y v u Q I rx ry h
  obtain⟨d,d',h1,h2,s1,s2,nm,q⟩:=h
  obtain⟨_,r1⟩:=h1.reads I rx
  obtain⟨_,r2⟩:=h2.reads I ry
  exact eq_dataH_same r1 r2 s1 s2 hu nm ⟨.bl _,H,I,rfl,q⟩
theorem ip {K:W.Frag}{a b:Addr}{ns ms:List Int}{Q:VK}(h1:SqL K H a (ns.map V.int))(h2:SqL K H b (ms.map V.int))(q:Q (.bl (decide (ns=ms))) H): sV K (.ref a) (.ref b) H Q :=
  ⟨_,_,.lst h1 (fi K H ns),.lst h2 (fi K H ms),W.shaped_ints ns,W.shaped_ints ms,by simp only [noMix];exact W.noMix_ints ns ms,by simp only [PySem.Spec.same];rw[W.same_ints];exact q⟩
theorem er:∀{ns:List Int} {us:List Value},Vals (ns.map V.int) us->IntsAre us ns
  | [],_,r=>by cases r;exact .nil
  | n::ns,_,r=>by
    rw[List.map_cons] at r
    cases r with
    | cons r1 r2 =>
      obtain⟨t,rfl⟩:=r1
      exact .cons n t (er r2)
theorem Inv.listI (I:Inv X pins σ H s){a:Addr}{ns:List Int}(h:SqL X.K H a (ns.map V.int)): ∃vs:List Value,s.heap.IsList a vs.toArray/\IntsAre vs ns/\ns.length<=sizeLine:=by
  obtain⟨its,rv,p,hz⟩:=I.list h
  exact⟨its,p.isList,er rv,by simpa using hz⟩
end
theorem rg {M:Model}{A:Around}{m:Sem Unit}{Q:Unit->Shared->Prop}{E:Value->Shared->Prop}{s:Shared}(h:m=pure ())(q:Q () s): wpAny M A m Q E s:=by rw[h];exact wpAny_pure q
theorem kA {prog:Program}{w:World}{A:Around}{E:Value->Shared->Prop}{s:Shared}{K:W.Frag}{x D:Addr}{oe:Obj}{od:Option Obj}{Q:Option Value->Shared->Prop}(X:K.In s.heap)(I:W.InstAt s.heap x oe D od)
    (hga:W.findIn K (.ref D) "__getattribute__" = some (some (.builtin "BaseException.__getattribute__"))) (hno:W.findIn K (.ref D) "__getattr__" = some none) (hb:W.mroIn K D (.type "BaseException")=some true)
    (hm:W.mroIn K D (.type "object")=some true) (hf:W.findObj K D od "__class__" = some (.bind (.builtin "getset_descriptor.__get__") (.builtin "object.__class__"))) (h:Q (some (.ref D)) { s with toks:=s.toks+1 }) :
    wpAny (model prog w) A (getAttr? (.ref x) "__class__") Q E s:=by
  obtain⟨hh,g,d,t,os⟩:=s
  have L0:=I.type (M:=model prog w)
  have L1:=W.looks_findIn (M:=model prog w) X hga
  have L2:=W.looks_findIn (M:=model prog w) X hno
  have L3:=W.looks_mroIn (M:=model prog w) X hb
  have L4:=W.looks_find (M:=model prog w) X I hf
  unfold getAttr? getAttrBy? getAttrBy
  refine wpAny_bind (wpAny_mkText (wpAny_bind (wpAny_attempt (wpAny_holding (wpAny_bind (L0.at (wpAny_bind (L1.at ?_))))))))
  show wpAny _ _ (getAttrByItsOwn _ _ _ _ _ _) _ _ _
  unfold getAttrByItsOwn
  refine wpAny_bind (show wpAny _ _ (typeLookup (.ref D) "__getattr__") _ _ _ from L2.at ?_)
  refine wpAny_bind (wpAny_attempt (wpAny_holding ?_))
  show wpAny _ _ (boundAndCalled _ _ _) _ _ _
  unfold boundAndCalled
  rw[PySem.F.excAttr_ValueError.ga.bind]
  refine wpAny_bind (wpAny_pure ?_)
  show wpAny _ _ (call (.builtin "BaseException.__getattribute__") [.ref x,.str "__class__" _]) _ _ _
  have hk:builtinKind "BaseException.__getattribute__" = some .slot:=by decide +kernel
  have hsplit:splitId "BaseException.__getattribute__" = some ("BaseException", "__getattribute__"):=by decide +kernel
  refine wpAny_call (codeAny_call_builtin PySem.F.excAttr_ValueError.ga.plain PySem.F.entry_bexc_ga ?_)
  have ha:=PySem.F.args_bexc_ga (.ref x) (.str "__class__" t)
  simp only [checkBuiltinCall,hk,hsplit]
  refine wpAny_bind ?_
  unfold isInstance
  refine wpAny_bind (L0.at (L3.at ?_))
  rw[if_neg (by decide)]
  refine rg ha ?_
  unfold Builtin.«object.__getattribute__»
  refine wpAny_bind ?_
  refine wpAny_pure ?_
  dsimp only
  refine wpAny_bind (wpAny_pure (wpAny_bind (L0.at (wpAny_bind (L4.at ?_)))))
  dsimp only
  show wpAny _ _ (holding [.builtin "object.__class__"] (call (.builtin "getset_descriptor.__get__") [.builtin "object.__class__",.ref x,.ref D]) >>= ret) _ _ _
  refine wpAny_bind (wpAny_holding (wpAny_call (W.class_get (s:=⟨hh,g,d,t+1,os⟩) (ox:=oe) (od:=od) X I hm ?_)))
  refine wpAny_pure ?_
  exact W.handed_on rfl (wpAny_pure h)
structure XIs (K:W.Frag)(C:Addr): Prop where
  hga:W.findIn K (.ref C) "__getattribute__" = some (some (.builtin "BaseException.__getattribute__"))
  hno:W.findIn K (.ref C) "__getattr__" = some none
  hb:W.mroIn K C (.type "BaseException")=some true
  hd:W.hasDictIn K C=true
  ha:W.findIn K (.ref C) "__class__" = some (some (.builtin "object.__class__"))
  hm:W.mroIn K C (.type "object")=some true
structure IsK (K:W.Frag): Prop where
  hn:W.specialIn K (.builtin "object.__class__") "__get__" = some (some (.builtin "getset_descriptor.__get__"))
  htk:W.takesIn K (.builtin "object.__class__")=some true
inductive TyE (K:W.Frag)(H:Hp): V->Value->Prop where
  | of {x:V} {t:Value} (h:az K H x t):TyE K H x t
  | exc {a C:Addr} (e:H a=some (exO a (.ref C) none)) (x:XIs K C) (k:IsK K):TyE K H (.ref a) (.ref C)
  | vN {a C d:Addr} {φ:Heap->Prop} (e:H a=some (exO a (.ref C) (some d))) (e2:H d=some (.ext φ)) (x:XIs K C) (k:IsK K):TyE K H (.ref a) (.ref C)
def oV:V->Value
  | .ref a=>.ref a
  | .ty n=>.type n
  | _=>.none
def iq:V->Bool
  | .ref _=>true
  | .ty _=>true
  | _=>false
theorem nS {c:V}{u:Value}(h:iq c=true)(r:RelV c u): u=oV c:=by
  cases c<;>first | exact r | exact absurd (show false=true from h) Bool.false_ne_true
theorem qe {K:W.Frag}{x D:Addr}(q:XIs K D)(k:IsK K): W.KitX K (.ref x) (.ref D) (fun h=>∃oe vs,h.get? x=some oe/\oe.cls=.ref D/\oe.dict=none/\oe.data=.fields vs) where
  ty:=fun M h _ p=>by
    obtain⟨oe,vs,h1,h2,_⟩:=p
    exact h2 ▸ (W.Looks.ld h1).andThen .now
  it:=fun _ _ X _=>by
    obtain⟨cdD,hcD,_⟩:=W.any_some q.hd
    unfold W.clsIn at hcD
    split at hcD
    · next ho =>
      intro A' Q' E' s' k q
      unfold isType loadHead
      exact wpAny_bind (wpAny_loadPart (k _ _ (X _ _ ho)) (wpAny_pure q))
    · cases hcD
  ne:=fun h tp dd its n sl X htp=>by
    obtain⟨cdD,hcD,_⟩:=W.any_some q.hd
    refine Bool.eq_false_iff.mpr fun z=>?_
    have e:D=tp:=Value.ref.inj (beq_iff_eq.mp z)
    subst e
    unfold W.clsIn at hcD
    split at hcD
    · next ho =>
      have z:=(X _ _ ho).symm.trans htp
      cases z
    · cases hcD
  ca:=fun {prog w A E Q s} X p hq=>by
    obtain⟨oe,vs,h1,h2,h3,h4⟩:=p
    have I:W.InstAt s.heap x oe D none:=⟨h1,h2,by unfold W.notCls;rw[h4],by rw[h3];trivial⟩
    have hf:W.findObj K D none "__class__" = some (.bind (.builtin "getset_descriptor.__get__") (.builtin "object.__class__")):=by
      obtain⟨cd,hc,_⟩:=W.any_some q.hd
      unfold W.findObj
      rw[hc,Option.bind_some,q.ha,Option.bind_some]
      simp[k.hn,k.htk]
    exact kA X I q.hga q.hno q.hb q.hm hf hq
theorem oW {K:W.Frag}{x D dx:Addr}(q:XIs K D)(k:IsK K): W.KitX K (.ref x) (.ref D) (fun h=>(∃oe vs,h.get? x=some oe/\oe.cls=.ref D/\oe.dict=some dx/\oe.data=.fields vs)/\∃od,h.get? dx=some od) where
  ty:=fun M h _ p=>by
    obtain⟨⟨oe,vs,h1,h2,_⟩,_⟩:=p
    exact h2 ▸ (W.Looks.ld h1).andThen .now
  it:=fun _ _ X _=>by
    obtain⟨cdD,hcD,_⟩:=W.any_some q.hd
    unfold W.clsIn at hcD
    split at hcD
    · next ho =>
      intro A' Q' E' s' k q
      unfold isType loadHead
      exact wpAny_bind (wpAny_loadPart (k _ _ (X _ _ ho)) (wpAny_pure q))
    · cases hcD
  ne:=fun h tp dd its n sl X htp=>by
    obtain⟨cdD,hcD,_⟩:=W.any_some q.hd
    refine Bool.eq_false_iff.mpr fun z=>?_
    have e:D=tp:=Value.ref.inj (beq_iff_eq.mp z)
    subst e
    unfold W.clsIn at hcD
    split at hcD
    · next ho =>
      have z:=(X _ _ ho).symm.trans htp
      cases z
    · cases hcD
  ca:=fun {prog w A E Q s} X p hq=>by
    obtain⟨⟨oe,vs,h1,h2,h3,h4⟩,od,h5⟩:=p
    have I:W.InstAt s.heap x oe D (some od):=⟨h1,h2,by unfold W.notCls;rw[h4],by rw[h3];exact h5⟩
    have hf:W.findObj K D (some od) "__class__" = some (.bind (.builtin "getset_descriptor.__get__") (.builtin "object.__class__")):=by
      obtain⟨cd,hc,_⟩:=W.any_some q.hd
      unfold W.findObj
      rw[hc,Option.bind_some,q.ha,Option.bind_some]
      simp[k.hn,k.htk]
    exact kA X I q.hga q.hno q.hb q.hm hf hq
section
variable {X:Cx}
theorem nU {pins:List (Addr×Obj)}{σ:St}{H:Hp}{s:Shared}{x:V}{u t:Value}(I:Inv X pins σ H s)(rx:RelV x u)(ty:TyE X.K H x t): ∃P:Heap->Prop,W.KitX X.K u t P/\P s.heap/\u≠.builtin "__main__.__loader__#opaque" := by
  cases ty with
  | exc e q k =>
    cases rx
    exact⟨_,qe q k,(I.hok _ _ e).1,fun z=>nomatch z⟩
  | vN e e2 q k =>
    cases rx
    exact⟨_,oW q k,⟨(I.hok _ _ e).1,(I.hok _ _ e2).2.1⟩,fun z=>nomatch z⟩
  | of h =>
    cases h with
    | non=>cases (show u=Value.none from rx);exact⟨_,W.kitx_none,trivial,fun z=>nomatch z⟩
    | bl y=>cases (show u=Value.bool y from rx);exact⟨_,W.kitx_bool,trivial,fun z=>nomatch z⟩
    | int i=>obtain⟨t,q⟩:=(show ∃t,u=Value.int i t from rx);cases q;exact⟨_,W.kitx_int,trivial,fun z=>nomatch z⟩
    | str y=>obtain⟨t,q⟩:=(show ∃t,u=Value.str y t from rx);cases q;exact⟨_,W.kitx_str,trivial,fun z=>nomatch z⟩
    | flt y=>obtain⟨t,q⟩:=(show ∃t,u=Value.float y t from rx);cases q;exact⟨_,W.kitx_float,trivial,fun z=>nomatch z⟩
    | @lst a xs ea =>
      cases (show u=Value.ref a from rx)
      obtain⟨_,_,n,_,h1⟩:=(show aV X.prog X.w H s.heap a (.lst xs) from I.hok a _ ea)
      exact⟨_,W.kitx_list,⟨_,h1,rfl⟩,fun z=>nomatch z⟩
    | @frz a ob xs ea =>
      cases (show u=Value.ref a from rx)
      obtain⟨_,_,_,n,_,h1⟩:=(show aV X.prog X.w H s.heap a (.frz ob (.lst xs)) from I.hok a _ ea)
      exact⟨_,W.kitx_list,⟨_,h1,rfl⟩,fun z=>nomatch z⟩
    | @tup a xs ea =>
      cases (show u=Value.ref a from rx)
      obtain⟨_,_,_,p⟩:=(show aV X.prog X.w H s.heap a (.tup xs) from I.hok a _ ea)
      obtain⟨o,h1,h2,_⟩:=p
      exact⟨_,W.kitx_tuple,⟨o,h1,h2⟩,fun z=>nomatch z⟩
    | @dK a kvs ea =>
      cases (show u=Value.ref a from rx)
      obtain⟨_,_,vs,_,p⟩:=(show aV X.prog X.w H s.heap a (.dK kvs) from I.hok a _ ea)
      obtain⟨o,es,ep,h1,h2,_⟩:=p
      exact⟨_,W.kitx_dict,⟨o,h1,h2.1⟩,fun z=>nomatch z⟩
    | @dT a kvs ea =>
      cases (show u=Value.ref a from rx)
      obtain⟨_,_,xs,_,o,es,ep,h1,h2,_⟩:=(show aV X.prog X.w H s.heap a (.dT kvs) from I.hok a _ ea)
      exact⟨_,W.kitx_dict,⟨o,h1,h2.1⟩,fun z=>nomatch z⟩
    | @ins a C dx fs ea cl ha hn htk hm =>
      cases (show u=Value.ref a from rx)
      obtain⟨mA,O,_⟩:=ja I.hok ea
      obtain⟨od,J,_⟩:=O.look
      exact⟨_,W.kitx_own (cl.get _) cl.hd ha hn htk hm,J,fun z=>nomatch z⟩
theorem dL:dw X (.builtin "isinstance") (fun xs H Q=>∃x c t b,xs=[x,c]/\iq c=true/\TyE X.K H x t/\W.kitOne X.K t (oV c)=some b/\Q (.bl b) H):=by
  intro pins s σ H xs us Q I r h
  obtain⟨x,c,t,b,rfl,hc,ty,e,q⟩:=h
  obtain⟨u,v,rfl,ru,rv⟩:=vals2 r
  have:=nS hc rv
  subst this
  obtain⟨P,kx,p,ne⟩:=nU I ru ty
  exact W.kia_one kx I.kIn p e ne fun tk=>⟨.bl b,H,I.tok tk,rfl,q⟩
theorem lX:∀{cs:List V} {us:List Value},Vals cs us->cs.all iq=true->us=cs.map oV
  | _,_,.nil,_=>rfl
  | _,_,.cons r1 r2,h=>by
    rw[List.all_cons,Bool.and_eq_true] at h
    rw[List.map_cons,nS h.1 r1,lX r2 h.2]
theorem kU:dw X (.builtin "isinstance") (fun xs H Q=>∃x p cs t b,xs=[x,.ref p]/\H p=some (.tup cs)/\cs.all iq=true/\TyE X.K H x t/\W.kitAny X.K t (cs.map oV)=some b/\Q (.bl b) H):=by
  intro pins s σ H xs us Q I r h
  obtain⟨x,p,cs,t,b,rfl,hp,hc,ty,e,q⟩:=h
  obtain⟨u,v,rfl,ru,rv⟩:=vals2 r
  cases rv
  obtain⟨_,its,rvs,⟨⟨ocls,od,odt,osl⟩,h1,h2,n,h3⟩⟩:=(show aV X.prog X.w H s.heap p (.tup cs) from I.hok p _ hp)
  dsimp only at h2 h3
  subst h2
  subst h3
  have:=lX rvs hc
  subst this
  obtain⟨P,kx,pp,ne⟩:=nU I ru ty
  exact W.kia_tup kx I.kIn pp h1 e ne fun tk=>⟨.bl b,H,I.tok tk,rfl,q⟩
end
end L2

set_option maxHeartbeats 4000000
namespace L2
open PySem
def fj (cells:List (Str×Addr)): List (Str×NameKind)->List (Str×Addr)->List (Str×Addr)
  | [],acc=>acc
  | (n,k)::r,acc=>fj cells r (if k==.free then (n,(cells.lookup n).getD 0)::acc else acc)
def nV (env:Env)(x:Str×NameKind)(cs:List (Str×Addr)): Sem (ForInStep (List (Str×Addr))):=match x with
  | (name,kind)=>if (kind==.free)=true then do let a <-cellOf env name;pure (ForInStep.yield ((name,a)::cs)) else pure (ForInStep.yield cs)
theorem qf {env:Env}{n:Str}{k:NameKind}{cs:List (Str×Addr)}(h:k=.free->∃c,env.cells.lookup n=some c):
    nV env (n,k) cs=pure (ForInStep.yield (if k==.free then (n,(env.cells.lookup n).getD 0)::cs else cs)):=by
  unfold nV
  by_cases hk:(k==NameKind.free)=true
  · obtain⟨c,hc⟩:=h (by simpa using hk)
    simp only [hk,if_true,cellOf,hc,pure_bind,Option.getD_some]
  · simp only [hk,if_false,Bool.false_eq_true]
theorem rh {scope:Scope}{env:Env}(h:∀y∈scope.names,y.2=.free->∃c,env.cells.lookup y.1=some c): closureFor scope env=pure (fj env.cells scope.names []):=by
  have key:∀(l:List (Str×NameKind)) (acc:List (Str×Addr)),(∀y∈l,y.2=.free->∃c,env.cells.lookup y.1=some c) ->
      forIn l acc (nV env)=(pure (fj env.cells l acc):Sem (List (Str×Addr))):=by
    intro l
    induction l with
    | nil=>intro acc _;rfl
    | cons p r ih =>
      obtain⟨n,k⟩:=p
      intro acc hl
      rw[List.forIn_cons,qf (fun z=>hl (n,k) List.mem_cons_self z),pure_bind]
      exact ih _ fun y hy=>hl y (List.mem_cons_of_mem _ hy)
  show (forIn scope.names [] (nV env) >>= fun cs=>pure cs)=_
  rw[key scope.names [] h,pure_bind]
theorem lY {cells:List (Str×Addr)}{y:Str}{c:Addr}: ∀{l:List (Str×NameKind)} {acc:List (Str×Addr)},(∀p∈l,p.2=.free->∃c,cells.lookup p.1=some c)->(acc.lookup y=some c->cells.lookup y=some c) ->
    (fj cells l acc).lookup y=some c->cells.lookup y=some c
  | [],acc,_,ha,h=>ha h
  | (n,k)::r,acc,hl,ha,h=>by
    refine lY (l:=r) (fun p hp=>hl p (List.mem_cons_of_mem _ hp)) ?_ h
    by_cases hk:(k==NameKind.free)=true
    · rw[if_pos hk,List.lookup_cons]
      obtain⟨d,hd⟩:=hl (n,k) List.mem_cons_self (by simpa using hk)
      have hd':cells.lookup n=some d:=hd
      cases e:y==n with
      | true =>
        have:y=n:=beq_iff_eq.mp e
        subst this
        intro q
        rw[hd'] at q ⊢
        exact q
      | false=>exact ha
    · rw[if_neg hk];exact ha
theorem kB {cells:List (Str×Addr)}{y:Str}: ∀{l:List (Str×NameKind)} {acc:List (Str×Addr)},(∃c,acc.lookup y=some c)->∃c,(fj cells l acc).lookup y=some c
  | [],_,h=>h
  | (n,k)::r,acc,h=>by
    refine kB (l:=r) ?_
    by_cases hk:(k==NameKind.free)=true
    · rw[if_pos hk,List.lookup_cons]
      cases e:y==n with
      | true=>exact⟨_,rfl⟩
      | false=>exact h
    · rw[if_neg hk];exact h
theorem iu {cells:List (Str×Addr)}{y:Str}: ∀{l:List (Str×NameKind)} {acc:List (Str×Addr)},(y,NameKind.free)∈l->∃c,(fj cells l acc).lookup y=some c
  | [],_,h=>nomatch h
  | (n,k)::r,acc,h=>by
    rcases List.mem_cons.mp h with q | q
    · cases q
      refine kB (l:=r) ?_
      rw[if_pos (by rfl),List.lookup_cons]
      simp
    · exact iu (l:=r) q
section
variable {prog:Program}{w:World}{A:Around}{R:Result->Shared->Prop}{s:Shared}
theorem oX {elt target iter:Expr}{ifs:List Expr}{scope:Scope}{pos:Pos}{it acc:Value}{env:Env}(I:Nat->Shared->Prop)
    (turn:∀n s,I n s->wpAny (model prog w) A (pyNext it) (fun r s₁=>match r with
      | none=>R (.ok .next) s₁
      | some v=>wpAny (model prog w) A (letOwnedTupleGo target it v) (fun _ s₂=>wpAny (model prog w) A (assign target env v) (fun _ s₃ =>
          wpAny (model prog w) A (forIn ifs true fun c r=>if r=true then do let ok <-isTrue c env (eval c env);pure (ForInStep.yield ok) else pure (ForInStep.yield r)) (fun ok s₄ =>
            if ok=true then wpAny (model prog w) A (eval elt env) (fun x s₅=>wpAny (model prog w) A (call (.builtin "list.append") [acc,x]) (fun _ s₆=>∃m,m < n/\I m s₆) (fun _ _=>False) s₅) (fun _ _=>False) s₄
            else ∃m,m < n/\I m s₄) (fun _ _=>False) s₃) (fun _ _=>False) s₂) (fun _ _=>False) s₁) (fun _ _=>False) s)
    (n:Nat) (h:I n s):codeAny (model prog w) A (.compLoop (.ListComp elt [⟨target,iter,ifs,0⟩] scope pos) 0 it acc env) R s:=by
  refine codeAny_loop rfl I (fun n s hI=>?_) n h
  show wpAny _ A ((compTurn (.ListComp elt [⟨target,iter,ifs,0⟩] scope pos) 0 it acc env).onRaise (fun x=>do noteFrame x env;theTreesLotGoes x)) _ _ s
  refine wpAny_noted ?_
  rw[compTurn_list]
  have no:∀{α:Type} {t:Sem α} {Q:α->Shared->Prop} {E:Value->Shared->Prop} {s:Shared},wpAny (model prog w) A t Q (fun _ _=>False) s->wpAny (model prog w) A t Q E s:=fun {α t Q E s} z=>wpAny_mono z (fun _ _ q=>q) fun _ _ q=>q.elim
  refine wpAny_bind (wpAny_standAt (wpAny_bind (no (wpAny_mono (turn n s hI) (fun r s₁ h₁=>?_) fun _ _ z=>z))))
  cases r with
  | none=>exact wpAny_pure h₁
  | some v =>
    refine wpAny_bind (no (wpAny_mono h₁ (fun _ s₂ h₂=>?_) fun _ _ z=>z))
    refine wpAny_bind (no (wpAny_mono h₂ (fun _ s₃ h₃=>?_) fun _ _ z=>z))
    refine wpAny_bind (no (wpAny_mono h₃ (fun ok s₄ h₄=>?_) fun _ _ z=>z))
    cases ok with
    | false=>exact wpAny_pure ⟨rfl,h₄⟩
    | true=>exact wpAny_bind (wpAny_bind (no (wpAny_mono h₄ (fun x s₅ h₅=>wpAny_bind (no (wpAny_mono h₅ (fun _ s₆ h₆=>wpAny_pure (wpAny_pure ⟨rfl,h₆⟩)) fun _ _ z=>z))) fun _ _ z=>z)))
end
end L2

set_option maxHeartbeats 4000000
namespace L2
open PySem PySem.Spec PyProof.Rows
theorem gQ {scope:Scope}{env:Env}{y:Str}: (relabel scope env).names.lookup y=(scope.names.lookup y).map fun k=>if (k==.free&&env.scope.kind==.function&&env.kindOf y==some .cell) then NameKind.cell else k:=by
  unfold relabel
  show (scope.names.map _).lookup y=_
  generalize scope.names=l
  induction l with
  | nil=>rfl
  | cons p r ih =>
    obtain⟨n,k⟩:=p
    rw[List.map_cons]
    cases e:y==n with
    | true =>
      have:y=n:=beq_iff_eq.mp e
      subst this
      by_cases h:(k==NameKind.free&&env.scope.kind==.function&&env.kindOf y==some .cell)=true
      · simp only [h,if_true,List.lookup_cons,beq_self_eq_true,Option.map_some]
      · simp only [h,if_false,List.lookup_cons,beq_self_eq_true,Option.map_some,Bool.false_eq_true]
    | false =>
      by_cases h:(k==NameKind.free&&env.scope.kind==.function&&env.kindOf n==some .cell)=true
      · simp only [h,if_true,List.lookup_cons,e];exact ih
      · simp only [h,if_false,List.lookup_cons,e,Bool.false_eq_true];exact ih
theorem dM {l:List (Str×NameKind)}{y:Str}{k:NameKind}(h:l.lookup y=some k): (y,k)∈l:=PySem.mem_of_lookup h
structure fm (scope fsc:Scope)(xs N' N:List Str): Prop where
  kind:scope.kind=.function
  own:∀y∈scope.names,y.2=.local->scope.names.lookup y.1=some .local
  qg:(scope.names.all fun y=>y.2 != .cell)=true
  frees:(scope.names.all fun y=>y.2 != .free || fsc.names.lookup y.1==some .cell || fsc.names.lookup y.1==some .free)=true
  mask:(N'.all fun y=>scope.names.lookup y != some .local)=true
  same:((N'.zip N).all fun p=>p.1==p.2 || scope.names.lookup p.1==none)=true
  len:N'.length=N.length
def cj (X:Cx)(scope:Scope)(NN:List Str)(C:Addr)(s:Shared)(H:Hp)(pins:List (Addr×Obj))(fp:List Addr): Cx :=
  { X with N:=NN,s₀:=s,H₀:=H,env:=compEnvC scope (fj X.env.cells scope.names []) C X.env,outer:=X.stack,stack:=X.stack,ex:=fp,fn:=fun _=>false,pn:=X.pn++pins,xe:=fun _ _=>False }
section
variable {X:Cx}{pins:List (Addr×Obj)}{σ:St}{H:Hp}{s:Shared}{scope:Scope}{xs N':List Str}{fp:List Addr}
theorem fm.free {fsc:Scope}{N:List Str}{y:Str}(c:fm scope fsc xs N' N)(h:scope.names.lookup y=some .free): fsc.names.lookup y=some .cell\/fsc.names.lookup y=some .free:=by
  have:=List.all_eq_true.mp c.frees _ (dM h)
  simp at this
  exact this
theorem fm.vis {fsc:Scope}{N:List Str}{y:Str}{env:Env}(c:fm scope fsc xs N' N)(h:(relabel scope env).names.lookup y=some .cell\/(relabel scope env).names.lookup y=some .free): scope.names.lookup y=some .free:=by
  rw[gQ] at h
  cases e:scope.names.lookup y with
  | none=>rw[e] at h;simp at h
  | some k =>
    have nc:=List.all_eq_true.mp c.qg _ (dM e)
    rw[e] at h
    cases k<;>simp at nc h ⊢
theorem lZ {env:Env}{y:Str}(h:(relabel scope env).names.lookup y=some .local): scope.names.lookup y=some .local:=by
  rw[gQ] at h
  cases e:scope.names.lookup y with
  | none=>rw[e] at h;simp at h
  | some k =>
    rw[e] at h
    simp only [Option.map_some,Option.some.injEq] at h
    split at h
    · cases h
    · rw[h]
theorem mO (I:Inv X pins σ H s)(cok:fm scope X.env.scope xs N' X.N)(hfp:∀b∈fp,jf X pins H b)(hfo:∀b∈fp,∃o,s.heap.get? b=some o){h1:Heap}{tk:Nat}(hn:h1.Ns s.heap.objs.size fun _=>none)
    (keep:∀b o,s.heap.get? b=some o->h1.get? b=some o):Inv (cj X scope (xs++N') s.heap.objs.size s H pins fp) [] (List.replicate xs.length none++σ) H { s with heap:=h1,toks:=tk }:=by
  have has:∀y,scope.names.lookup y=some .free->∃c,X.env.cells.lookup y=some c:=fun y h=>I.ok.has y (cok.free h)
  have cells:∀y c,(fj X.env.cells scope.names []).lookup y=some c->X.env.cells.lookup y=some c:=fun y c h=>by
    refine lY (l:=scope.names) (acc:=[]) (fun p hp hk=>?_) (fun z=>nomatch z) h
    have:X.env.scope.names.lookup p.1=some .cell\/X.env.scope.names.lookup p.1=some .free:=by
      have:=List.all_eq_true.mp cok.frees p hp
      simp[hk] at this
      exact this
    exact I.ok.has p.1 this
  have clt:∀y c,X.env.cells.lookup y=some c->c < s.heap.objs.size:=fun y c h=>by
    obtain⟨v,q⟩:=I.cell y c h
    exact q.lt
  have sLs:∀b∈fp,b∉frs X.stack:=fun b hb z=>by
    rcases List.mem_cons.mp (I.eY b z) with q | q
    · exact(hfp b hb).2.1 q
    · exact(hfp b hb).2.2.1 q
  have cellK:∀c v,s.heap.IsCell c v->h1.IsCell c v:=fun c v ⟨o,ho,hd⟩=>⟨o,keep c o ho,hd⟩
  refine⟨⟨I.ok.mod,?_,I.ok.glob,I.ok.blt,Nat.le_refl _,fun y z c h1 h2=>I.ok.inj y z c (cells y c h1) (cells z c h2),fun y h=>?_,fun _ _ z=>(nomatch z),I.ok.hd,I.ok.frames,.inl rfl,fun b hb=>⟨?_,fun y c h=>?_⟩,I.bs,Nat.le_trans I.ok.bsz I.sz,fun b o e hb=>?_,sLs,I.stack,I.kJ⟩,
    rfl,I.bare,Un.kept keep,⟨_,hn,fun i y v e1 e2 e3=>?_⟩,fun y c h=>?_,I.hok.fresh (Nat.le_refl _),fun y c h=>I.d9 y c (cells y c h),fun p hp=>?_,I.hok.kept keep,?_⟩
  · show scope.kind=_;exact cok.kind
  · exact iu (dM (cok.vis h))
  · obtain⟨o,e⟩:=hfo b hb
    exact Nat.ne_of_lt (Heap.lt_size e)
  · exact(hfp b hb).2.2.2.2.1 y c (cells y c h)
  · rcases (hfp b hb).2.2.2.1 with z | z
    · exact I.ok.jK b o e z
    · exact absurd (Nat.lt_of_lt_of_le (Heap.lt_size (I.ok.bs b o e).1) z) (Nat.lt_irrefl _)
  · have hi:xs.length<=i:=by
      refine Nat.le_of_not_lt fun z=>?_
      rw[List.getElem?_append_left (by rw[List.length_replicate];exact z),List.getElem?_replicate] at e2
      split at e2<;>simp at e2
    have e1':N'[i-xs.length]?=some y:=by
      have e1:(xs++N')[i]?=some y:=e1
      rwa [List.getElem?_append_right hi] at e1
    have e2':σ[i-xs.length]?=some (some v):=by
      rw[List.getElem?_append_right (by rw[List.length_replicate];exact hi),List.length_replicate] at e2
      exact e2
    have mem:=List.mem_of_getElem? e1'
    have hk:(relabel scope X.env).names.lookup y=some .cell\/(relabel scope X.env).names.lookup y=some .free:=by
      rcases e3 with z | z
      · have:=List.all_eq_true.mp cok.mask y mem
        rw[lZ z] at this
        simp at this
      · exact z
    have hf:=cok.vis hk
    have hx:X.N[i-xs.length]?=some y:=by
      have hl:i-xs.length < X.N.length:=by rw[<-cok.len];exact(List.getElem?_eq_some_iff.mp e1').1
      have hz:(N'.zip X.N)[i-xs.length]?=some (y,X.N[i-xs.length]):=by
        rw[List.getElem?_zip_eq_some]
        exact⟨e1',List.getElem?_eq_getElem hl⟩
      have:=List.all_eq_true.mp cok.same _ (List.mem_of_getElem? hz)
      simp[hf] at this
      rw[List.getElem?_eq_getElem hl,<-this]
    obtain⟨m,hm,hl⟩:=I.loc
    have hv:Vis X.env.scope y:=.inr (cok.free hf)
    obtain⟨u,r,l⟩:=hl _ y v hx e2' hv
    refine⟨u,r,.inr ⟨hk,?_⟩⟩
    rcases l with ⟨k,_⟩ | ⟨_,c,hc,hcell⟩
    · rcases cok.free hf with z | z
      · rw[show X.env.scope.names.lookup y=some .local from k] at z;cases z
      · rw[show X.env.scope.names.lookup y=some .local from k] at z;cases z
    · obtain⟨c',hc'⟩:=iu (cells:=X.env.cells) (acc:=[]) (dM hf)
      have:c=c':=by
        have:=cells y c' hc'
        rw[hc] at this
        exact Option.some.inj this
      subst this
      exact⟨c,hc',cellK c _ hcell⟩
  · obtain⟨v,q⟩:=I.cell y c (cells y c h)
    exact⟨v,cellK c v q⟩
  · have hp':p∈X.pn++pins:=by simpa [cj] using hp
    obtain⟨e,n,ne,nf,d⟩:=I.pin p hp'
    refine⟨keep p.1 p.2 e,n,Nat.ne_of_lt (Heap.lt_size e),fun z=>?_,d⟩
    rcases List.mem_cons.mp (I.eY p.1 z) with q | q
    · exact ne q
    · exact nf q
  · show (List.replicate xs.length none++σ).length=(xs++N').length
    rw[List.length_append,List.length_append,List.length_replicate,I.len,cok.len]
def rO:TT:=fun _ H Q=>Q true H
def PTs (X:Cx)(ifs:List Expr)(t:TT): Prop :=
  ∀(pins:List (Addr×Obj)) (s:Shared) (σ:St) (H:Hp) (Q:Bool->Hp->Prop),Inv X pins σ H s->t σ H Q ->
    wpAny (model X.prog X.w) X.A (forIn ifs true fun c r=>if r=true then do let ok <-isTrue c X.env (eval c X.env);pure (ForInStep.yield ok) else pure (ForInStep.yield r)) (TP X pins σ Q) X.xe s
theorem nW:PTs X [] rO:=fun _ _ _ H _ I h=>wpAny_tests_nil ⟨H,I,h⟩
def rP (k:Nat)(wi:TI)(g:TG)(tc:TT)(te:TE): TE:=fun σ H Q=>wi σ H fun J H1=>∀acc,H1 acc=none->∃(W:Nat->List V->Hp->Prop) (n:Nat),W 0 [] (upd H1 acc (.lst [])) ∧
  ∀i ys H2,W i ys H2->H2 acc=some (.lst ys)/\ys.length < sizeLine/\((i=n/\J.stop i H2/\Q (.ref acc) H2)\/(i < n/\J.go i H2/\∀x H3,J.yld i H2 x H3->∀τ:St,τ.length=k->g x (τ++σ) H3 fun τ2 H4 =>
    (∃τ':St,τ'.length=k/\τ2=τ'++σ)/\tc τ2 H4 fun b H5=>if b=true then te τ2 H5 fun v H6=>H6 acc=some (.lst ys)/\W (i+1) (ys++[v]) (upd H6 acc (.lst (ys++[v]))) else W (i+1) ys H5))
theorem comp_back (I:Inv X pins σ H s)(hfp:∀b∈fp,jf X pins H b){NN:List Str}{gd:List (Addr×Obj)}{τ:St}{H':Hp}{s':Shared}(J:Inv (cj X scope NN s.heap.objs.size s H pins fp) gd τ H' s'): Inv X pins σ H' s' :=
  I.call' (ch:=fp) (J.os.trans rfl) J.base J.hok J.bare fun b hb=>⟨(hfp b hb).2.2.2.1,(hfp b hb).2.1,(hfp b hb).2.2.2.2.1,(hfp b hb).2.2.2.2.2⟩
end
end L2

set_option maxHeartbeats 4000000
namespace L2
open PySem PySem.Spec PyProof.Rows
section
variable {X:Cx}{scope:Scope}{xs N':List Str}{target iter elt:Expr}{ifs:List Expr}{pos:Pos}{wi:TI}{g:TG}{tc:TT}{te:TE}
theorem mP (hc:X.calm=true)(cok:fm scope X.env.scope xs N' X.N)(hi:PI X target iter wi)
    (hg:∀C s H pins fp,PG (cj X scope (xs++N') C s H pins fp) target g) (ht:∀C s H pins fp,PTs (cj X scope (xs++N') C s H pins fp) ifs tc) (he:∀C s H pins fp,PE (cj X scope (xs++N') C s H pins fp) elt te)
    {pins:List (Addr×Obj)} {s:Shared} {σ:St} {H:Hp} {Q:VK} {RR:Value->Addr->Result->Shared->Prop} (I:Inv X pins σ H s) (h:rP xs.length wi g tc te σ H Q)
    (hRR:∀a C m H' s',Inv X pins σ H' s'->jf X pins H' C->s'.heap.Ns C m->Q (.ref a) H'->RR (.ref a) C (.ok .next) s') :
    wpAny (model X.prog X.w) X.A (eval iter X.env) (fun x s₁=>wpAny (model X.prog X.w) X.A (pyIter x) (fun it s₂=>wpAny (model X.prog X.w) X.A (newList []) (fun acc s₃ =>
      wpAny (model X.prog X.w) X.A (newFunctionEnv scope X.env.globals (fj X.env.cells scope.names []) [] X.env.qual none .none (some X.env)) (fun cenv s₄ =>
        codeAny (model X.prog X.w) X.A (.compStart (.ListComp elt [⟨target,iter,ifs,0⟩] scope pos) 0 it acc { cenv with scope:=relabel scope X.env }) (RR acc cenv.locals) s₄) X.xe s₃) X.xe s₂) X.xe s₁) X.xe s:=by
  refine thn (hi pins s σ H _ I h) fun v s1 h1=>thn h1 fun itv s2 h2=>?_
  obtain⟨it,fp,tn,J,H2,e,I2,T,st2,f2,h3⟩:=h2
  subst e
  have ob2:∀b∈fp,∃o,s2.heap.get? b=some o:=fun b hb=>let ⟨o,q,_⟩:=T.obj _ _ st2 b hb;⟨o,q⟩
  have sW:H2 s2.heap.objs.size=none:=I2.fresh
  have I3:=I2.sK (its:=[]) (ys:=[]) (t':=s2.toks) .nil (Nat.zero_le _)
  refine wpAny_newObj_type (T := "list") ?_
  obtain⟨W,n,w0,turn⟩:=h3 s2.heap.objs.size sW
  generalize hs3:({ s2 with heap:=s2.heap.push { cls:=.type "list",data:=.seq ([]:List Value).toArray },toks:=s2.toks }:Shared)=s3 at I3
  have uD:∀b o,s2.heap.get? b=some o->s3.heap.get? b=some o:=fun b o q=>by rw[<-hs3];exact Heap.get?_push_of_some _ q
  have f3:∀b∈fp,jf X pins (upd H2 s2.heap.objs.size (.lst [])) b:=fun b hb=>by
    obtain⟨o,q⟩:=ob2 b hb
    obtain⟨q0,q1⟩:=f2 b hb
    exact⟨by rw[au (Nat.ne_of_lt (Heap.lt_size q))];exact q0,q1⟩
  have ob3:∀b∈fp,∃o,s3.heap.get? b=some o:=fun b hb=>let ⟨o,q⟩:=ob2 b hb;⟨o,uD b o q⟩
  have st3:tn 0 s3.heap:=T.keep _ _ _ st2 fun b _ o q=>uD b o q
  refine wpAny_newFunctionEnv (fun y hy z=>?_) (fun y hy=>nomatch hy) (fun h4 hns hsb=>?_) cok.kind
  · have:=List.all_eq_true.mp cok.qg y hy
    rw[z] at this
    simp at this
  have rQ:∀b o,s3.heap.get? b=some o->h4.get? b=some o:=fun b o q=>(hsb.2 b (Nat.ne_of_lt (Heap.lt_size q))).trans (Heap.get?_push_of_some _ q)
  have J4:=mO (tk:=s3.toks+([]:List (Str×Value)).length) I3 cok f3 ob3 hns rQ
  have st4:tn 0 h4:=T.keep _ _ _ st3 fun b _ o q=>rQ b o q
  generalize hY:cj X scope (xs++N') s3.heap.objs.size s3 (upd H2 s2.heap.objs.size (.lst [])) pins fp=Y at J4
  have hP:Y.prog=X.prog:=by rw[<-hY];rfl
  have hw:Y.w=X.w:=by rw[<-hY];rfl
  have hK:Y.K=X.K:=by rw[<-hY];rfl
  have hcY:Y.calm=true:=by rw[<-hY];exact hc
  have stat:∀{H':Hp},(∀b∈fp,H' b=none)->∀b∈fp,jf Y [] H' b:=fun {H'} hn b hb=>by
    obtain⟨o,q⟩:=ob3 b hb
    rw[<-hY]
    refine⟨hn b hb,Nat.ne_of_lt (Heap.lt_size q),fun z=>?_,.inl hb,fun y c hy=>?_,fun p hp=>?_⟩
    · rcases List.mem_cons.mp (I3.eY b z) with w | w
      · exact(f3 b hb).2.1 w
      · exact(f3 b hb).2.2.1 w
    · have hx:=J4.ok.exf b (by rw[<-hY];exact hb)
      rw[<-hY] at hx
      exact hx.2 y c hy
    · have hp':p∈X.pn++pins:=by simpa [cj] using hp
      exact(f3 b hb).2.2.2.2.2 p hp'
  have loop:∀s5:Shared,Inv Y [] (List.replicate xs.length none++σ) (upd H2 s2.heap.objs.size (.lst [])) s5->tn 0 s5.heap ->
      codeAny (model X.prog X.w) X.A (.compLoop (.ListComp elt [⟨target,iter,ifs,0⟩] scope pos) 0 (.ref it) (.ref s2.heap.objs.size) Y.env) (RR (.ref s2.heap.objs.size) s3.heap.objs.size) s5:=by
    intro s5 J5 st5
    refine oX (fun k s'=>∃(i:Nat) (ys:List V) (H':Hp) (τ:St),k+i=n/\τ.length=xs.length/\Inv Y [] (τ++σ) H' s'/\tn i s'.heap/\(∀b∈fp,H' b=none)/\W i ys H') ?_ n
      ⟨0,[],_,List.replicate xs.length none,rfl,List.length_replicate ..,J5,st5,fun b hb=>(f3 b hb).1,w0⟩
    rintro k s6 ⟨i,ys,H6,τ,hk,hτ,J6,st6,fr6,w6⟩
    obtain⟨hacc,hlen,hcase⟩:=turn i ys H6 w6
    rcases hcase with ⟨hin,stop,hq⟩ | ⟨hin,go,step⟩
    · refine thn (A:=X.A) (by have:=T.done Y hP hw hK hcY i [] s6 (τ++σ) H6 (fun _ _=>False) J6 (stat fr6) st6 stop;rw[<-hY] at this;exact this) fun r s7 q7=>?_
      obtain⟨hr,J7⟩:=q7
      subst hr
      rw[hY] at J7
      obtain⟨m7,hn7,_⟩:=J7.loc
      have e1:Y.env.locals=s3.heap.objs.size:=by rw[<-hY];rfl
      rw[e1] at hn7
      have J7':Inv X pins σ H6 s7:=comp_back I3 f3 (by rw[hY];exact J7)
      refine hRR _ _ m7 H6 s7 J7' ?_ hn7 hq
      have e2:=J7.free
      rw[e1] at e2
      exact I3.qL (Nat.le_refl _) e2
    · refine thn (A:=X.A) (by have:=T.item Y hP hw hK hcY i [] s6 (τ++σ) H6 (fun _ _=>False) J6 (stat fr6) st6 go;rw[<-hY] at this;exact this) fun r s7 q7=>?_
      obtain⟨u,hr,q7⟩:=q7
      subst hr
      have hA:Y.A=X.A:=by rw[<-hY];rfl
      rw[hY] at q7
      rw[hA] at q7
      refine thn q7 fun _ s8 q8=>?_
      obtain⟨x8,H8,J8,r8,y8,st8,fr8⟩:=q8
      have J8':=J8.pinned (stat fr8) (T.obj _ _ st8)
      have g8:=hg s3.heap.objs.size s3 (upd H2 s2.heap.objs.size (.lst [])) pins fp
      have t8:=ht s3.heap.objs.size s3 (upd H2 s2.heap.objs.size (.lst [])) pins fp
      have e8:=he s3.heap.objs.size s3 (upd H2 s2.heap.objs.size (.lst [])) pins fp
      have a8:∀{Z:Cx},Z=Y->MtM Z "list.append" nM:=fun {Z} _=>dr
      have hxe:Y.xe=fun _ _=>False:=by rw[<-hY];rfl
      rw[hY] at g8 t8 e8
      have back:∀{τ2:St} {H9:Hp} {s9:Shared},Inv Y ([]++jg fp s8.heap) τ2 H9 s9->Inv Y [] τ2 H9 s9/\tn (i+1) s9.heap/\∀b∈fp,H9 b=none:=fun {τ2 H9 s9} J9=>by
        refine⟨J9.gL,T.keep _ _ _ st8 fun b hb o q=>(J9.pin (b,o) (List.mem_append_right _ (List.mem_append_right _ (eh hb q)))).1,fun b hb=>?_⟩
        obtain⟨o,q,d⟩:=T.obj _ _ st8 b hb
        exact(J9.pin (b,o) (List.mem_append_right _ (List.mem_append_right _ (eh hb q)))).2.1
      have z1:=g8 _ s8 (τ++σ) H8 x8 u _ J8' r8 (step x8 H8 y8 τ hτ)
      rw[hP,hw,hA,hxe] at z1
      refine thn z1 fun _ s9 q9=>?_
      obtain⟨τ9,H9,J9,⟨τ',hτ',e9⟩,q9⟩:=q9
      subst e9
      have z2:=t8 _ s9 (τ'++σ) H9 _ J9 q9
      rw[hP,hw,hA,hxe] at z2
      refine thn z2 fun b s10 q10=>?_
      obtain⟨H10,J10,q10⟩:=q10
      cases b with
      | false =>
        rw[if_neg Bool.false_ne_true] at q10 ⊢
        obtain⟨b1,b2,b3⟩:=back J10
        exact⟨k-1,by omega,i+1,ys,H10,τ',by omega,hτ',b1,b2,b3,q10⟩
      | true =>
        rw[if_pos rfl] at q10 ⊢
        have z3:=e8 _ s10 (τ'++σ) H10 _ J10 q10
        rw[hP,hw,hA,hxe] at z3
        refine thn z3 fun y s11 q11=>?_
        obtain⟨v11,H11,J11,r11,sX,w11⟩:=q11
        have z4:=a8 rfl _ s11 (τ'++σ) H11 (.ref s2.heap.objs.size) [v11] (.ref s2.heap.objs.size) [y] (fun _ H'=>W (i+1) (ys++[v11]) H') J11 rfl (.cons r11 .nil) ⟨_,ys,v11,rfl,rfl,sX,hlen,w11⟩
        rw[hP,hw,hA,hxe] at z4
        refine thn z4 fun _ s12 q12=>?_
        obtain⟨_,H12,J12,_,w12⟩:=q12
        obtain⟨b1,b2,b3⟩:=back J12
        exact⟨k-1,by omega,i+1,ys++[v11],H12,τ',by omega,hτ',b1,b2,b3,w12⟩
  have vO:({ newEnv scope s3.heap.objs.size X.env.globals (fj X.env.cells scope.names []) X.env.qual none .none (some X.env) X.env.builtins with scope:=relabel scope X.env }:Env)=Y.env:=by rw[<-hY];rfl
  have l4:=loop _ J4 st4
  rw[<-vO] at l4
  exact codeAny_compStart_list l4 (T.self _ 0 _ _ _ st4 l4)
theorem rj {pins:List (Addr×Obj)}{s:Shared}{σ:St}{H:Hp}(I:Inv X pins σ H s)(cok:fm scope X.env.scope xs N' X.N): closureFor scope X.env=pure (fj X.env.cells scope.names []):=by
  refine rh fun p hp hk=>?_
  have:X.env.scope.names.lookup p.1=some .cell\/X.env.scope.names.lookup p.1=some .free:=by
    have:=List.all_eq_true.mp cok.frees p hp
    simp[hk] at this
    exact this
  exact I.ok.has p.1 this
theorem nY (hc:X.calm=true)(cok:fm scope X.env.scope xs N' X.N)(hi:PI X target iter wi)
    (hg:∀C s H pins fp,PG (cj X scope (xs++N') C s H pins fp) target g) (ht:∀C s H pins fp,PTs (cj X scope (xs++N') C s H pins fp) ifs tc) (he:∀C s H pins fp,PE (cj X scope (xs++N') C s H pins fp) elt te)
    (hs:∀x,foldedSetIterable iter X.env x=pure x:=by intro _;rfl):PE X (.ListComp elt [⟨target,iter,ifs,0⟩] scope pos) (rP xs.length wi g tc te):=by
  intro pins s σ H Q I h
  rw[eval_ListComp]
  refine wpAny_comprehension_free (use:=none) rfl hs (rj I cok) cok.kind cok.own (mP hc cok hi hg ht he I h fun a C m H' s' J fC hn q=>⟨m,hn,fun h' hs'=>?_⟩)
  obtain⟨f0,f1,f2,f3,f4,f5⟩:=fC
  exact⟨.ref a,H',J.turned (t':=s'.toks) (fun b o hb e=>(hs'.2 b hb).trans e) f0 f1 f3 f4 f5,rfl,q⟩
end
end L2

set_option maxHeartbeats 4000000
namespace L2
open PySem PySem.Spec PyProof.Rows
def bu (K:W.Frag)(mg:Str->Option Value)(x:Str)(st:Stmt)(ps:List Str)(dvs:List V): Prop :=
  ∃(f:Addr) (oc:Value) (od:Option Addr) (dV kV doc pm:Value) (an:Option Addr) (cdv ct:Value) (osl:Array (Option Value)) (ds:List Value),
    K.lookup f=some ⟨oc,od,.func (W.fnOf x x (bt st) (aP st) (ak st) dV kV doc pm an cdv ct),osl⟩/\W.codeIn K cdv x=true/\W.keepIn K (.ref f)=true ∧
    mg x=some (.ref f)/\Binds K (W.fnOf x x (bt st) (aP st) (ak st) dV kV doc pm an cdv ct) ps ds/\Vals dvs ds
def fq (K:W.Frag)(C:Addr)(m qual:Str)(st:Stmt)(ps:List Str)(dvs:List V): Prop :=
  ∃(f:Addr) (oc:Value) (od:Option Addr) (dV kV doc pm:Value) (an:Option Addr) (cdv ct:Value) (osl:Array (Option Value)) (ds:List Value),
    K.lookup f=some ⟨oc,od,.func (W.fnOf m qual (bt st) (aP st) (ak st) dV kV doc pm an cdv ct),osl⟩/\W.codeIn K cdv qual=true/\Meth K C m f ∧
    Binds K (W.fnOf m qual (bt st) (aP st) (ak st) dV kV doc pm an cdv ct) ps ds/\Vals dvs ds
def dg (K:W.Frag)(C:Addr)(qual:Str)(st:Stmt)(ps:List Str)(dvs:List V): Prop :=
  ∃(f:Addr) (oc:Value) (od:Option Addr) (dV kV doc pm:Value) (an:Option Addr) (cdv ct:Value) (osl:Array (Option Value)) (ds:List Value),
    K.lookup f=some ⟨oc,od,.func (W.fnOf "__init__" qual (bt st) (aP st) (ak st) dV kV doc pm an cdv ct),osl⟩/\W.codeIn K cdv qual=true/\Mk K C f ∧
    Binds K (W.fnOf "__init__" qual (bt st) (aP st) (ak st) dV kV doc pm an cdv ct) ps ds/\Vals dvs ds
def HasFn (P:Program)(w:World)(K:W.Frag)(mg:Str->Option Value)(base:Heap)(k:Nat)(x:Str)(ps:List Str)(sp:Sp)(dvs:List V): Prop :=
  ∃f fd ds,gw P w K mg base (CXE P w) k f fd ps sp/\mg x=some (.ref f)/\W.keepIn K (.ref f)=true/\Binds K fd ps ds/\Vals dvs ds
def cT (P:Program)(w:World)(K:W.Frag)(mg:Str->Option Value)(base:Heap)(C:Addr)(k:Nat)(m:Str)(ps:List Str)(sp:Sp)(dvs:List V): Prop :=
  ∃f fd ds,gw P w K mg base (CXE P w) k f fd ps sp/\Meth K C m f/\Binds K fd ps ds/\Vals dvs ds
def bp (P:Program)(w:World)(K:W.Frag)(mg:Str->Option Value)(base:Heap)(C:Addr)(k:Nat)(ps:List Str)(sp:Sp)(dvs:List V): Prop :=
  ∃f fd ds,gw P w K mg base (CXE P w) k f fd ps sp/\Mk K C f/\Binds K fd ps ds/\Vals dvs ds
section
variable {P:Program}{w:World}{K:W.Frag}{mg:Str->Option Value}{base:Heap}{C:Addr}{x m qual:Str}{st:Stmt}{N ps:List Str}{dvs:List V}{k:Nat}{sp:Sp}
theorem bu.ok (R:bu K mg x st ps dvs)(S:ay N ps (ak st))(len:∀vs H Q E,sp vs H Q E->vs.length=ps.length)
    (hbody:∀(f:Addr) (cdv:Value) (A:Around) (outer:List Env) (s:Shared) (H:Hp) (vs:List V) (Q:VK) (E:XK),bS k (A.deeper (envOfC x (ak st) s.heap.objs.size f cdv))->sp vs H Q E ->
      ∃t,PSs (ei (CXE P w) P w K mg base N x (ak st) f cdv A outer s H E) (aP st) t/\t { nx:=fun _ H'=>Q .non H',rt:=Q } (start N vs) H):HasFn P w K mg base (k+1) x ps sp dvs:=by
  obtain⟨f,oc,od,dV,kV,doc,pm,an,cdv,ct,osl,ds,lk,hcd,kp,hm,hb,hd⟩:=R
  exact⟨f,_,ds,nJ lk hcd S len fun A outer s H vs Q E hr hsp=>hbody f cdv A outer s H vs Q E hr hsp,hm,kp,hb,hd⟩
theorem fq.ok (R:fq K C m qual st ps dvs)(S:ay N ps (ak st))(len:∀vs H Q E,sp vs H Q E->vs.length=ps.length)
    (hbody:∀(f:Addr) (cdv:Value) (A:Around) (outer:List Env) (s:Shared) (H:Hp) (vs:List V) (Q:VK) (E:XK),bS k (A.deeper (envOfC qual (ak st) s.heap.objs.size f cdv))->sp vs H Q E ->
      ∃t,PSs (ei (CXE P w) P w K mg base N qual (ak st) f cdv A outer s H E) (aP st) t/\t { nx:=fun _ H'=>Q .non H',rt:=Q } (start N vs) H):cT P w K mg base C (k+1) m ps sp dvs:=by
  obtain⟨f,oc,od,dV,kV,doc,pm,an,cdv,ct,osl,ds,lk,hcd,hm,hb,hd⟩:=R
  exact⟨f,_,ds,nJ lk hcd S len fun A outer s H vs Q E hr hsp=>hbody f cdv A outer s H vs Q E hr hsp,hm,hb,hd⟩
theorem dg.ok (R:dg K C qual st ps dvs)(S:ay N ps (ak st))(len:∀vs H Q E,sp vs H Q E->vs.length=ps.length)
    (hbody:∀(f:Addr) (cdv:Value) (A:Around) (outer:List Env) (s:Shared) (H:Hp) (vs:List V) (Q:VK) (E:XK),bS k (A.deeper (envOfC qual (ak st) s.heap.objs.size f cdv))->sp vs H Q E ->
      ∃t,PSs (ei (CXE P w) P w K mg base N qual (ak st) f cdv A outer s H E) (aP st) t/\t { nx:=fun _ H'=>Q .non H',rt:=Q } (start N vs) H):bp P w K mg base C (k+1) ps sp dvs:=by
  obtain⟨f,oc,od,dV,kV,doc,pm,an,cdv,ct,osl,ds,lk,hcd,hm,hb,hd⟩:=R
  exact⟨f,_,ds,nJ lk hcd S len fun A outer s H vs Q E hr hsp=>hbody f cdv A outer s H vs Q E hr hsp,hm,hb,hd⟩
end
section
variable {X:Cx}{C:Addr}{k:Nat}{ps:List Str}{sp:Sp}{dvs:List V}{E:St->XK}{x m:Str}{p pos apos:Pos}{e o:Expr}{es:List Expr}{ta:TE}{t:TA}
theorem aX (h:HasFn X.prog X.w X.K X.mg X.base k x ps sp dvs)(hr:bS k X.A)(hg:Gl X x)(hx:bG (CXE X.prog X.w) X E)
    (ha:PA X (e::es) t) (hdb:(x==("__debug__" : Str))=false:=by decide) (he:starEach (e::es) X.env=(false,eval e X.env)::starEach es X.env:=by rfl) (hpl:(backTo pos (starEach es X.env)).any (·.1)=false:=by rfl) :
    PE X (.Call (.Name x p) (e::es) [] pos) (p8 sp dvs E t):=by
  obtain⟨f,fd,ds,F,hm,hk,hb,hd⟩:=h
  exact p9 F hr hg hm hk hb hd hx ha hdb he hpl
theorem qh {pl:Sem Bool}(he:PE X o ta)(c:Cls X.K C)(h:cT X.prog X.w X.K X.mg X.base C k m ps sp dvs)(hr:bS k X.A)(hx:bG (CXE X.prog X.w) X E)(ha:PA X (e::es) t)
    (hst:starEach (e::es) X.env=(false,eval e X.env)::starEach es X.env:=by rfl) (hpl:(backTo pos (starEach es X.env)).any (·.1)=false:=by rfl)
    (ht:eval (.Call (.Attribute o m apos) (e::es) [] pos) X.env=(do
      let ov <-eval o X.env
      standAt apos.atName
      let (f,first) <-holding [ov] (getMethod ov m pl)
      callWith pos f first (backTo pos (starEach (e::es) X.env)) (backToKw pos (keywordEach [] X.env))):=by rfl) :
    PE X (.Call (.Attribute o m apos) (e::es) [] pos) (kR C m sp dvs E ta t):=by
  obtain⟨f,fd,ds,F,hm,hb,hd⟩:=h
  exact p_ he c hm F hr hb hd hx ha hst hpl ht
theorem jo {pl:Sem Bool}(he:PE X o ta)(c:Cls X.K C)(h:cT X.prog X.w X.K X.mg X.base C k m ps sp dvs)(hr:bS k X.A)(hx:bG (CXE X.prog X.w) X E)
    (ht:eval (.Call (.Attribute o m apos) [] [] pos) X.env=(do
      let ov <-eval o X.env
      standAt apos.atName
      let (f,first) <-holding [ov] (getMethod ov m pl)
      callWith pos f first (backTo pos (starEach [] X.env)) (backToKw pos (keywordEach [] X.env))):=by rfl) :
    PE X (.Call (.Attribute o m apos) [] [] pos) (kR C m sp dvs E ta qP):=by
  obtain⟨f,fd,ds,F,hm,hb,hd⟩:=h
  exact oU he c hm F hr hb hd hx ht
theorem dz (h:bp X.prog X.w X.K X.mg X.base C k ps sp dvs)(hr:bS (k+1) X.A)(hg:Gl X x)(hm:X.mg x=some (.ref C))(hx:bG (CXE X.prog X.w) X E)
    (ha:PA X (e::es) t) (hdb:(x==("__debug__" : Str))=false:=by decide) (he:starEach (e::es) X.env=(false,eval e X.env)::starEach es X.env:=by rfl) (hpl:(backTo pos (starEach es X.env)).any (·.1)=false:=by rfl) :
    PE X (.Call (.Name x p) (e::es) [] pos) (mL C sp dvs E t):=by
  obtain⟨f,fd,ds,F,M,hb,hd⟩:=h
  exact qc M F hr hg hm hb hd hx ha hdb he hpl
theorem oY {P:Program}{w:World}: bG (CXE P w) X (fun _=>E0):=fun _ _ _ _ _ _ _ hx=>by
  obtain⟨_,_,_,_,_,_,_,_,_,_,q⟩:=hx
  exact q.elim
theorem fv {n:Int} (hg:Gl X x) (hm:∃t,X.mg x=some (.int n t)) (hd:(x==("__debug__" : Str))=false:=by decide):PE X (.Name x pos) (tC (.int n)):=by
  obtain⟨t,hm⟩:=hm
  exact dJ hg hm ⟨t,rfl⟩ hd
end
section
variable {X:Cx}{K:W.Frag}
theorem jq (h:X.K=K): IxR X (ur K):=by subst h;exact gO
theorem rk (h:X.K=K)(hu:X.A.units+64 < cLine): OpR X (compareOp .Eq) (sV K):=by subst h;exact mM hu
theorem eA (h:X.K=K): dw X (.builtin "isinstance") (fun xs H Q=>∃x c t b,xs=[x,c]/\iq c=true/\TyE K H x t/\W.kitOne K t (oV c)=some b/\Q (.bl b) H):=by subst h;exact dL
theorem gl (h:X.K=K): dw X (.builtin "isinstance") (fun xs H Q=>∃x p cs t b,xs=[x,.ref p]/\H p=some (.tup cs)/\cs.all iq=true/\TyE K H x t/\W.kitAny K t (cs.map oV)=some b/\Q (.bl b) H):=by subst h;exact kU
end
def bodyOf (s:Stmt): List Stmt:=match s with
  | .If _ b _ _=>b
  | .For _ _ b _ _=>b
  | .While _ b _ _=>b
  | _=>[]
theorem l0 {c A B:Prop}[Decidable c](h1:¬c->A)(h2:c->B): if (!decide c)=true then A else B:=by
  by_cases h:c
  · rw[decide_eq_true h];exact sN (h2 h)
  · rw[decide_eq_false h];exact lR (h1 h)
theorem fw {c A B:Prop}[Decidable c](h1:c->A)(h2:¬c->B): if decide c=true then A else B:=by
  by_cases h:c
  · rw[decide_eq_true h];exact lR (h1 h)
  · rw[decide_eq_false h];exact sN (h2 h)
theorem aN:1<=sizeLine:=by rw[sizeLine_eq];decide
theorem aQ {n:Nat}(h:n<=1000): n<=sizeLine:=by rw[sizeLine_eq];omega
theorem bM {H:Hp}{q:Addr}{u:HO}(h:H q=none): Same H (upd H q u):=fun b o z=>by rw[au (aw z h)];exact z
theorem bB (K:W.Frag)(v:Value): W.kitOne K v v=some true:=by
  unfold W.kitOne
  rw[if_pos (by simp)]
theorem cW (K:W.Frag): W.kitOne K (.type "int") (.type "bool")=some false:=by
  unfold W.kitOne W.kitCls
  rw[if_neg (by decide)]
  have h1:W.kitMeta "bool" = true:=by decide +kernel
  simp only [h1,if_true]
  show Option.map (fun x=>x.contains (Value.type "bool")) (fastBuiltinMro "int")=some false
  decide +kernel
theorem filter_tt {α:Type}(l:List α): l.filter (fun _=>true)=l:=List.filter_eq_self.mpr fun _ _=>rfl
theorem l3 {ns:List Int}{n:Int}(h0:0<=n)(h1:n < ns.length): atI (ns.map V.int) n=some (.int (ns.getD n.toNat 0)):=by
  have e:n=((n.toNat:Nat):Int):=by omega
  have hl:n.toNat < ns.length:=by omega
  rw[e]
  refine qU ?_
  rw[List.getElem?_map,List.getElem?_eq_getElem hl,Int.toNat_natCast,List.getD_eq_getElem?_getD,List.getElem?_eq_getElem hl]
  rfl
theorem gR (k:Int): ∀ns:List Int,inV (.int k) (ns.map V.int)=decide (k∈ns)
  | []=>rfl
  | n::r=>by
    have ih:=gR k r
    unfold inV at *
    rw[List.map_cons,List.any_cons,ih]
    show ((n==k) || decide (k∈r))=_
    rw[Bool.eq_iff_iff]
    simp only [Bool.or_eq_true,beq_iff_eq,decide_eq_true_eq,List.mem_cons]
    constructor
    · rintro(h | h)
      · exact .inl h.symm
      · exact .inr h
    · rintro(h | h)
      · exact .inl h.symm
      · exact .inr h
theorem kC:∀ns:List Int,(ns.map V.int).all gk=true
  | []=>rfl
  | n::r=>by rw[List.map_cons,List.all_cons,kC r];rfl
theorem qi (ns:List Int)(lo hi:Option Int): ∃ms:List Int,oJ (ns.map V.int) lo hi=ms.map V.int/\ms.length<=ns.length:=by
  unfold oJ
  refine⟨(ns.drop (HT.sIx (ns.map V.int).length 0 lo)).take (HT.sIx (ns.map V.int).length (ns.map V.int).length hi-HT.sIx (ns.map V.int).length 0 lo),?_,?_⟩
  · rw[List.map_take,List.map_drop]
  · rw[List.length_take,List.length_drop];omega
theorem gS {ms:List Int}{i:Nat}{y:V}(h:(ms.map V.int)[i]?=some y): ∃c:Int,y=.int c/\ms[i]?=some c:=by
  rw[List.getElem?_map] at h
  cases e:ms[i]? with
  | none=>rw[e] at h;cases h
  | some c=>rw[e] at h;exact⟨c,(Option.some.inj h).symm,rfl⟩
end L2

set_option maxHeartbeats 4000000
namespace L2
open PySem PySem.Spec PyProof.Rows
section
variable {tc:TT}{te:TE}{σ:St}{H1:Hp}{acc:Addr}{QH:Hp->Prop}
theorem oZ {K:W.Frag}{l:Addr}{xs:List V}{k:Nat}(hacc:H1 acc=none)(f:V->V)(p:V->Bool)(hl:SqL K H1 l xs)(hn:xs.length < sizeLine)
    (hc:∀(i:Nat) (x:V) (ys:List V),xs[i]?=some x->∀R:Bool->Hp->Prop,R (p x) (upd H1 acc (.lst ys))->tc (some x::σ) (upd H1 acc (.lst ys)) R)
    (he:∀(i:Nat) (x:V) (ys:List V),xs[i]?=some x->p x=true->∀R:VK,R (f x) (upd H1 acc (.lst ys))->te (some x::σ) (upd H1 acc (.lst ys)) R)
    (q:QH (upd H1 acc (.lst ((xs.filter p).map f)))) (hk:k=1:=by rfl):∃(W:Nat->List V->Hp->Prop) (n':Nat),W 0 [] (upd H1 acc (.lst [])) ∧
  ∀i ys H2,W i ys H2->H2 acc=some (.lst ys)/\ys.length < sizeLine/\((i=n'/\(Itl K l).stop i H2/\QH H2)\/(i < n'/\(Itl K l).go i H2/\∀x H3,(Itl K l).yld i H2 x H3->∀τ:St,τ.length=k->(lN 0) x (τ++σ) H3 fun τ2 H4 =>
    (∃τ':St,τ'.length=k/\τ2=τ'++σ)/\tc τ2 H4 fun b H5=>if b=true then te τ2 H5 fun v H6=>H6 acc=some (.lst ys)/\W (i+1) (ys++[v]) (upd H6 acc (.lst (ys++[v]))) else W (i+1) ys H5)):=by
  subst hk
  refine⟨fun i ys H2=>i<=xs.length/\ys=((xs.take i).filter p).map f/\H2=upd H1 acc (.lst ys),xs.length,⟨Nat.zero_le _,rfl,rfl⟩,?_⟩
  rintro i ys H2 ⟨hi,hys,rfl⟩
  have hl2:ys.length < sizeLine:=by
    rw[hys,List.length_map]
    have:=List.length_filter_le p (xs.take i)
    rw[List.length_take] at this
    omega
  have sq:SqL K (upd H1 acc (.lst ys)) l xs:=(bM hacc).seq hl
  refine⟨ai,hl2,?_⟩
  by_cases hlt:i < xs.length
  · refine .inr ⟨hlt,⟨xs,xs[i],sq,by simp[hlt]⟩,?_⟩
    rintro x H3 ⟨rfl,hx⟩ τ hτ
    have hx:=hx xs sq
    obtain⟨t,rfl⟩:∃t,τ=[t]:=by
      match τ,hτ with
      | [t],_=>exact⟨t,rfl⟩
    refine⟨⟨[some x],rfl,rfl⟩,?_⟩
    show tc (some x::σ) _ _
    refine hc i x ys hx _ ?_
    have rs:xs.take (i+1)=xs.take i++[x]:=by
      rw[List.take_add_one,hx]
      rfl
    cases hp:p x with
    | true =>
      refine lR (he i x ys hx hp _ ⟨ai,hlt,?_,nE⟩)
      rw[rs,List.filter_append,List.map_append,hys]
      simp[List.filter,hp]
    | false =>
      refine sN ⟨hlt,?_,rfl⟩
      rw[rs,List.filter_append,List.map_append,hys]
      simp[List.filter,hp]
  · have e:i=xs.length:=by omega
    subst e
    refine .inl ⟨rfl,⟨xs,sq,Nat.le_refl _⟩,?_⟩
    have:=q
    rw[List.take_length] at hys
    rw[<-hys] at this
    exact this
end
section
variable {X:Cx}{pins:List (Addr×Obj)}{σ:St}{H:Hp}{s:Shared}
theorem gm:∀{bs:List Bool} {us:List Value},Vals (bs.map V.bl) us->LSm.BoolsAre us bs
  | [],_,r=>by cases r;exact .nil
  | b::bs,_,r=>by
    rw[List.map_cons] at r
    cases r with
    | cons r1 r2 =>
      cases r1
      exact .cons b (gm r2)
theorem kD (hc:X.calm=true): dw X (.builtin "all") (fun xs H Q=>∃(p:Addr) (bs:List Bool),xs=[.ref p]/\SqL X.K H p (bs.map V.bl)/\Q (.bl (bs.all id)) H):=by
  intro pins s σ H xs us Q I r h
  obtain⟨p,bs,rfl,hq,q⟩:=h
  obtain⟨u,rfl,ru⟩:=vals1 r
  cases ru
  obtain⟨its,rv,pp,hz⟩:=I.list hq
  have hl:=pp.isList
  have hb:=gm rv
  have hlt:p < s.heap.objs.size:=by obtain⟨_,e,_⟩:=hl;exact Heap.lt_size e
  refine call_all_walk (wpAny_pyIter_list hl ?_)
  refine⟨s.heap.objs.size,[s.heap.objs.size,p],[s.heap.objs.size],its.toArray.size,_,_,fun i=>(bs[i]?).getD true,rfl,Walks.list (A:=X.A.in1) (I.ok.hd hc) _ p (Nat.ne_of_lt hlt) its.toArray,
    ⟨⟨_,Heap.get?_push_size _ rfl,rfl,rfl⟩,hl.push _⟩,fun i v s' Q' E' hP hQ=>?_,fun h' tk hk=>?_⟩
  · obtain⟨b,e,rfl⟩:=hb.get i v (by simpa using hP)
    simp only [e,Option.getD_some] at hQ
    exact wpAny_truthy_bool hQ
  · have e:((List.range its.toArray.size).all fun i=>(bs[i]?).getD true)=bs.all id:=by
      rw[List.size_toArray,hb.length];exact LSm.range_all bs
    rw[e]
    exact⟨.bl _,H,I.kept (LSm.kept_iter hk),rfl,q⟩
end
end L2

set_option maxHeartbeats 4000000
namespace L2
open PySem PySem.Spec PyProof.Rows PyProof.V PySem.SeqAt
section
variable {K:W.Frag}{H:Hp}{x y:V}{d:PyData}{Q:VK}{n:Nat}
end
end L2

namespace L2
open PySem PySem.Spec PyProof.Rows
section
variable {X:Cx}
end
def notStar:Expr->Bool
  | .Starred _ _=>false
  | _=>true
theorem o0 {e:Expr}{es:List Expr}{env:Env}(h:notStar e=true): starEach (e::es) env=(false,eval e env)::starEach es env:=by
  cases e<;>first | rfl | cases h
theorem ae {X:Cx}{e:Expr}{es:List Expr}{te:TE}{t:TA}(ha:PE X e te)(hr:PA X es t)(h:notStar e=true): PA X (e::es) (rL te t):=qQ ha hr (o0 h)
theorem exW {p:(Nat->Nat->St->Hp->Prop)->Prop}(w:Nat->Nat->St->Hp->Prop)(h:p w): ∃w,p w:=⟨w,h⟩
theorem exN {p:(St->Hp->Prop)->Prop}(w:St->Hp->Prop)(h:p w): ∃w,p w:=⟨w,h⟩
theorem exD {p:PyData->Prop}(w:PyData)(h:p w): ∃w,p w:=⟨w,h⟩
theorem jr {p:(Nat->St->Hp->Prop)->Prop}(w:Nat->St->Hp->Prop)(h:p w): ∃w,p w:=⟨w,h⟩
theorem dA {H:Hp}{q b:Addr}{u o:HO}(h:H q=none)(e:H b=some o): upd H q u b=some o:=bM h b o e
theorem fA {H:Hp}{q b:Addr}{u o:HO}(h:b≠q)(e:H b=some o): upd H q u b=some o:=by rw[au h];exact e
theorem ck {f g:Str}{v:V}{r:List (Str×V)}{o:Option V}(h:¬g=f)(e:r.lookup g=o): ((f,v)::r).lookup g=o:=by
  have hb:(g==f)=false:=beq_eq_false_iff_ne.mpr h
  simp only [List.lookup,hb]
  exact e
theorem dB {H H':Hp}{q:Addr}{u:HO}(h:H' q=none)(e:Same H H'): Same H (upd H' q u):=e.trans (bM h)
theorem fB {f:Str}{v:V}{r:List (Str×V)}: ((f,v)::r).lookup f=some v:=by
  have hb:(f==f)=true:=beq_iff_eq.mpr rfl
  simp only [List.lookup,hb]
theorem qj {f g:Str}{v x:V}{r:List (Str×V)}(h:¬g=f): dI f v ((g,x)::r)=(g,x)::dI f v r:=if_neg h
theorem mQ {f:Str}{v:V}: dI f v []=[(f,v)]:=rfl
theorem bS.u1 {k:Nat}{A:Around}(r:bS k A): A.units+1 < cLine:=by have:=r.un;omega
section
variable {X:Cx}
theorem sY (hu:X.A.units+1 < cLine): OpR X (compareOp .In) (fun x y H Q=>∃a o,y=.ref a/\jl H a x o/\Q (.bl o.isSome) H):=by
  intro pins s σ H x y v u Q I rx ry h
  obtain⟨a,o,rfl,g,q⟩:=h
  cases ry
  exact vM hu I g rx fun s3 I3=>⟨.bl o.isSome,H,I3,rfl,q⟩
theorem o4 (hu:X.A.units+1 < cLine): OpR X (compareOp .NotIn) (fun x y H Q=>∃a o,y=.ref a/\jl H a x o/\Q (.bl (!o.isSome)) H):=by
  intro pins s σ H x y v u Q I rx ry h
  obtain⟨a,o,rfl,g,q⟩:=h
  cases ry
  exact qZ hu I g rx fun s3 I3=>⟨.bl (!o.isSome),H,I3,rfl,q⟩
end
section
variable {X:Cx}
theorem rl {K:W.Frag}{es:List Expr}{k:Nat}{t:TGs}{n:Nat}{pos:Pos}(hK:X.K=K)(hc:X.calm=true)(h:PGs X es t)
    (hn:(assignEach es X.env).length=n:=by rfl) (hst:(assignEach es X.env).findIdx? (·.1)=none:=by rfl):PG X (.Tuple es k pos) (sk K n t):=by
  subst hK
  exact je hc h hn hst
end
theorem mR {K:W.Frag}{l:Addr}{xs:List V}{k:Nat}{te:TE}{σ:St}{H1:Hp}{acc:Addr}{QH:Hp->Prop}(hacc:H1 acc=none)(f:V->V)(hl:SqL K H1 l xs)(hn:xs.length < sizeLine)
    (hp:∀(i:Nat) (x:V),xs[i]?=some x->∃t u v,x=.ref t/\H1 t=some (.tup [u,v]))
    (he:∀(i:Nat) (t:Addr) (u v:V) (ys:List V),xs[i]?=some (.ref t)->H1 t=some (.tup [u,v])->∀R:VK,R (f (.ref t)) (upd H1 acc (.lst ys))->te (some u::some v::σ) (upd H1 acc (.lst ys)) R)
    (q:QH (upd H1 acc (.lst (xs.map f)))) (hk:k=2:=by rfl):∃(W:Nat->List V->Hp->Prop) (n':Nat),W 0 [] (upd H1 acc (.lst [])) ∧
  ∀i ys H2,W i ys H2->H2 acc=some (.lst ys)/\ys.length < sizeLine/\((i=n'/\(Itl K l).stop i H2/\QH H2)\/(i < n'/\(Itl K l).go i H2/\∀x H3,(Itl K l).yld i H2 x H3->∀τ:St,τ.length=k->(sk K 2 (pH (lN 0) (pH (lN 1) ud))) x (τ++σ) H3 fun τ2 H4 =>
    (∃τ':St,τ'.length=k/\τ2=τ'++σ)/\rO τ2 H4 fun b H5=>if b=true then te τ2 H5 fun v H6=>H6 acc=some (.lst ys)/\W (i+1) (ys++[v]) (upd H6 acc (.lst (ys++[v]))) else W (i+1) ys H5)):=by
  subst hk
  refine⟨fun i ys H2=>i<=xs.length/\ys=(xs.take i).map f/\H2=upd H1 acc (.lst ys),xs.length,⟨Nat.zero_le _,rfl,rfl⟩,?_⟩
  rintro i ys H2 ⟨hi,hys,rfl⟩
  have hl2:ys.length < sizeLine:=by
    rw[hys,List.length_map,List.length_take]
    omega
  have sq:SqL K (upd H1 acc (.lst ys)) l xs:=(bM hacc).seq hl
  refine⟨ai,hl2,?_⟩
  by_cases hlt:i < xs.length
  · refine .inr ⟨hlt,⟨xs,xs[i],sq,by simp[hlt]⟩,?_⟩
    rintro x H3 ⟨rfl,hx⟩ τ hτ
    have hx:=hx xs sq
    obtain⟨t0,t1,rfl⟩:∃t0 t1,τ=[t0,t1]:=by
      match τ,hτ with
      | [t0,t1],_=>exact⟨t0,t1,rfl⟩
    obtain⟨t,u,v,rfl,ht⟩:=hp i x hx
    refine⟨t,_,rfl,SqT.of (bM hacc _ _ ht),rfl,_,_,rfl,_,_,rfl,rfl,⟨[some _,some _],rfl,rfl⟩,?_⟩
    have rs:xs.take (i+1)=xs.take i++[.ref t]:=by
      rw[List.take_add_one,hx]
      rfl
    refine he i t u v ys hx ht _ ⟨ai,hlt,?_,nE⟩
    rw[rs,List.map_append,hys]
    rfl
  · have e:i=xs.length:=by omega
    subst e
    refine .inl ⟨rfl,⟨xs,sq,Nat.le_refl _⟩,?_⟩
    have:=q
    rw[List.take_length] at hys
    rw[<-hys] at this
    exact this
section
variable {X:Cx}
end
end L2

set_option maxHeartbeats 4000000
namespace L2
open PySem PySem.Spec PyProof.Rows
end L2

set_option maxHeartbeats 4000000
namespace L2
open PySem PySem.Spec PyProof.Rows
section
variable {P:Program}{w:World}{K:W.Frag}{mg:Str->Option Value}{base:Heap}{C:Addr}{x m qual:Str}{st:Stmt}{N ps:List Str}{dvs:List V}{k:Nat}{sp:Sp}
end
section
variable {X:Cx}{C:Addr}{k:Nat}{ps:List Str}{sp:Sp}{dvs:List V}{E:St->XK}{x m:Str}{p pos apos:Pos}{e o:Expr}{es:List Expr}{ta:TE}{t:TA}
end
section
variable {X:Cx}{P:Program}{w:World}{K:W.Frag}{mg:Str->Option Value}{base:Heap}{m:Str}{dvs:List V}{k:Nat}{E:St->XK}{ta:TE}{t:TA}{o e:Expr}{es:List Expr}{pos apos:Pos}
end
structure TopD (P:Params)(K:W.Frag)(a:Addr): Prop where
  lk:∃es n,K.lookup a=some ⟨.type "dict",none,.dict es n,#[]⟩/\W.KeysLit P es.toList
  sy:(a==sysModules)=false
section
variable {X:Cx}{a:Addr}{x:Str}{i:Expr}{ty:TE}{p pos:Pos}
end
section
variable {P:Program}{w:World}{K:W.Frag}{mg:Str->Option Value}{base:Heap}{C f:Addr}{m:Str}{ps:List Str}{dvs:List V}{ds:List Value}{k:Nat}{sp:Sp}{fd:FuncData}
end
section
variable {X:Cx}{x:Str}{pos:Pos}
end
theorem o5 {its:Array Value}{n:Nat}(h:its.size=n)(hn:n<=1000:=by decide): its.size<=sizeLine:=by rw[h];exact aQ hn
end L2

set_option maxHeartbeats 4000000
namespace L2
open PySem PySem.Spec PyProof.Rows
section
variable {X:Cx}{pins:List (Addr×Obj)}{σ:St}{H:Hp}{s:Shared}
end
end L2

set_option maxHeartbeats 4000000
namespace L2
open PySem PySem.Spec PyProof.Rows
def gn (kvs:List (Key×V))(ks:List Int): Prop:=kvs.map (·.1)=ks.map Sum.inl
theorem iw {P:Program}{w:World}: ∀{kvs:List (Key×V)} {vs:List (Key×Value)} {ks:List Int} {acc:List Value},KV kvs vs->gn kvs ks->acc.length=vs.length ->
    (∀(j:Nat) (v:Value),acc[j]?=some v->∃k x,vs[j]?=some (k,x)/\(bq P w).is k v=true)->IntsAre acc ks
  | _,_,ks,acc,.nil,hk,hl,h=>by
    have e:ks=[]:=by
      cases ks with
      | nil=>rfl
      | cons a b=>cases hk
    have e2:acc=[]:=List.eq_nil_of_length_eq_zero hl
    rw[e,e2];exact .nil
  | _,_,ks,acc,.cons (a:=p) (b:=q) r t,hk,hl,h=>by
    cases ks with
    | nil=>cases hk
    | cons i ks =>
      cases acc with
      | nil=>cases hl
      | cons v acc =>
        have hk':=List.cons.inj hk
        obtain⟨k,x,e1,e2⟩:=h 0 v rfl
        have e1:q=(k,x):=Option.some.inj e1
        have ek:k=.inl i:=by
          have:p.1=q.1:=r.1
          rw[e1] at this
          exact this.symm.trans hk'.1
        subst ek
        obtain⟨tk,rfl⟩:∃t,v=.int i t:=by
          have e2:Value.isInt i v=true:=e2
          unfold Value.isInt at e2
          split at e2
          · next n _=>exact⟨n,by simp at e2;rw[e2]⟩
          · cases e2
        exact .cons i tk (iw t hk'.2 (Nat.succ.inj hl) fun j v' e=>h (j+1) v' (by simpa using e))
theorem fV:∀{vs:List Value} {ns:List Int},IntsAre vs ns->Vals (ns.map V.int) vs
  | _,_,.nil=>.nil
  | _,_,.cons n t r=>.cons ⟨t,rfl⟩ (fV r)
section
variable {X:Cx}
theorem mS (hh:X.A.handled=none): dw X (.type "list") (fun xs H Q=>∃a kvs ks,xs=[V.ref a]/\H a=some (.dK kvs)/\gn kvs ks/\∀p,H p=none->Q (.ref p) (upd H p (.lst (ks.map V.int)))):=by
  intro pins s σ H xs us Q I r h
  obtain⟨a,kvs,ks,rfl,ea,hk,q⟩:=h
  obtain⟨u,rfl,rx⟩:=vals1 r
  cases rx
  obtain⟨z,hd,vs,rel,dd⟩:=nO I.hok ea
  obtain⟨ep,da⟩:=dd.dictAt
  have hl:=rel.length
  refine W.kdl_call (W.kdl_dict hd) hh da (by omega) fun h' tk acc c' kp e it=>?_
  have ia:=iw rel hk (acc:=acc.toList) (by rw[Array.length_toList];exact it.1) fun j v e=>it.2 j v (by simpa using e)
  have iv:=fV ia
  have il:=iv.length
  refine⟨.ref s.heap.objs.size,_,I.laid (t':=tk) kp (Nat.le_refl _) (show aV X.prog X.w _ h' _ (.lst (ks.map V.int)) from ⟨?_,acc.toList,c',iv,e⟩),rfl,q _ (I.hok.fresh (Nat.le_refl _))⟩
  have:kvs.length=ks.length:=by have:=congrArg List.length hk;simpa using this
  rw[List.length_map];omega
theorem gT (hh:X.A.handled=none): dw X (.builtin "sorted") (fun xs H Q=>∃a kvs ks,xs=[V.ref a]/\H a=some (.dK kvs)/\gn kvs ks/\ks.length < 64/\∀(p:Addr) (ns:List Int),H p=none->ns.Perm ks->ns.Pairwise (·<=·)->Q (.ref p) (upd H p (.lst (ns.map V.int)))):=by
  intro pins s σ H xs us Q I r h
  obtain⟨a,kvs,ks,rfl,ea,hk,k64,q⟩:=h
  obtain⟨u,rfl,rx⟩:=vals1 r
  cases rx
  obtain⟨z,hd,vs,rel,dd⟩:=nO I.hok ea
  obtain⟨ep,da⟩:=dd.dictAt
  have hl:=rel.length
  have kl:kvs.length=ks.length:=by have:=congrArg List.length hk;simpa using this
  refine Calls.call_function_entry kind_sorted plain_sorted entry_sorted (args_sorted1 (Value.ref a)) ?_
  refine wpAny_bind (wpAny_pure (wpAny_bind (W.kdu_collect (W.kdl_dict hd) hh da (by omega) fun h' tk acc kp it=>?_)))
  have ia:=iw rel hk (acc:=acc.toList) (by rw[Array.length_toList];exact it.1) fun j v e=>it.2 j v (by simpa using e)
  have al:acc.toList.length=vs.length:=by rw[Array.length_toList];exact it.1
  refine wpAny_bind (wpAny_newList ?_ (by rw[sizeLine_eq];omega))
  have hoL:(h'.push (seqObj "list" acc.toList.toArray 0)).get? h'.objs.size=some (seqObj "list" acc.toList.toArray 0):=Heap.get?_push_size h' rfl
  refine wpAny_bind (wpAny_holding (wpAny_call_entry slot_list_sort ⟨_,hoL,rfl⟩ entry_list_sort (list_sort_tree hoL ia (by omega) fun out ns' a1 a2 a3=>⟨.none,rfl,wpAny_pure ⟨_,rfl,?_⟩⟩) (args_list_sort _)))
  have sz:(h'.push (seqObj "list" acc.toList.toArray 0)).objs.size=h'.objs.size+1:=size_push' _ _
  have I1:=I.kept (t':=tk) kp
  have kp':∀b o,h'.get? b=some o->(sortedHeap (h'.push (seqObj "list" acc.toList.toArray 0)) h'.objs.size acc.toList out).get? b=some o:=fun b o e=>by
    have lt:b < h'.objs.size:=Heap.lt_size e
    rw[sortedHeap_old (Nat.ne_of_lt lt) (Nat.lt_of_lt_of_le lt (by rw[sz];exact Nat.le_succ _)),Heap.get?_push_of_some _ e]
  obtain⟨ee,he⟩:=sortedHeap_at (out:=out) hoL
  have iv:=fV a1
  have hp:=a2.length_eq
  refine⟨.ref h'.objs.size,_,I1.laid (t':=tk) kp' (Nat.le_refl _) (show aV X.prog X.w _ _ _ (.lst (ns'.map V.int)) from ⟨?_,out.toList,ee,iv,he⟩),rfl,q _ ns' (I1.hok.fresh (Nat.le_refl _)) a2 a3⟩
  rw[List.length_map,sizeLine_eq];omega
variable {pins:List (Addr×Obj)}{σ:St}{H:Hp}{s:Shared}{a:Addr}{kvs:List (Key×V)}{k:Key}{A:Around}{E:Value->Shared->Prop}{u:Value}
variable {o e' f:Expr}{apos cpos:Pos}{td ty tx:TE}
end
end L2

set_option maxHeartbeats 4000000
namespace L2
open PySem PyProof.Rows
section
variable {x y:Int}{k:Nat}
end
end L2

set_option maxHeartbeats 4000000
namespace L2
open PySem PyProof.Rows
end L2

set_option maxHeartbeats 4000000
namespace L2
open PySem PySem.Spec PyProof.Rows
section
variable {X:Cx}{pins:List (Addr×Obj)}{σ:St}{H:Hp}{s:Shared}
end
end L2

set_option maxHeartbeats 4000000
namespace L2
end L2

set_option maxHeartbeats 4000000
namespace PySem
open Sem (wp)
open AutoSeq1 (wpAny_loadPart')
section
variable {prog:Program}{w:World}{A:Around}{E:Value->Shared->Prop}{s:Shared}
end
end PySem

set_option maxHeartbeats 4000000
namespace L2
open PySem PySem.Spec PyProof.Rows
section
variable {X:Cx}{pins:List (Addr×Obj)}{σ:St}{H:Hp}{s:Shared}
end
end L2

set_option maxHeartbeats 4000000
namespace PySem
namespace F
end F
section
variable {prog:Program}{w:World}{A:Around}{E:Value->Shared->Prop}{s:Shared}
open PyProof.Rows
end
namespace F
end F
section
open Sem (wp)
variable {prog:Program}{w:World}{A:Around}{s:Shared}{R:Result->Shared->Prop}
variable {I:Addr}{fp wr:List Addr}{G:Array GenState->Array GenState->Prop}{n:Nat}{P:Nat->Value->Prop}{St:Nat->Shared->Prop}
end
section
variable {prog:Program}{w:World}{A:Around}{E:Value->Shared->Prop}{s:Shared}
variable {I:Addr}{fp wr:List Addr}{G:Array GenState->Array GenState->Prop}{n:Nat}{P:Nat->Value->Prop}{St:Nat->Shared->Prop}
end
end PySem

set_option maxHeartbeats 4000000
namespace L2
open PySem PySem.Spec PyProof.Rows
section
variable {X:Cx}{tg l:Expr}{tl:TE}{p pos:Pos}
end
end L2

set_option maxHeartbeats 4000000
namespace L2
open PySem PySem.Spec PyProof.Rows
end L2

set_option maxHeartbeats 4000000
namespace L2
open PySem PySem.Spec PyProof.Rows
section
variable {X:Cx}{tg:Expr}
end
end L2

set_option maxHeartbeats 4000000
namespace L2
open PySem PySem.Spec PyProof.Rows
section
variable {X:Cx}{pins:List (Addr×Obj)}{σ:St}{H:Hp}{s:Shared}{a:Addr}
end
end L2

set_option maxHeartbeats 4000000
namespace L2
open PySem PySem.Spec PyProof.Rows
section
variable {X:Cx}
end
end L2

set_option maxHeartbeats 4000000
namespace L2
open PySem PySem.Spec PyProof.Rows
section
variable {X:Cx}{tg:Expr}
end
end L2


set_option maxHeartbeats 4000000
namespace PySem
section
variable {prog:Program}{w:World}{A:Around}{E:Value->Shared->Prop}{s:Shared}
end
section
variable {prog:Program}{w:World}{A:Around}{E:Value->Shared->Prop}{s:Shared}{z TI TO i1 i2 l1 l2:Addr}{xs ys:Array Value}{P1 P2:Nat->Heap->Prop}
end
end PySem

set_option maxHeartbeats 4000000
namespace L2
open PySem PySem.Spec PyProof.Rows
section
variable {X:Cx}{pins:List (Addr×Obj)}{σ:St}{H:Hp}{s:Shared}
end
section
variable {X:Cx}{elts:List Expr}{kk:Nat}{tpos p pos:Pos}{e1 e2:Expr}{t1 t2:TE}
end
section
variable {X:Cx}
end
end L2


set_option maxHeartbeats 4000000
namespace L2
open PySem PySem.Spec PyProof.Rows
section
variable {X:Cx}
end
section
variable {X:Cx}{k:Nat}{C:Addr}{ps:List Str}{sp:Sp}{dvs:List V}{E:St->XK}{x:Str}{p pos:Pos}
theorem sZ (h:bp X.prog X.w X.K X.mg X.base C k ps sp dvs)(hr:bS (k+1) X.A)(hg:Gl X x)(hm:X.mg x=some (.ref C))(hx:bG (CXE X.prog X.w) X E)
    (hdb:(x==("__debug__" : Str))=false:=by decide):PE X (.Call (.Name x p) [] [] pos) (mL C sp dvs E qP):=by
  obtain⟨f,fd,ds,F,M,hb,hd⟩:=h
  intro pins s σ H Q I h
  refine wpAny_Call_Name_kw (fR I hg hm ?_ hdb)
  exact W.callWith_K0 I.kIn M.kp (ky (us:=[]) M F hr hb hd (fun H2 s2 e s' J z=>hx pins σ H2 s2 e s' J z) I .nil h)
end
end L2

set_option maxHeartbeats 4000000
namespace L2
open PySem PySem.Spec PyProof.Rows
section
variable {prog:Program}{w:World}{A:Around}{E:Value->Shared->Prop}{s:Shared}
end
section
variable {X:Cx}
end
end L2

set_option maxHeartbeats 4000000
namespace L2
open PySem PySem.Spec PyProof.Rows
section
variable {X:Cx}
end
end L2

set_option maxHeartbeats 4000000
namespace L2
open PySem PySem.Spec PyProof.Rows
section
variable {M:Model}{A:Around}{E:Value->Shared->Prop}{h:Heap}{g:Array GenState}{d:Drawn}{t:Nat}{os:OsState}
variable {nm q:Str}{C N:Addr}{bs bm bmB:List Value}{hdct:Bool}{sn:List Str}{sub:List Value}{ab:Bool}{col:Option Bool}{dd:Option Addr}{k0 k1 k2 k3 k5:Option Value}{B newId initId:String}
end
section
variable {prog:Program}{w:World}{A:Around}{E:Value->Shared->Prop}{h:Heap}{g:Array GenState}{d:Drawn}{t:Nat}{os:OsState}
variable {nm q:Str}{C N:Addr}{bs bm bmB:List Value}{hdct:Bool}{sn:List Str}{sub:List Value}{ab:Bool}{col:Option Bool}{dd:Option Addr}{k0 k1 k2 k3 k5:Option Value}{B newId initId:String}
end
section
variable {X:Cx}{E:St->XK}{x:Str}{C f:Addr}{e₀:Expr}{es:List Expr}{t:TA}{np cpos pos:Pos}{k:Nat}{fd:FuncData}{ps:List Str}{sp:Sp}{dvs:List V}{ds:List Value}
end
end L2

set_option maxHeartbeats 4000000
namespace L2
open PySem PySem.Spec PyProof.Rows
open Builtin Builtin.ObjectAttr
section
variable {prog:Program}{w:World}{A:Around}{E:Value->Shared->Prop}{h:Heap}{g:Array GenState}{d:Drawn}{t:Nat}{os:OsState}
variable {nm q:Str}{C N x:Addr}{bs bm bmB:List Value}{sn:List Str}{sub:List Value}{ab:Bool}{col:Option Bool}{dd:Option Addr}{k0 k1 k2 k3 k5:Option Value}{B newId sa owner:String}{mA:Str->Option Value}{name:Str}{v:Value}{o:Obj}
end
section
variable {X:Cx}{pins:List (Addr×Obj)}{σ:St}{H:Hp}{s:Shared}{a d C:Addr}{f:Str}{A:Around}{E:Value->Shared->Prop}
end
section
variable {X:Cx}{o value:Expr}{f:Str}{pos pos':Pos}{ta tv:TE}
end
end L2

set_option maxHeartbeats 4000000
namespace L2
open PySem PySem.Spec PyProof.Rows
section
variable {prog:Program}{w:World}{A:Around}{E:Value->Shared->Prop}{h:Heap}{g:Array GenState}{d:Drawn}{t:Nat}{os:OsState}{a dx:Addr}{o:Obj}{vs:Array Value}{v:Value}{name:Str}{mA:Str->Option Value}
  {nm q:Str} {C N:Addr} {bs bm bmB:List Value} {sn:List Str} {sub:List Value} {ab:Bool} {col:Option Bool} {dd:Option Addr} {k0 k1 k2 k3 k5:Option Value} {B newId:String}
end
section
variable {X:Cx}{e:Expr}{f:Str}{pos:Pos}{ta:TE}
end
end L2

set_option maxHeartbeats 4000000
namespace L2
open PySem PySem.Spec PyProof.Rows
section
variable {A:Around}{E:Value->Shared->Prop}{h:Heap}{g:Array GenState}{d:Drawn}{t:Nat}{os:OsState}
variable {nm q:Str}{C N:Addr}{bs bm bmB:List Value}{hdct:Bool}{sn:List Str}{sub:List Value}{ab:Bool}{col:Option Bool}{dd:Option Addr}{k0 k1 k2 k3 k5:Option Value}{B newId initId:String}
end
section
variable {X:Cx}
variable {C:Addr}{x:Str}{p pos apos:Pos}{e:Expr}{es:List Expr}{t:TA}
end
end L2

set_option maxHeartbeats 4000000
namespace L2
open PySem PySem.Spec PyProof.Rows
section
variable {K:W.Frag}{C f:Addr}{n:Str}
end
section
variable {P:Program}{w:World}{K:W.Frag}{mg:Str->Option Value}{base:Heap}{C:Addr}{qual:Str}{st:Stmt}{N ps:List Str}{dvs:List V}{k:Nat}{sp:Sp}
end
section
variable {X:Cx}{E:St->XK}{x:Str}{C:Addr}{e₀:Expr}{es:List Expr}{t:TA}{np cpos pos:Pos}{k:Nat}{ps:List Str}{sp:Sp}{dvs:List V}
end
end L2

set_option maxHeartbeats 4000000
namespace L2
open PySem PySem.Spec PyProof.Rows
end L2

set_option maxHeartbeats 4000000
namespace PySem
namespace F
end F
section
variable {prog:Program}{w:World}{A:Around}{E:Value->Shared->Prop}{s:Shared}
end
end PySem
namespace L2
open PySem PySem.Spec PyProof.Rows
section
variable {X:Cx}{tg:Expr}
end
end L2

set_option maxHeartbeats 4000000
namespace L2
open PySem PySem.Spec PyProof.Rows
theorem js:∀(l:List Int) (i:Nat),(l.eraseIdx i).map V.int=(l.map V.int).eraseIdx i
  | [],_=>rfl
  | _::_,0=>rfl
  | a::l,i+1=>congrArg (V.int a::·) (js l i)
section
variable {X:Cx}
theorem o6 (hc:X.calm=true): dw X (.builtin "max") (fun xs H Q=>∃(p:Addr) (ns:List Int),xs=[.ref p]/\SqL X.K H p (ns.map V.int)/\0 < ns.length/\∀M,M∈ns->(∀b∈ns,b<=M)->Q (.int M) H):=by
  intro pins s σ H xs us Q I r h
  obtain⟨p,ns,rfl,hq,hn,q⟩:=h
  obtain⟨u,rfl,ru⟩:=vals1 r
  cases ru
  obtain⟨vs,hl,hi,_⟩:=I.listI hq
  obtain⟨ys,hx⟩:=hi.allInts.items
  have hl':s.heap.IsList p (intItems ys):=hx ▸ hl
  have e1:ns=ys.toList.map (·.1):=by
    rw[<-nums_intItems,<-hx]
    exact(show numsOf vs.toArray.toList=ns from hi.numsOf).symm
  have sz:0 < ys.size:=by rw[e1,List.length_map,Array.length_toList] at hn;exact hn
  refine max_intList (I.ok.hd hc) hl' sz fun v h' tk hv hk=>?_
  obtain⟨t,rfl⟩:=intItems_at hv
  obtain⟨h1,h2⟩:=argBest_gt (numAt ys) (ys.size-1)
  refine⟨.int _,H,I.kept hk,⟨t,rfl⟩,q _ ?_ fun b hb=>?_⟩
  · rw[e1,numAt_eq];exact getD_mem (by rw[List.length_map,Array.length_toList];omega)
  · rw[e1] at hb
    obtain⟨j,hj,rfl⟩:=mem_getD hb
    rw[List.length_map,Array.length_toList] at hj
    rw[<-numAt_eq];exact h2 j (by omega)
def rm:V->List V->Hp->VK->Prop:=fun x vs H Q=>∃(l:Addr) (ns:List Int) (k:Int),x=.ref l/\vs=[.int k]/\H l=some (.lst (ns.map V.int))/\k∈ns/\Q .non (upd H l (.lst ((ns.erase k).map V.int)))
theorem o7:MtM X "list.remove" rm:=by
  intro pins s σ H x xs v us Q I rx rv h
  obtain⟨l,ns,k,rfl,rfl,hl,hk,q⟩:=h
  cases rx
  obtain⟨u,rfl,t,rfl⟩:=vals1 rv
  obtain⟨z,its,n,r,hlen,e⟩:=I.oK hl
  have hi:=er r
  have h1:ns.idxOf k < ns.length:=List.idxOf_lt_length_iff.mpr hk
  have h2:=hi.length
  have h3:sizeLine=16777216:=sizeLine_eq
  have ze:(ns.erase k).map V.int=(ns.map V.int).eraseIdx (ns.idxOf k):=by
    rw[List.erase_eq_eraseIdx_of_idxOf rfl,js]
  refine call_meets PySem.F.slot_list_remove ⟨_,e,rfl⟩ PySem.F.entry_list_remove (PySem.F.args_list_remove_2 _ _) (MeetsSeq.list_remove l its.toArray n (.int k t) (isInt k) (fun y hy=>eq_isInt k t hi y (by simpa using hy)) (ns.idxOf k)
    (by simpa [h2] using h1) ?_ (fun j hj lt=>?_) (by rw[List.size_toArray];rw[List.length_map] at z;omega)) ⟨e,?_⟩
  · have:isInt k (its[ns.idxOf k]'(by omega))=true:=by
      rw[isInt_at k hi _ (by omega) h1]
      simpa using List.getElem_idxOf h1
    exact this
  · have:isInt k (its[j]'(by simpa using hj))=false:=by
      rw[isInt_at k hi j (by simpa using hj) (by omega)]
      exact ne_of_lt_idxOf lt _
    exact this
  · refine⟨.non,_,I.sJ (its':=its.eraseIdx (ns.idxOf k)) hl e ?_ ?_ ?_,rfl,q⟩
    · show its.toArray.eraseIdxIfInBounds _=(its.eraseIdx _).toArray
      rw[List.eraseIdxIfInBounds_toArray]
    · rw[ze];exact r.eraseIdx _
    · rw[ze]
      have:=ke (ns.map V.int) (ns.idxOf k)
      omega
theorem kW (hh:X.A.handled=none): dw X (.builtin "sorted") (fun xs H Q=>∃(l:Addr) (ks:List Int),xs=[V.ref l]/\SqL X.K H l (ks.map V.int)/\ks.length < 64/\∀(p:Addr) (ns:List Int),H p=none->ns.Perm ks->ns.Pairwise (·<=·)->Q (.ref p) (upd H p (.lst (ns.map V.int)))):=by
  intro pins s σ H xs us Q I r h
  obtain⟨l,ks,rfl,hq,kl,q⟩:=h
  obtain⟨u,rfl,ru⟩:=vals1 r
  cases ru
  obtain⟨vs,hl,hi,_⟩:=I.listI hq
  have vl:=hi.length
  refine sorted_ints hl hi (by omega) fun out ns' a1 a2 a3=>?_
  obtain⟨ee,he⟩:=sortedAll_at s.heap vs out
  have iv:=fV a1
  have hp:=a2.length_eq
  refine⟨.ref (s.heap.objs.size+1),_,I.laid (t':=s.toks) (fun _ _=>sortedAll_old) (Nat.le_succ _) (show aV X.prog X.w _ _ _ (.lst (ns'.map V.int)) from ⟨?_,out.toList,ee,iv,he⟩),rfl,q _ ns' (I.hok.fresh (Nat.le_succ _)) a2 a3⟩
  rw[List.length_map,sizeLine_eq];omega
end
end L2

set_option maxHeartbeats 4000000
local macro_rules | `(tactic| walk_at "lk") => `(tactic| first | exact L2.fB | (apply L2.ck; (first | done | decide +kernel); walk_at "lk") | exact rfl)
local macro_rules | `(tactic| walk_at "hp") => `(tactic| first | assumption | exact L2.ai | (apply L2.dA; (first | done | assumption); walk_at "hp") | (apply L2.fA; (first | done | assumption); walk_at "hp"))
local macro_rules | `(tactic| walk_at "ty") => `(tactic| first | assumption | exact L2.TyE.of (L2.az.int _) | exact L2.TyE.of (L2.az.bl _) | exact L2.TyE.of L2.az.non | exact L2.TyE.of (L2.az.str _) | (apply L2.TyE.of; apply L2.az.lst; walk_at "hp") | (apply L2.TyE.of; apply L2.az.tup; walk_at "hp") | (apply L2.TyE.of; apply L2.az.dK; walk_at "hp"))
local macro_rules | `(tactic| walk_at "cl") => `(tactic| first | (with_reducible show (_ : Int) ≤ _; omega) | (with_reducible show (_ : Int) < _; omega) | (with_reducible show (_ : Nat) ≤ _; omega) | (with_reducible show (_ : Nat) < _; omega) | (with_reducible assumption) | exact rfl | assumption | (with_reducible apply L2.SqL.of; walk_at "hp") | (with_reducible apply L2.SqT.of; walk_at "hp") | walk_at "hp" | ((with_reducible apply Or.inl); assumption) | ((with_reducible apply Or.inr); assumption) | (with_reducible apply Or.inl; with_reducible apply L2.SqL.of; walk_at "hp") | (with_reducible apply Or.inr; with_reducible apply L2.SqT.of; walk_at "hp") | (apply Or.inl; refine And.intro rfl ?_; apply Exists.intro; apply L2.SqL.of; walk_at "hp") | walk_at "lk" | walk_at "ty" | exact L2.bB _ _ | exact L2.cW _ | exact L2.aN | exact L2.aQ (Nat.le_of_ble_eq_true rfl) | (show List.length _ < _; exact Nat.le_of_ble_eq_true rfl) | omega | (apply Exists.intro; with_reducible apply L2.SqL.of; walk_at "hp") | (apply Exists.intro; with_reducible apply L2.SqT.of; walk_at "hp") | (apply Or.inr; refine ⟨?_, ?_⟩ <;> omega) | (apply Or.inl; refine ⟨?_, ?_⟩ <;> omega) | decide | (show (0 : Int) < _; first | decide | omega | assumption) | (refine ⟨?_, ?_⟩ <;> decide) | (refine ⟨?_, ?_, ?_⟩ <;> decide) )
local macro_rules | `(tactic| walk_at "ex") => `(tactic| ((fail_if_success (refine L2.exW ?_ ?_)); (fail_if_success (refine L2.jr ?_ ?_)); (fail_if_success (refine L2.exN ?_ ?_)); (fail_if_success (refine L2.exD ?_ ?_)); apply Exists.intro))
local macro_rules | `(tactic| walk_at "go") => `(tactic| repeat (first | (apply And.intro; (walk_at "cl")) | walk_at "ex"))
namespace K35
open PySem L2
def top (i:Nat): Stmt:=PySem.Challenge.pw_leafframe_k35_tasks_numbered.main.body.getD i (.Pass ⟨0,0,0,0⟩)
abbrev dU:Stmt:=top 62
abbrev cE:Stmt:=inClass (top 64) 0
abbrev eB:Stmt:=inClass (top 64) 2
abbrev cm:Stmt:=inClass (top 26) 0
abbrev cF:Stmt:=inClass (top 31) 0
abbrev cX:Stmt:=inClass (top 23) 0
abbrev cY:Stmt:=inClass (top 33) 0
abbrev cZ:Stmt:=inClass (top 42) 0
abbrev b4:Stmt:=inClass (top 42) 5
abbrev cq:Stmt:=inClass (top 44) 0
abbrev cG:Stmt:=top 46
abbrev c4:Stmt:=inClass (top 47) 0
abbrev fD:Stmt:=inClass (top 47) 6
abbrev cH:Stmt:=inClass (top 49) 0
abbrev eC:Stmt:=inClass (top 49) 8
abbrev fE:Stmt:=inClass (top 49) 7
abbrev eD:Stmt:=inClass (top 49) 10
abbrev a9:Stmt:=inClass (top 51) 0
abbrev cr:Stmt:=top 52
abbrev eE:Stmt:=top 53
abbrev gx:Stmt:=top 54
abbrev eF:Stmt:=top 55
abbrev eG:Stmt:=top 38
abbrev eI:Stmt:=top 39
abbrev fF:Stmt:=top 57
abbrev gA:Stmt:=top 58
abbrev eJ:Stmt:=top 66
abbrev eK:Stmt:=top 67
abbrev dC:Stmt:=top 68
abbrev dW:Stmt:=top 69
abbrev fG:Stmt:=top 70
abbrev eL:Stmt:=top 71
abbrev bh:Stmt:=top 72
abbrev cu:Stmt:=top 73
abbrev jN:List Str:=["widths", "low", "width"]
theorem fH:ay jN ["widths", "low"] (ak dU):=⟨rfl,rfl,rfl,by decide +kernel,rfl,by decide +kernel,by decide +kernel⟩
abbrev iy:List Str:=["self", "widths", "low"]
theorem gU:ay iy ["self", "widths", "low"] (ak cE):=⟨rfl,rfl,rfl,by decide +kernel,rfl,by decide +kernel,by decide +kernel⟩
abbrev kX:List Str:=["self"]
theorem jO:ay kX ["self"] (ak eB):=⟨rfl,rfl,rfl,by decide +kernel,rfl,by decide +kernel,by decide +kernel⟩
abbrev gW:List Str:=["self", "many"]
theorem gB:ay gW ["self", "many"] (ak cm):=⟨rfl,rfl,rfl,by decide +kernel,rfl,by decide +kernel,by decide +kernel⟩
abbrev iz:List Str:=["self", "many", "size"]
theorem gX:ay iz ["self", "many", "size"] (ak cF):=⟨rfl,rfl,rfl,by decide +kernel,rfl,by decide +kernel,by decide +kernel⟩
abbrev i3:List Str:=["self", "many"]
theorem iA:ay i3 ["self", "many"] (ak cX):=⟨rfl,rfl,rfl,by decide +kernel,rfl,by decide +kernel,by decide +kernel⟩
abbrev i4:List Str:=["self", "frames", "slots", "size"]
theorem iB:ay i4 ["self", "frames", "slots", "size"] (ak cY):=⟨rfl,rfl,rfl,by decide +kernel,rfl,by decide +kernel,by decide +kernel⟩
abbrev i5:List Str:=["self", "many"]
theorem iC:ay i5 ["self", "many"] (ak cZ):=⟨rfl,rfl,rfl,by decide +kernel,rfl,by decide +kernel,by decide +kernel⟩
abbrev gC:List Str:=["self", "task", "place"]
theorem df:ay gC ["self", "task"] (ak b4):=⟨rfl,rfl,rfl,by decide +kernel,rfl,by decide +kernel,by decide +kernel⟩
abbrev gY:List Str:=["self"]
theorem gD:ay gY ["self"] (ak cq):=⟨rfl,rfl,rfl,by decide +kernel,rfl,by decide +kernel,by decide +kernel⟩
abbrev iD:List Str:=["nodes", "width", "below", "number", "table", "index"]
theorem a_:ay iD ["nodes", "width"] (ak cG):=⟨rfl,rfl,rfl,by decide +kernel,rfl,by decide +kernel,by decide +kernel⟩
abbrev i6:List Str:=["self", "shape"]
theorem iE:ay i6 ["self", "shape"] (ak c4):=⟨rfl,rfl,rfl,by decide +kernel,rfl,by decide +kernel,by decide +kernel⟩
abbrev l5:List Str:=["self", "nodes", "width"]
theorem dh:ay l5 ["self"] (ak fD):=⟨rfl,rfl,rfl,by decide +kernel,rfl,by decide +kernel,by decide +kernel⟩
abbrev iF:List Str:=["self", "shape", "task"]
theorem gZ:ay iF ["self", "shape", "task"] (ak cH):=⟨rfl,rfl,rfl,by decide +kernel,rfl,by decide +kernel,by decide +kernel⟩
abbrev kY:List Str:=["self"]
theorem jP:ay kY ["self"] (ak eC):=⟨rfl,rfl,rfl,by decide +kernel,rfl,by decide +kernel,by decide +kernel⟩
abbrev l6:List Str:=["self", "page", "leaf"]
theorem kZ:ay l6 ["self", "page", "leaf"] (ak fE):=⟨rfl,rfl,rfl,by decide +kernel,rfl,by decide +kernel,by decide +kernel⟩
abbrev k4:List Str:=["self", "task", "other", "page", "leaf"]
theorem cP:ay k4 ["self", "task"] (ak eD):=⟨rfl,rfl,rfl,by decide +kernel,rfl,by decide +kernel,by decide +kernel⟩
abbrev g7:List Str:=["self", "shape", "frames", "slots", "near"]
theorem gE:ay g7 ["self", "shape", "frames", "slots", "near"] (ak a9):=⟨rfl,rfl,rfl,by decide +kernel,rfl,by decide +kernel,by decide +kernel⟩
abbrev g9:List Str:=["memory", "task"]
theorem b5:ay g9 ["memory"] (ak cr):=⟨rfl,rfl,rfl,by decide +kernel,rfl,by decide +kernel,by decide +kernel⟩
abbrev k8:List Str:=["memory", "task"]
theorem gp:ay k8 ["memory"] (ak eE):=⟨rfl,rfl,rfl,by decide +kernel,rfl,by decide +kernel,by decide +kernel⟩
abbrev mU:List Str:=["memory", "task"]
theorem l7:ay mU ["memory", "task"] (ak gx):=⟨rfl,rfl,rfl,by decide +kernel,rfl,by decide +kernel,by decide +kernel⟩
abbrev k_:List Str:=["memory"]
theorem jQ:ay k_ ["memory"] (ak eF):=⟨rfl,rfl,rfl,by decide +kernel,rfl,by decide +kernel,by decide +kernel⟩
abbrev lg:List Str:=["memory", "leaf"]
theorem jR:ay lg ["memory", "leaf"] (ak eG):=⟨rfl,rfl,rfl,by decide +kernel,rfl,by decide +kernel,by decide +kernel⟩
abbrev lh:List Str:=["memory", "leaf", "part"]
theorem jS:ay lh ["memory", "leaf"] (ak eI):=⟨rfl,rfl,rfl,by decide +kernel,rfl,by decide +kernel,by decide +kernel⟩
abbrev l8:List Str:=["memory", "task", "space", "child", "page", "leaf"]
theorem cv:ay l8 ["memory", "task"] (ak fF):=⟨rfl,rfl,rfl,by decide +kernel,rfl,by decide +kernel,by decide +kernel⟩
abbrev mV:List Str:=["memory", "task", "space", "page", "leaf"]
theorem dN:ay mV ["memory", "task"] (ak gA):=⟨rfl,rfl,rfl,by decide +kernel,rfl,by decide +kernel,by decide +kernel⟩
abbrev li:List Str:=["_law_found"]
theorem jT:ay li ["_law_found"] (ak eJ):=⟨rfl,rfl,rfl,by decide +kernel,rfl,by decide +kernel,by decide +kernel⟩
abbrev lj:List Str:=["_law_live", "_law_k"]
theorem gq:ay lj ["_law_live"] (ak eK):=⟨rfl,rfl,rfl,by decide +kernel,rfl,by decide +kernel,by decide +kernel⟩
abbrev jt:List Str:=["_law_memory", "_law_task", "_law_way", "_law_refused_here", "e"]
theorem bX:ay jt ["_law_memory", "_law_task", "_law_way"] (ak dC):=⟨rfl,rfl,rfl,by decide +kernel,rfl,by decide +kernel,by decide +kernel⟩
abbrev jU:List Str:=["_law_live", "_law_cell", "_law_far"]
theorem fI:ay jU ["_law_live", "_law_cell"] (ak dW):=⟨rfl,rfl,rfl,by decide +kernel,rfl,by decide +kernel,by decide +kernel⟩
abbrev l9:List Str:=["_law_memory", "_law_live", "_law_cell", "_law_way", "_law_due", "_law_found", "_law_task"]
theorem bv:ay l9 ["_law_memory", "_law_live", "_law_cell"] (ak fG):=⟨rfl,rfl,rfl,by decide +kernel,rfl,by decide +kernel,by decide +kernel⟩
abbrev ll:List Str:=["_law_memory", "_law_live", "_law_found"]
theorem gu:ay ll ["_law_memory", "_law_live"] (ak eL):=⟨rfl,rfl,rfl,by decide +kernel,rfl,by decide +kernel,by decide +kernel⟩
abbrev ed:List Str:=["_law_cell", "_law_far", "_law_sizes", "_law_at", "_law_refused_here", "e"]
theorem aO:ay ed ["_law_cell"] (ak bh):=⟨rfl,rfl,rfl,by decide +kernel,rfl,by decide +kernel,by decide +kernel⟩
abbrev nZ:List Str:=["_law_script", "_law_memory", "_law_beside", "_law_live", "_law_others", "_law_held", "_law_cell", "_law_told"]
theorem fJ:ay nZ ["_law_script"] (ak cu):=⟨rfl,rfl,rfl,by decide +kernel,rfl,by decide +kernel,by decide +kernel⟩
structure Adr where
 (aY ax dO bg g_ eM aA cI jb eN hE iG iH kE fW bU bb bd bw bj bn bo aC aB aD eO bC:Addr)
structure Txt (w:World)(K:W.Frag)(mg:Str->Option Value)(a:Adr): Prop where
 n4:Cls K a.iG
 n5:Cls K a.iH
 qk:Cls K a.kE
 md:Cls K a.fW
 lq:Cls K a.bU
 iI:Cls K a.bb
 ju:Cls K a.bd
 lr:Cls K a.bw
 fX:Cls K a.bj
 iJ:Cls K a.bn
 dP:Cls K a.bo
 bD:Cls K a.aC
 bN:Cls K a.aB
 cU:Cls K a.aD
 dX:aG K a.bb "kept"
 dY:aG K a.bU "marked"
 c6:aG K a.bU "standing"
 cQ:aG K a.aB "near"
 dZ:aG K a.aB "pool"
 cw:aG K a.aB "shape"
 c9:aG K a.aB "shares"
 aH:aG K a.aB "spaces"
 dD:aG K a.aB "walks"
 di:aG K a.bj "lines"
 fK:aG K a.bj "many"
 b6:aG K a.bw "frame_store"
 fL:aG K a.bw "hand"
 d0:aG K a.bw "length"
 cx:aG K a.bw "slot_store"
 dQ:aG K a.aD "low"
 cy:aG K a.aD "widths"
 d4:aG K a.bn "kept"
 cR:aG K a.aC "shape"
 eP:aG K a.aC "task"
 dj:aG K a.aC "tree"
 cJ:aG K a.bd "contents"
 dE:aG K a.bd "length"
 d5:aG K a.bd "tally"
 dk:aG K a.bo "shape"
 eQ:aG K a.bo "top"
 dR:kT K a.aY
 iV:mg "LeafError" = some (.ref a.aY)
 bO:kT K a.ax
 b8:mg "NoShape" = some (.ref a.ax)
 rR:mg "NoAddress" = some (.ref a.dO)
 jv:mg "NoNumber" = some (.ref a.bg)
 uE:mg "NoWord" = some (.ref a.g_)
 tf:mg "NoRights" = some (.ref a.eM)
 jw:kT K a.aA
 jx:mg "NoTask" = some (.ref a.aA)
 o8:mg "NoShare" = some (.ref a.cI)
 vh:mg "Fault" = some (.ref a.jb)
 tj:mg "Unmapped" = some (.ref a.eN)
 uF:mg "Barred" = some (.ref a.hE)
 vP:mg "Leaf" = some (.ref a.iG)
 vQ:mg "Held" = some (.ref a.iH)
 wg:mg "Out" = some (.ref a.kE)
 vi:mg "Named" = some (.ref a.fW)
 tq:mg "Hand" = some (.ref a.bU)
 qm:mg "Counts" = some (.ref a.bb)
 n6:mg "Store" = some (.ref a.bd)
 tu:mg "Pool" = some (.ref a.bw)
 tD:mg "Near" = some (.ref a.bj)
 qo:mg "Shares" = some (.ref a.bn)
 tE:mg "Tree" = some (.ref a.bo)
 n9:mg "Space" = some (.ref a.aC)
 jy:mg "Memory" = some (.ref a.aB)
 lu:mg "Shape" = some (.ref a.aD)
 uG:mg "NEEDED" = some (.ref a.bC)
 bC:TopD w.params K a.bC
 gv:∃t,W.nsIn K a.bC "read" = some (some (.int 1 t))
 fM:∃t,W.nsIn K a.bC "write" = some (some (.int 2 t))
 d6:∃t,mg "MOST_FRAMES" = some (.int 64 t)
 dF:∃t,mg "MOST_NUMBERS" = some (.int 64 t)
 eR:∃t,mg "MOST_WORDS" = some (.int 64 t)
 rn:mg "SIZES" = some (.ref a.eO)
 rp:∀H,SqT K H a.eO [.int 0,.int 1,.int 2,.int 4,.int 8,.int 16,.int 32,.int 64]
 eS:∃t,mg "MOST_WIDTH" = some (.int 24 t)
 gF:∃t,mg "MOST_LOW" = some (.int 6 t)
 eT:mg "ValueError" = none
 n_:mg "all" = none
 mW:mg "bool" = none
 oa:mg "int" = none
 aS:mg "isinstance" = none
 jz:mg "len" = none
 jA:mg "list" = none
 qp:mg "max" = none
 lw:mg "range" = none
 fN:mg "sorted" = none
 lx:mg "tuple" = none
 ef:XIs K a.aA
 fY:XIs K a.ax
 isk:IsK K
 jB:W.mroIn K a.aA (.ref a.aY)=some true
 iK:W.mroIn K a.ax (.ref a.aY)=some true
 tF:W.kitOne K (.ref a.aA) (.ref a.aA)=some true
 tG:W.kitOne K (.ref a.aA) (.type "ValueError")=some true
 tH:W.kitAny K (.ref a.aA) [.ref a.bg,.ref a.cI]=some false
 tI:W.kitOne K (.ref a.ax) (.ref a.ax)=some true
 tJ:W.kitAny K (.ref a.ax) [.ref a.bg,.ref a.aA]=some false
def ly (t:Addr)(low:Int): List (Str×V):=dI "low" (.int low) (dI "widths" (.ref t) [])
theorem mh (t:Addr)(low:Int): (ly t low).lookup ("widths" : Str)=some (.ref t):=by
 unfold ly
 rw[bJ,if_neg (by decide +kernel),bJ,if_pos rfl]
theorem jC (t:Addr)(low:Int): (ly t low).lookup ("low" : Str)=some (.int low):=by
 unfold ly
 rw[bJ,if_pos rfl]
theorem rq (t:Addr) (low:Int) {m:Str} (h1:¬m = "widths") (h2:¬m = "low"):(ly t low).lookup m=none:=by
 unfold ly
 rw[bJ,if_neg h2,bJ,if_neg h1]
 rfl
structure Good (ns:List Int)(low:Int): Prop where
 len:ns.length=2\/ns.length=3
 all:∀x∈ns,1<=x/\x<=24
 tK:0<=low
 tL:low<=6
def hG (C:Addr)(H:Hp)(p:Addr)(ns:List Int)(low:Int): Prop:=∃dx t,H p=some (.ins C dx (ly t low))/\H t=some (.tup (ns.map V.int))
theorem hG.same {C:Addr}{H H':Hp}{p:Addr}{ns:List Int}{low:Int}(S:hG C H p ns low)(sm:Same H H'): hG C H' p ns low:=by
 obtain⟨dx,t,h1,h2⟩:=S
 exact⟨dx,t,sm _ _ h1,sm _ _ h2⟩
def hJ (a:Adr): Sp:=fun vs H Q E=>∃(p:Addr) (ns:List Int) (low:Int),vs=[.ref p,.int low]/\H p=some (.lst (ns.map V.int))/\ns.length<=64 ∧
 (Good ns low->∀H',Same H H'->Q .non H')/\(¬Good ns low->∀H',Same H H'->E (.ref a.ax) none H')
def jD (a:Adr): Sp:=fun vs H Q E=>∃(p w dx:Addr) (ns:List Int) (low:Int),vs=[.ref p,.ref w,.int low]/\H p=some (.ins a.aD dx [])/\H w=some (.lst (ns.map V.int))/\ns.length<=64 ∧
 (Good ns low->∀H',hG a.aD H' p ns low->(∀b o,H b=some o->b≠p->H' b=some o)->Q .non H')/\(¬Good ns low->∀H',Same H H'->E (.ref a.ax) none H')
def qt (a:Adr): Sp:=fun vs H Q _=>∃(p:Addr) (ns:List Int) (low:Int),vs=[.ref p]/\hG a.aD H p ns low/\Good ns low/\Q (.int (2^low.toNat)) H
theorem vR (n:Nat): inV (.int n) [V.int 2,V.int 3]=decide (n=2\/n=3):=by
 have:=gR (n:Int) [2,3]
 rw[show [V.int 2,V.int 3]=([2,3]:List Int).map V.int from rfl,this]
 rw[decide_eq_decide]
 simp only [List.mem_cons,List.not_mem_nil,or_false]
 omega
section
variable {P:Program}{w:World}{K:W.Frag}{mg:Str->Option Value}{base:Heap}{a:Adr}
theorem jE {dvs:List V} (R:bu K mg "check_shape" dU ["widths", "low"] dvs) (T:Txt w K mg a) :
  HasFn P w K mg base 1 "check_shape" ["widths", "low"] (hJ a) dvs:=by
 refine R.ok fH (fun vs H Q E h=>?_) (fun f cdv A outer s H vs Q E hr h=>?_)
 ·obtain⟨p,ns,low,rfl,_⟩:=h
  rfl
 obtain⟨p,ns,low,rfl,hp,hl,k1,k2⟩:=h
 refine⟨_,(@af _ _ _ _ _ (bF (a7 ej (aM cf (by rfl) T.jz PySem.boot_len (@ae _ _ _ _ _ (pv 0) ah rfl)) (@im _ _ _ _ _ (@ae _ _ _ _ _ aj (@ae _ _ _ _ _ aj ah rfl) rfl)) (by with_unfolding_all rfl)) (@ao _ _ _ (cS T.bO rfl (by rfl) T.b8 aq (@ae _ _ _ _ _ eZ ah rfl))) aL)
   (@af _ _ _ _ _ (dS cg rfl (cO (pv 0)) (a6 (i:=2) fH.nd rfl (by first | exact Or.inl rfl | exact Or.inr rfl))
   (@ao _ _ _ (bF (dv (fc gj gj aj (pv 2) (fv (by rfl) T.eS))) (@ao _ _ _ (cS T.bO rfl (by rfl) T.b8 aq (@ae _ _ _ _ _ eZ ah rfl))) aL)))
   (@ao _ _ _ (bF (dv (fc gj gj aj (pv 1) (fv (by rfl) T.gF))) (@ao _ _ _ (cS T.bO rfl (by rfl) T.b8 aq (@ae _ _ _ _ _ eZ ah rfl))) aL)))),?_⟩
 refine⟨_,rfl,p,_,rfl,.inl (SqL.of hp),aQ (by show 2<=1000;decide),fun t ht=>⟨t,_,rfl,.inr (SqT.of ai),rfl,rfl,_,rfl,?_⟩⟩
 have sm:Same H (upd H t (.tup [V.int 2,V.int 3])):=bM ht
 generalize upd H t (.tup [V.int 2,V.int 3])=H1 at sm
 show if (!inV (.int ((ns.map V.int).length:Nat)) [V.int 2,V.int 3])=true then _ else _
 rw[vR,List.length_map]
 refine l0 (fun c=>?_) (fun c=>?_)
 ·exact⟨aN,k2 (fun g=>c g.len) _ sm⟩
 ·refine⟨_,rfl,p,rfl,⟨_,SqL.of (sm _ _ hp)⟩,gM (xs:=ns.map V.int) (fun i σ H'=>(∃v,σ=[some (.ref p),some (.int low),v])/\H'=H1/\∀(j:Nat) (x:Int),j < i->ns[j]?=some x->1<=x/\x<=24) ⟨⟨none,rfl⟩,rfl,fun j x hj=>by omega⟩ (fun i σ H' _ z=>by rw[z.2.1];exact SqL.of (sm _ _ hp)) ?_ ?_⟩
  ·rintro i v σ H' hi ⟨⟨w,rfl⟩,rfl,al⟩
   obtain⟨x,rfl,hx⟩:=gS hi
   have bad:¬(1<=x/\x<=24)->¬Good ns low:=fun z g=>z (g.all x (List.mem_of_getElem? hx))
   refine⟨_,rfl,_,_,rfl,rfl,_,rfl,fw (fun c0=>?_) (fun c0=>?_)⟩
   ·refine⟨_,_,rfl,rfl,_,rfl,l0 (fun c1=>?_) (fun c1=>?_)⟩
    ·exact⟨aN,k2 (bad fun z=>c1 z.2) _ sm⟩
    ·refine⟨⟨_,rfl⟩,rfl,fun j y hj hy=>?_⟩
     by_cases e:j=i
     ·subst e
      rw[hx] at hy
      cases hy
      exact⟨c0,c1⟩
     ·exact al j y (by omega) hy
   ·exact⟨_,rfl,lR ⟨aN,k2 (bad fun z=>c0 z.1) _ sm⟩⟩
  ·rintro σ H' ⟨⟨w,rfl⟩,rfl,al⟩
   have al':∀x∈ns,1<=x/\x<=24:=fun x hx=>by
    obtain⟨j,hj,e⟩:=List.getElem_of_mem hx
    exact al j x (by rw[List.length_map];exact hj) (by rw[List.getElem?_eq_getElem hj,e])
   refine⟨_,rfl,_,_,rfl,rfl,_,rfl,fw (fun c0=>?_) (fun c0=>?_)⟩
   ·refine⟨_,_,rfl,rfl,_,rfl,l0 (fun c1=>?_) (fun c1=>?_)⟩
    ·exact⟨aN,k2 (fun g=>c1 g.tL) _ sm⟩
    ·exact k1 ⟨c,al',c0,c1⟩ _ sm
   ·exact⟨_,rfl,lR ⟨aN,k2 (fun g=>c0 g.tK) _ sm⟩⟩
theorem hR {dvs:List V} (R:dg K a.aD "Shape.__init__" cE ["self", "widths", "low"] dvs) (T:Txt w K mg a)
  (d7:HasFn P w K mg base 1 "check_shape" ["widths", "low"] (hJ a) []) :
  bp P w K mg base a.aD 2 ["self", "widths", "low"] (jD a) dvs:=by
 refine R.ok gU (fun vs H Q E h=>?_) (fun f cdv A outer s H vs Q E hr h=>?_)
 ·obtain⟨p,w',dx,ns,low,rfl,_⟩:=h
  rfl
 obtain⟨p,w',dx,ns,low,rfl,hp,hw,hl,k1,k2⟩:=h
 refine⟨_,(@af _ _ _ _ _ (a0 (aX d7 (hr.mono (by decide)) (by rfl) aq (@ae _ _ _ _ _ (pv 1) (@ae _ _ _ _ _ (pv 2) ah rfl) rfl)))
   (@af _ _ _ _ _ (aT (pv 0) (fS jM (by rfl) T.lx PyProof.Rows.Boot.«tuple» (@ae _ _ _ _ _ (pv 1) ah rfl)) rfl)
   (@ao _ _ _ (aT (pv 0) (pv 2) rfl)))),?_⟩
 refine⟨_,rfl,_,rfl,w',ns,low,rfl,hw,hl,fun g H1 sm=>?_,fun g H1 sm=>k2 g H1 sm⟩
 refine⟨_,rfl,w',_,rfl,.inl ⟨SqL.of (sm _ _ hw),fun t ht=>⟨_,rfl,p,a.aD,dx,[],rfl,bM ht _ _ (sm _ _ hp),T.cU,T.cy,(by show 0 < 1000;decide),?_⟩⟩⟩
 refine⟨_,rfl,_,rfl,p,a.aD,dx,_,rfl,ai,T.cU,T.dQ,(by show 1 < 1000;decide),?_⟩
 have npt:=aw (sm _ _ hp) ht
 refine k1 g _ ⟨dx,t,ai,?_⟩ fun b o hb nb=>?_
 ·rw[au npt.symm,au npt.symm,ai]
 ·rw[au nb,au nb]
  exact bM ht _ _ (sm _ _ hb)
theorem jV {dvs:List V} (R:fq K a.aD "size" "Shape.size" eB ["self"] dvs) (T:Txt w K mg a) :
  cT P w K mg base a.aD 1 "size" ["self"] (qt a) dvs:=by
 refine R.ok jO (fun vs H Q E h=>?_) (fun f cdv A outer s H vs Q E hr h=>?_)
 ·obtain⟨p,ns,low,rfl,_⟩:=h
  rfl
 obtain⟨p,ns,low,rfl,S,g,k⟩:=h
 refine⟨_,(@ao _ _ _ (@aJ _ _ _ _ (aE pP aj (bE (pv 0) rfl)))),?_⟩
 obtain⟨dx,t,h1,h2⟩:=id S
 have h6:=g.tL
 have h0:=g.tK
 refine⟨_,rfl,p,a.aD,dx,_,_,rfl,h1,T.cU,T.dQ,jC t low,_,_,rfl,rfl,⟨by omega,by omega,by decide⟩,?_⟩
 show Q (.int (1*2^low.toNat)) H
 rw[Int.one_mul]
 exact k
end
theorem b_ {H H':Hp}{q:Addr}{o:HO}(hq:H q=none)(hh:upd H q o=H'): Same H H'/\H' q=some o:=by subst hh;exact⟨bM hq,ai⟩
structure Bx (p:Prop): Prop where
 o:p
def Kp (p:Addr)(H H':Hp): Prop:=∀b u,H b=some u->b≠p->H' b=some u
section
variable {p q x dx b:Addr}{H H1 H2:Hp}{o o1 o2 u:HO}
theorem Kp.refl:Kp p H H:=fun _ _ e _=>e
theorem Kp.set (h:Kp p H H1): Kp p H (upd H1 p o):=fun b u e nb=>by rw[au nb];exact h b u e nb
theorem Kp.new (h:Kp p H H1)(hq:H1 q=none): Kp p H (upd H1 q o):=fun b u e nb=>by rw[au (aw (h b u e nb) hq)];exact h b u e nb
theorem mkd (hx:H1 x=none)(hd:H1 dx=none)(k:Kp x (upd (upd H1 dx o1) x o2) H2)(e:H1 b=some u): H2 b=some u :=
 k b u (by rw[au (aw e hx),au (aw e hd)];exact e) (aw e hx)
theorem Kp.mk (h:Kp p H H1)(hx:H1 x=none)(hd:H1 dx=none)(k:Kp x (upd (upd H1 dx o1) x o2) H2): Kp p H H2:=fun b u e nb=>mkd hx hd k (h b u e nb)
theorem Kp.same (h:Kp p H H1)(s:Same H1 H2): Kp p H H2:=fun b u e nb=>s _ _ (h b u e nb)
theorem mX {H0:Hp}(hh:upd H p o=H1)(k:Kp p H0 H): H1 p=some o/\Kp p H0 H1:=by subst hh;exact⟨ai,k.set⟩
theorem cV (hx:H1 x=none)(hd:H1 dx=none): Same H1 (upd (upd H1 dx o1) x o2):=fun b u e=>by rw[au (aw e hx),au (aw e hd)];exact e
end
theorem fZ {K:W.Frag}{a:Addr}{g:TG}{tb:TS}{D:Ends}{σ:St}{H:Hp}(e:SqL K H a [])(q:D.nx σ H):
  ∃W:Nat->Nat->St->Hp->Prop,(∃m,W 0 m σ H)/\∀i m σ H,W i m σ H ->
   ((Itl K a).stop i H/\D.nx σ H)\/((Itl K a).go i H/\∃N:St->Hp->Prop,(∀σ' H',N σ' H'->∃m',m' < m/\W (i+1) m' σ' H')/\∀x H',(Itl K a).yld i H x H'->g x σ H' fun σ2 H2=>tb { D with nx:=N,ct:=N,bk:=D.nx } σ2 H2) :=
 gM (xs:=[]) (fun _ σ' H'=>σ'=σ/\H'=H) ⟨rfl,rfl⟩ (fun _ _ _ _ h=>by rw[h.2];exact e) (fun _ _ _ _ h=>nomatch h) (fun _ _ h=>by rw[h.1,h.2];exact q)
def o9:Sp:=fun _ _ _ _=>False
def rz (C N:Addr)(lo:Int): Sp:=fun vs H Q E=>∃(p dx:Addr) (n:Int),vs=[.ref p,.int n]/\H p=some (.ins C dx [])/\(lo<=n/\n<=64->∀H',Kp p H H'->Q .non H')/\(¬(lo<=n/\n<=64)->E (.ref N) none H)
def uH (a:Adr): Sp:=fun vs H Q E=>∃(p dx:Addr) (n s:Int),vs=[.ref p,.int n,.int s]/\H p=some (.ins a.bd dx [])/\1<=s/\s<=64/\(0<=n/\n<=64->∀H',Kp p H H'->Q .non H')/\(¬(0<=n/\n<=64)->∀H',Kp p H H'->E (.ref a.ax) none H')
def uI (a:Adr): Sp:=fun vs H Q E=>∃(p dx:Addr) (n m s:Int),vs=[.ref p,.int n,.int m,.int s]/\H p=some (.ins a.bw dx [])/\1<=s/\s<=64 ∧
 ((1<=n/\n<=64)/\0<=m/\m<=64->∀H',Kp p H H'->Q .non H')/\(¬((1<=n/\n<=64)/\0<=m/\m<=64)->∀H',Kp p H H'->E (.ref a.ax) none H')
def OkM (m:Int): Prop:=m=0\/m=1\/m=2\/m=4\/m=8\/m=16\/m=32\/m=64
theorem kF (m:Int): inV (.int m) [.int 0,.int 1,.int 2,.int 4,.int 8,.int 16,.int 32,.int 64]=true↔OkM m:=by
 have e:=gR m [0,1,2,4,8,16,32,64]
 have e':inV (.int m) [.int 0,.int 1,.int 2,.int 4,.int 8,.int 16,.int 32,.int 64]=decide (m∈[0,1,2,4,8,16,32,64]):=e
 rw[e']
 unfold OkM
 simp
def NrE (a:Adr)(H:Hp)(p ln:Addr): Prop:=∃dx m,H p=some (.ins a.bj dx [("many",.int m),("lines",.ref ln)])/\H ln=some (.dK [])
def uJ (a:Adr): Sp:=fun vs H Q E=>∃(p dx:Addr) (m:Int),vs=[.ref p,.int m]/\H p=some (.ins a.bj dx [])/\(OkM m->∀d H',H d=none->NrE a H' p d->Kp p H H'->Q .non H')/\(¬OkM m->E (.ref a.ax) none H)
def uK (a:Adr): Sp:=fun vs H Q _=>∃(p dx:Addr),vs=[.ref p]/\H p=some (.ins a.bn dx [])/\∀H',Kp p H H'->Q .non H'
def uL (a:Adr): Sp:=fun vs H Q _=>∃(p ln:Addr) (t:Int),vs=[.ref p,.int t]/\NrE a H p ln/\∀H',Same H H'->Q .non H'
section
variable {P:Program}{w:World}{K:W.Frag}{mg:Str->Option Value}{base:Heap}{a:Adr}
theorem lz {dvs:List V} (R:fq K a.aC "put" "Space.put" fE ["self", "page", "leaf"] dvs) (T:Txt w K mg a):cT P w K mg base a.aC 1 "put" ["self", "page", "leaf"] (o9) dvs:=R.ok kZ (fun _ _ _ _ h=>h.elim) (fun _ _ _ _ _ _ _ _ _ _ h=>h.elim)
theorem jW {dvs:List V} (R:bu K mg "count_more" eG ["memory", "leaf"] dvs) (T:Txt w K mg a):HasFn P w K mg base 1 "count_more" ["memory", "leaf"] (o9) dvs:=R.ok jR (fun _ _ _ _ h=>h.elim) (fun _ _ _ _ _ _ _ _ _ _ h=>h.elim)
theorem jX {dvs:List V} (R:bu K mg "count_less" eI ["memory", "leaf"] dvs) (T:Txt w K mg a):HasFn P w K mg base 1 "count_less" ["memory", "leaf"] (o9) dvs:=R.ok jS (fun _ _ _ _ h=>h.elim) (fun _ _ _ _ _ _ _ _ _ _ h=>h.elim)
theorem gG {dvs:List V} (R:dg K a.bb "Counts.__init__" cm ["self", "many"] dvs) (T:Txt w K mg a) :
  bp P w K mg base a.bb 1 ["self", "many"] (rz a.bb a.ax 0) dvs:=by
 refine R.ok gB (fun vs H Q E h=>?_) (fun f cdv A outer s H vs Q E hr h=>?_)
 ·obtain⟨p,dx,n,rfl,_⟩:=h
  rfl
 obtain⟨p,dx,n,rfl,hp,k1,k2⟩:=h
 refine⟨_,(@af _ _ _ _ _ (bF (dv (fc gj gj aj (pv 1) (fv (by rfl) T.dF))) (@ao _ _ _ (cS T.bO rfl (by rfl) T.b8 aq (@ae _ _ _ _ _ eZ ah rfl))) aL)
   (@ao _ _ _ (aT (pv 0) (aE pY (@bT _ _ _ _ (@ae _ _ _ _ _ aj ah rfl)) (pv 1)) rfl))),?_⟩
 have t1:=T.iI;have t2:=T.dX
 walk_at "go"
 refine fw (fun c0=>?_) (fun c0=>?_)
 ·walk_at "go"
  refine l0 (fun c1=>?_) (fun c1=>?_)
  ·walk_at "go"
   exact k2 fun z=>c1 z.2
  ·have c1':n<=64:=c1
   refine⟨aN,fun q hq=>⟨_,rfl,q,n,[V.int 0],rfl,rfl,ai,by omega,by omega,?_,fun l hl=>?_⟩⟩
   ·rw[sizeLine_eq];show 1*n.toNat<=_;omega
   ·walk_at "go"
    exact k1 ⟨c0,c1'⟩ _ (((Kp.refl.new hq).new hl).set)
 ·walk_at "go"
  exact k2 fun z=>c0 z.1
theorem iL {dvs:List V} (R:dg K a.bU "Hand.__init__" cX ["self", "many"] dvs) (T:Txt w K mg a) :
  bp P w K mg base a.bU 1 ["self", "many"] (rz a.bU a.ax 1) dvs:=by
 refine R.ok iA (fun vs H Q E h=>?_) (fun f cdv A outer s H vs Q E hr h=>?_)
 ·obtain⟨p,dx,n,rfl,_⟩:=h
  rfl
 obtain⟨p,dx,n,rfl,hp,k1,k2⟩:=h
 refine⟨_,(@af _ _ _ _ _ (bF (dv (fc gj gj aj (pv 1) (fv (by rfl) T.d6))) (@ao _ _ _ (cS T.bO rfl (by rfl) T.b8 aq (@ae _ _ _ _ _ eZ ah rfl))) aL)
   (@af _ _ _ _ _ (aT (pv 0) (aE pY (@bT _ _ _ _ (@ae _ _ _ _ _ gJ ah rfl)) (pv 1)) rfl)
   (@ao _ _ _ (aT (pv 0) aj rfl)))),?_⟩
 have t1:=T.lq;have t2:=T.dY;have t3:=T.c6
 walk_at "go"
 refine fw (fun c0=>?_) (fun c0=>?_)
 ·walk_at "go"
  refine l0 (fun c1=>?_) (fun c1=>?_)
  ·walk_at "go"
   exact k2 fun z=>c1 z.2
  ·have c1':n<=64:=c1
   refine⟨aN,fun q hq=>⟨_,rfl,q,n,[V.bl false],rfl,rfl,ai,by omega,by omega,?_,fun l hl=>?_⟩⟩
   ·rw[sizeLine_eq];show 1*n.toNat<=_;omega
   ·walk_at "go"
    exact k1 ⟨c0,c1'⟩ _ (((Kp.refl.new hq).new hl).set.set)
 ·walk_at "go"
  exact k2 fun z=>c0 z.1
theorem hU {dvs:List V} (R:dg K a.bd "Store.__init__" cF ["self", "many", "size"] dvs) (T:Txt w K mg a)
  (cz:bp P w K mg base a.bb 1 ["self", "many"] (rz a.bb a.ax 0) []) :
  bp P w K mg base a.bd 3 ["self", "many", "size"] (uH a) dvs:=by
 refine R.ok gX (fun vs H Q E h=>?_) (fun f cdv A outer s H vs Q E hr h=>?_)
 ·obtain⟨p,dx,n,s,rfl,_⟩:=h
  rfl
 obtain⟨p,dx,n,s,rfl,hp,s1,s2,k1,k2⟩:=h
 refine⟨_,(@af _ _ _ _ _ (bF (dv (fc gj gj aj (pv 2) (fv (by rfl) T.eR))) (@ao _ _ _ (cS T.bO rfl (by rfl) T.b8 aq (@ae _ _ _ _ _ eZ ah rfl))) aL)
   (@af _ _ _ _ _ (aT (pv 0) (dz cz (hr.mono (by decide)) (by rfl) T.qm aq (@ae _ _ _ _ _ (pv 1) ah rfl)) rfl)
   (@af _ _ _ _ _ (aT (pv 0) (pv 2) rfl)
   (@ao _ _ _ (aT (pv 0) fh rfl))))),?_⟩
 have t1:=T.ju;have t2:=T.d5;have t3:=T.dE;have t4:=T.cJ
 walk_at "go"
 refine fw (fun c0=>?_) (fun c0=>absurd s1 c0)
 walk_at "go"
 refine l0 (fun c1=>absurd s2 c1) (fun c1=>?_)
 walk_at "go"
 intro x dx' hx hdx nx
 refine⟨x,dx',n,rfl,ai,fun cn H1 kp=>⟨rfl,?_⟩,fun cn=>k2 cn _ (Kp.refl.same (cV hx hdx))⟩
 have hp1:=mkd hx hdx kp hp
 walk_at "go"
 intro d hd
 walk_at "go"
 exact k1 cn _ (((Kp.refl.mk hx hdx kp).set.set.new hd).set)
theorem iM {dvs:List V} (R:dg K a.bw "Pool.__init__" cY ["self", "frames", "slots", "size"] dvs) (T:Txt w K mg a)
  (bP:bp P w K mg base a.bd 3 ["self", "many", "size"] (uH a) [])
  (dc:bp P w K mg base a.bU 1 ["self", "many"] (rz a.bU a.ax 1) []) :
  bp P w K mg base a.bw 5 ["self", "frames", "slots", "size"] (uI a) dvs:=by
 refine R.ok iB (fun vs H Q E h=>?_) (fun f cdv A outer s H vs Q E hr h=>?_)
 ·obtain⟨p,dx,n,m,s,rfl,_⟩:=h
  rfl
 obtain⟨p,dx,n,m,s,rfl,hp,s1,s2,k1,k2⟩:=h
 refine⟨_,(@af _ _ _ _ _ (aT (pv 0) (dz bP (hr.mono (by decide)) (by rfl) T.n6 aq (@ae _ _ _ _ _ (pv 1) (@ae _ _ _ _ _ (pv 3) ah rfl) rfl)) rfl)
   (@af _ _ _ _ _ (aT (pv 0) (dz bP (hr.mono (by decide)) (by rfl) T.n6 aq (@ae _ _ _ _ _ (pv 2) (@ae _ _ _ _ _ (pv 3) ah rfl) rfl)) rfl)
   (@af _ _ _ _ _ (aT (pv 0) (dz dc (hr.mono (by decide)) (by rfl) T.tq aq (@ae _ _ _ _ _ (pv 1) ah rfl)) rfl)
   (@ao _ _ _ (aT (pv 0) (pv 3) rfl))))),?_⟩
 have t1:=T.lr;have t2:=T.b6;have t3:=T.cx;have t4:=T.fL;have t5:=T.d0
 walk_at "go"
 refine fun x1 d1 hx1 hd1 _=>⟨x1,d1,n,s,rfl,ai,s1,s2,fun o1 H1 q1=>⟨rfl,?_⟩,fun bad H1 q1=>k2 (fun z=>bad ⟨by omega,z.1.2⟩) H1 (Kp.refl.mk hx1 hd1 q1)⟩
 have hp1:=mkd hx1 hd1 q1 hp
 have r1:=Kp.refl (p:=p) |>.mk hx1 hd1 q1
 walk_at "go"
 generalize hA:upd H1 p _=HA
 obtain⟨hpA,rA⟩:=mX hA r1
 clear hA
 refine fun x2 d2 hx2 hd2 _=>⟨x2,d2,m,s,rfl,ai,s1,s2,fun o2 H2 q2=>⟨rfl,?_⟩,fun bad H2 q2=>k2 (fun z=>bad z.2) H2 (rA.mk hx2 hd2 q2)⟩
 have hp2:=mkd hx2 hd2 q2 hpA
 have r2:=rA.mk hx2 hd2 q2
 walk_at "go"
 generalize hB:upd H2 p _=HB
 obtain⟨hpB,rB⟩:=mX hB r2
 clear hB
 refine fun x3 d3 hx3 hd3 _=>⟨x3,d3,n,rfl,ai,fun o3 H3 q3=>⟨rfl,?_⟩,fun bad=>k2 (fun z=>bad z.1) _ (rB.same (cV hx3 hd3))⟩
 have hp3:=mkd hx3 hd3 q3 hpB
 walk_at "go"
 exact k1 ⟨o3,o2⟩ _ ((rB.mk hx3 hd3 q3).set.set)
theorem iN {dvs:List V} (R:dg K a.bj "Near.__init__" cZ ["self", "many"] dvs) (T:Txt w K mg a) :
  bp P w K mg base a.bj 1 ["self", "many"] (uJ a) dvs:=by
 refine R.ok iC (fun vs H Q E h=>?_) (fun f cdv A outer s H vs Q E hr h=>?_)
 ·obtain⟨p,dx,m,rfl,_⟩:=h
  rfl
 obtain⟨p,dx,m,rfl,hp,k1,k2⟩:=h
 refine⟨_,(@af _ _ _ _ _ (bF (a7 ej (pv 1) (dJ (v:=.ref a.eO) (by rfl) T.rn rfl) (by with_unfolding_all rfl)) (@ao _ _ _ (cS T.bO rfl (by rfl) T.b8 aq (@ae _ _ _ _ _ eZ ah rfl))) aL)
   (@af _ _ _ _ _ (aT (pv 0) (pv 1) rfl)
   (@ao _ _ _ (aT (pv 0) fh rfl)))),?_⟩
 have t1:=T.fX;have t2:=T.fK;have t3:=T.di
 have qs:=T.rp H
 walk_at "go"
 rw[if_pos rfl]
 cases e:inV (V.int m) [.int 0,.int 1,.int 2,.int 4,.int 8,.int 16,.int 32,.int 64] with
 | false =>
  walk_at "go"
  exact k2 fun z=>by rw[(kF m).mpr z] at e;cases e
 | true =>
  walk_at "go"
  intro d hd
  have hdp:d≠p:=fun z=>by rw[z,ai] at hd;cases hd
  have hd0:H d=none:=by rw[au hdp] at hd;exact hd
  walk_at "go"
  exact k1 ((kF m).mp e) d _ hd0 ⟨dx,m,ai,by rw[au hdp];exact ai⟩ ((Kp.refl.set.new hd).set)
theorem gH {dvs:List V} (R:dg K a.bn "Shares.__init__" cq ["self"] dvs) (T:Txt w K mg a) :
  bp P w K mg base a.bn 1 ["self"] (uK a) dvs:=by
 refine R.ok gD (fun vs H Q E h=>?_) (fun f cdv A outer s H vs Q E hr h=>?_)
 ·obtain⟨p,dx,rfl,_⟩:=h
  rfl
 obtain⟨p,dx,rfl,hp,k⟩:=h
 refine⟨_,(@ao _ _ _ (aT (pv 0) fh rfl)),?_⟩
 have t1:=T.iJ;have t2:=T.d4
 walk_at "go"
 intro d hd
 have pd:=aw hp hd
 walk_at "go"
 exact k _ ((Kp.refl.new hd).set)
theorem gb {dvs:List V} (R:fq K a.bj "forget_task" "Near.forget_task" b4 ["self", "task"] dvs) (T:Txt w K mg a) :
  cT P w K mg base a.bj 1 "forget_task" ["self", "task"] (uL a) dvs:=by
 refine R.ok df (fun vs H Q E h=>?_) (fun f cdv A outer s H vs Q E hr h=>?_)
 ·obtain⟨p,ln,t,rfl,_⟩:=h
  rfl
 obtain⟨p,ln,t,rfl,N,k⟩:=h
 refine⟨_,(@ao _ _ _ (dS cg rfl (cO (fS (mS hr.hd) (by rfl) T.jA PyProof.Rows.Boot.«list» (@ae _ _ _ _ _ (bE (pv 0) rfl) ah rfl))) (a6 (i:=2) df.nd rfl (by first | exact Or.inl rfl | exact Or.inr rfl))
   (@ao _ _ _ (bF (a7 gi (@iT _ _ _ _ _ _ _ sF (kQ hr.u1 (bE (pv 0) rfl) (pv 2) (fun _ _=>rfl)) aj (fun _ _=>rfl)) (pv 1) (bI _)) (@ao _ _ _ (a0 (lU (bE (pv 0) rfl) (pv 2) ⟨rfl,rfl,rfl,rfl⟩))) aL)))),?_⟩
 have t1:=T.fX;have t3:=T.di
 obtain⟨dx,m,h1,h2⟩:=N
 have ik:gn [] []:=rfl
 walk_at "go"
 intro q hq
 generalize hh:upd _ q _=H1
 obtain⟨s1,e1⟩:=b_ hq hh
 clear hh
 walk_at "go"
 exact fZ (SqL.of e1) (k _ s1)
end
end K35

set_option maxHeartbeats 4000000
namespace K35
open PySem L2
def uM (H:Hp)(p:Addr): Prop:=H p=some (.lst [])\/∃u top,H p=some (.lst [.ref u])/\H u=some (.tup [.int 0,.ref top])/\H top=some (.dK [])
def qu:Sp:=fun vs H Q _=>∃(p:Addr) (w:Int),vs=[.ref p,.int w]/\uM H p/\∀q H',H' q=some (.lst [])->Same H H'->Q (.ref q) H'
def TrE (a:Adr)(H:Hp)(p sh top:Addr): Prop:=∃dx,H p=some (.ins a.bo dx [("shape",.ref sh),("top",.ref top)])/\H top=some (.dK [])
def uN (a:Adr): Sp:=fun vs H Q _=>∃(p sh dx:Addr),vs=[.ref p,.ref sh]/\H p=some (.ins a.bo dx [])/\∀top H',H top=none->TrE a H' p sh top->Kp p H H'->Q .non H'
def rS (a:Adr): Sp:=fun vs H Q _=>∃(p sh top:Addr) (ns:List Int) (low:Int),vs=[.ref p]/\TrE a H p sh top/\hG a.aD H sh ns low/\Good ns low/\∀q H',H' q=some (.lst [])->Same H H'->Q (.ref q) H'
def SpE (a:Adr)(H:Hp)(x:Addr)(av:List Addr): Prop:=∃dx sh t tr top ns low,H x=some (.ins a.aC dx [("shape",.ref sh),("task",.int t),("tree",.ref tr)])/\TrE a H tr sh top/\top∉av/\hG a.aD H sh ns low/\Good ns low
def tM (a:Adr): Sp:=fun vs H Q _=>∃(p sh dx:Addr) (t:Int) (ns:List Int) (low:Int) (av:List Addr),vs=[.ref p,.ref sh,.int t]/\H p=some (.ins a.aC dx [])/\hG a.aD H sh ns low/\Good ns low/\(∀b∈av,∃u,H b=some u) ∧
 ∀H',SpE a H' p av->Kp p H H'->Q .non H'
def og (a:Adr): Sp:=fun vs H Q _=>∃(p:Addr) (av:List Addr),vs=[.ref p]/\SpE a H p av/\∀q H',H' q=some (.lst [])->Same H H'->Q (.ref q) H'
def rT (a:Adr): Sp:=fun vs H Q _=>∃(p:Addr) (t:Int) (av:List Addr),vs=[.ref p,.int t]/\SpE a H p av/\(∀b∈av,∃u,H b=some u)/\∀q H',SpE a H' q av->Same H H'->Q (.ref q) H'
theorem hG.kp {C p:Addr}{H H':Hp}{sh:Addr}{ns:List Int}{low:Int}(S:hG C H sh ns low)(k:Kp p H H')(n1:∀D dx fs,H p≠some (.ins D dx fs)\/fs=[])(n2:∀xs,H p≠some (.tup xs)): hG C H' sh ns low:=by
 obtain⟨dx,t,h1,h2⟩:=S
 refine⟨dx,t,k _ _ h1 fun z=>?_,k _ _ h2 fun z=>n2 _ (by rw[<-z];exact h2)⟩
 rcases n1 C dx (ly t low) with q | q
 ·exact q (by rw[<-z];exact h1)
 ·have:=jC t low
  rw[q] at this
  cases this
theorem SpE.same {a:Adr}{H H':Hp}{x:Addr}{av:List Addr}(S:SpE a H x av)(s:Same H H'): SpE a H' x av:=by
 obtain⟨dx,sh,t,tr,top,ns,low,h1,⟨dt,h2,h3⟩,h4,h5,h6⟩:=S
 exact⟨dx,sh,t,tr,top,ns,low,s _ _ h1,⟨dt,s _ _ h2,s _ _ h3⟩,h4,h5.same s,h6⟩
theorem SpE.kp {a:Adr}{H H':Hp}{x d:Addr}{av:List Addr}{kvs:List (Key×V)}(S:SpE a H x av)(k:Kp d H H')(hd:H d=some (.dK kvs))(hm:d∈av): SpE a H' x av:=by
 obtain⟨dx,sh,t,tr,top,ns,low,h1,⟨dt,h2,h3⟩,h4,h5,h6⟩:=S
 refine⟨dx,sh,t,tr,top,ns,low,k _ _ h1 (cC h1 hd (by intro z;cases z)),⟨dt,k _ _ h2 (cC h2 hd (by intro z;cases z)),k _ _ h3 fun z=>h4 (z ▸ hm)⟩,h4,h5.kp k (fun _ _ _=>.inl (by rw[hd];intro z;cases z)) (fun _=>by rw[hd];intro z;cases z),h6⟩
theorem hV {H H':Hp}{q:Addr}(s:Same H H')(h:H' q=none): H q=none:=by
 cases e:H q with
 | none=>rfl
 | some u=>rw[s _ _ e] at h;cases h
section
variable {P:Program}{w:World}{K:W.Frag}{mg:Str->Option Value}{base:Heap}{a:Adr}
theorem hW {dvs:List V} (R:bu K mg "one_level_down" cG ["nodes", "width"] dvs) (T:Txt w K mg a) :
  HasFn P w K mg base 1 "one_level_down" ["nodes", "width"] (qu) dvs:=by
 refine R.ok a_ (fun vs H Q E h=>?_) (fun f cdv A outer s H vs Q E hr h=>?_)
 ·obtain⟨p,w',rfl,_⟩:=h
  rfl
 obtain⟨p,w',rfl,N,k⟩:=h
 refine⟨_,(@af _ _ _ _ _ (@aI _ _ 2 _ _ _ _ a_.nd rfl (by first | exact Or.inl rfl | exact Or.inr rfl) (@bT _ _ _ _ ah) (by rfl) (by first | exact Or.inl rfl | exact Or.inr rfl))
   (@af _ _ _ _ _ (dS cg rfl (cO (pv 0)) (je (n:=2) rfl (bV (a6 (i:=3) a_.nd rfl (by first | exact Or.inl rfl | exact Or.inr rfl)) (bV (a6 (i:=4) a_.nd rfl (by first | exact Or.inl rfl | exact Or.inr rfl)) gK)))
   (@ao _ _ _ (dS cg rfl (cO (aM (gT hr.hd) (by rfl) T.fN PyProof.Rows.Boot.«sorted» (@ae _ _ _ _ _ (pv 4) ah rfl))) (a6 (i:=5) a_.nd rfl (by first | exact Or.inl rfl | exact Or.inr rfl))
   (@ao _ _ _ (a0 (kb PySem.F.plainAttrs_list PySem.F.slot_list_append PySem.F.type_list_append dr (pv 2) (@ae _ _ _ _ _ (@im _ _ _ _ _ (@ae _ _ _ _ _ (aE uj (aE pP (pv 3) (pv 1)) (pv 5)) (@ae _ _ _ _ _ (kQ hr.u1 (pv 4) (pv 5) (fun _ _=>rfl)) ah rfl) rfl)) ah rfl)))))))
   (@ao _ _ _ (@aJ _ _ _ _ (pv 2))))),?_⟩
 walk_at "go"
 intro b hb
 generalize hh:upd _ b _=H1
 obtain⟨s1,e1⟩:=b_ hb hh
 clear hh
 rcases N with e | ⟨u,top,e,eu,et⟩
 ·have e':=s1 _ _ e
  walk_at "go"
  exact fZ (SqL.of e') (by walk_at "go";exact k _ _ e1 s1)
 ·have e':=s1 _ _ e
  have eu':=s1 _ _ eu
  have et':=s1 _ _ et
  walk_at "go"
  refine gM (xs:=[.ref u]) (fun i σ H'=>∃v1 v2 v3,σ=[some (.ref p),some (.int w'),some (.ref b),v1,v2,v3]/\Same H1 H') ⟨_,_,_,rfl,.refl _⟩ ?_ ?_ ?_
  ·rintro i σ H' _ ⟨_,_,_,_,s⟩
   exact SqL.of (s _ _ e')
  ·rintro i x σ H' hx ⟨v1,v2,v3,rfl,s⟩
   have hx:x=.ref u:=by
    cases i with
    | zero=>cases hx;rfl
    | succ i=>cases hx
   subst hx
   have eu2:=s _ _ eu'
   have et2:=s _ _ et'
   have ik:gn [] []:=rfl
   walk_at "go"
   intro q ns hq pm _
   obtain rfl:ns=[]:=pm.eq_nil
   generalize hh:upd H' q _=H3
   obtain⟨s3,e3⟩:=b_ hq hh
   clear hh
   walk_at "go"
   exact fZ (SqL.of e3) ⟨_,_,_,rfl,s.trans s3⟩
  ·rintro σ H' ⟨v1,v2,v3,rfl,s⟩
   walk_at "go"
   exact k _ _ (s _ _ e1) (s1.trans s)
theorem iO {dvs:List V} (R:dg K a.bo "Tree.__init__" c4 ["self", "shape"] dvs) (T:Txt w K mg a) :
  bp P w K mg base a.bo 1 ["self", "shape"] (uN a) dvs:=by
 refine R.ok iE (fun vs H Q E h=>?_) (fun f cdv A outer s H vs Q E hr h=>?_)
 ·obtain⟨p,sh,dx,rfl,_⟩:=h
  rfl
 obtain⟨p,sh,dx,rfl,hp,k⟩:=h
 refine⟨_,(@af _ _ _ _ _ (aT (pv 0) (pv 1) rfl)
   (@ao _ _ _ (aT (pv 0) fh rfl))),?_⟩
 have t1:=T.dP;have t2:=T.dk;have t3:=T.eQ
 walk_at "go"
 intro d hd
 have hdp:d≠p:=fun z=>by rw[z,ai] at hd;cases hd
 have hd0:H d=none:=by rw[au hdp] at hd;exact hd
 walk_at "go"
 exact k d _ hd0 ⟨dx,ai,by rw[au hdp];exact ai⟩ ((Kp.refl.set.new hd).set)
theorem lA {dvs:List V} (R:fq K a.bo "rows" "Tree.rows" fD ["self"] dvs) (T:Txt w K mg a)
  (cK:HasFn P w K mg base 1 "one_level_down" ["nodes", "width"] (qu) []) :
  cT P w K mg base a.bo 2 "rows" ["self"] (rS a) dvs:=by
 refine R.ok dh (fun vs H Q E h=>?_) (fun f cdv A outer s H vs Q E hr h=>?_)
 ·obtain⟨p,sh,top,ns,low,rfl,_⟩:=h
  rfl
 obtain⟨p,sh,top,ns,low,rfl,S,S2,g,k⟩:=h
 refine⟨_,(@af _ _ _ _ _ (@aI _ _ 1 _ _ _ _ dh.nd rfl (by first | exact Or.inl rfl | exact Or.inr rfl) (@bT _ _ _ _ (@ae _ _ _ _ _ (@im _ _ _ _ _ (@ae _ _ _ _ _ aj (@ae _ _ _ _ _ (bE (pv 0) rfl) ah rfl) rfl)) ah rfl)) (by rfl) (by first | exact Or.inl rfl | exact Or.inr rfl))
   (@af _ _ _ _ _ (dS cg rfl (sv (bE (bE (pv 0) rfl) rfl)) (a6 (i:=2) dh.nd rfl (by first | exact Or.inl rfl | exact Or.inr rfl))
   (@ao _ _ _ (@aI _ _ 1 _ _ _ _ dh.nd rfl (by first | exact Or.inl rfl | exact Or.inr rfl) (aX cK (hr.mono (by decide)) (by rfl) aq (@ae _ _ _ _ _ (pv 1) (@ae _ _ _ _ _ (pv 2) ah rfl) rfl)) (by rfl) (by first | exact Or.inl rfl | exact Or.inr rfl))))
   (@ao _ _ _ (@aJ _ _ _ _ (pv 1))))),?_⟩
 have t1:=T.dP;have t2:=T.dk;have t3:=T.eQ;have t4:=T.cU;have t5:=T.cy
 obtain⟨dx,h1,h3⟩:=S
 obtain⟨dxs,t,h4,h5⟩:=id S2
 have f1:=mh t low
 walk_at "go"
 intro u hu
 generalize hh:upd _ u _=H1
 obtain⟨s1,e1⟩:=b_ hu hh
 clear hh
 refine⟨aN,fun q hq=>?_⟩
 generalize hh:upd H1 q _=H2
 obtain⟨s2,e2⟩:=b_ hq hh
 clear hh
 have s12:=s1.trans s2
 have h12:=s12 _ _ h1
 have h42:=s12 _ _ h4
 have h52:=s12 _ _ h5
 walk_at "go"
 refine qM (xs:=ns.map V.int) (fun i σ H'=>∃(q:Addr) (v:Option V),σ=[some (.ref p),some (.ref q),v]/\uM H' q/\(0 < i->H' q=some (.lst []))/\Same H H') ⟨q,_,rfl,.inr ⟨u,top,e2,s2 _ _ e1,s12 _ _ h3⟩,fun z=>absurd z (Nat.lt_irrefl _),s12⟩ ?_ ?_ ?_
 ·rintro i σ H' _ ⟨q,v,_,_,_,s⟩
  exact SqT.of (s _ _ h5)
 ·rintro i x σ H' hx ⟨q,v,rfl,en,_,s⟩
  obtain⟨c,rfl,hc⟩:=gS hx
  walk_at "go"
  refine fun q' H3 e3 s3=>?_
  walk_at "go"
  exact⟨.inl e3,fun _=>e3,s.trans s3⟩
 ·rintro σ H' ⟨q,v,rfl,_,e,s⟩
  walk_at "go"
  exact k _ _ (e (by rw[List.length_map];rcases g.len with z | z<;>omega)) s
theorem hX {dvs:List V} (R:dg K a.aC "Space.__init__" cH ["self", "shape", "task"] dvs) (T:Txt w K mg a)
  (de:bp P w K mg base a.bo 1 ["self", "shape"] (uN a) []) :
  bp P w K mg base a.aC 3 ["self", "shape", "task"] (tM a) dvs:=by
 refine R.ok gZ (fun vs H Q E h=>?_) (fun f cdv A outer s H vs Q E hr h=>?_)
 ·obtain⟨p,sh,dx,t,ns,low,av,rfl,_⟩:=h
  rfl
 obtain⟨p,sh,dx,t,ns,low,av,rfl,hp,S,g,al,k⟩:=h
 refine⟨_,(@af _ _ _ _ _ (aT (pv 0) (pv 1) rfl)
   (@af _ _ _ _ _ (aT (pv 0) (pv 2) rfl)
   (@ao _ _ _ (aT (pv 0) (dz de (hr.mono (by decide)) (by rfl) T.tE aq (@ae _ _ _ _ _ (pv 1) ah rfl)) rfl)))),?_⟩
 have t1:=T.bD;have t2:=T.dj;have t3:=T.cR;have t4:=T.eP;have t5:=T.dP
 walk_at "go"
 rw[mQ,qj (by decide +kernel),mQ]
 generalize hA:upd _ p (.ins a.aC dx [("shape",.ref sh),("task",.int t)])=HA
 obtain⟨hpA,rA⟩:=mX hA Kp.refl.set
 clear hA
 have rA:Kp p H HA:=rA
 refine fun y dy hy hdy _=>⟨y,sh,dy,rfl,ai,fun top H2 ht TR k2=>⟨rfl,?_⟩⟩
 have hp2:=mkd hy hdy k2 hpA
 have npy:=aw hpA hy
 have r2:=rA.mk hy hdy k2
 have htA:HA top=none:=hV (cV hy hdy) ht
 walk_at "go"
 rw[qj (by decide +kernel),qj (by decide +kernel),mQ]
 obtain⟨dt,g1,g2⟩:=TR
 have q1:H2 p≠some (.dK []):=by rw[hp2];intro z;cases z
 refine k _ ⟨dx,sh,t,y,top,ns,low,ai,⟨dt,by rw[au npy.symm];exact g1,by rw[au fun z=>q1 (by rw[<-z];exact g2)];exact g2⟩,fun z=>?_,S.kp r2.set (fun D dx' fs=>?_) (fun xs=>by rw[hp];intro z;cases z),g⟩ r2.set
 ·obtain⟨u,hu⟩:=al _ z
  by_cases c:top=p
  ·rw[c,hpA] at htA;cases htA
  ·rw[rA _ _ hu c] at htA;cases htA
 ·by_cases c:fs=[]
  ·exact .inr c
  ·exact .inl fun z=>by rw[hp] at z;cases z;exact c rfl
theorem jY {dvs:List V} (R:fq K a.aC "rows" "Space.rows" eC ["self"] dvs) (T:Txt w K mg a)
  (fO:cT P w K mg base a.bo 2 "rows" ["self"] (rS a) []) :
  cT P w K mg base a.aC 3 "rows" ["self"] (og a) dvs:=by
 refine R.ok jP (fun vs H Q E h=>?_) (fun f cdv A outer s H vs Q E hr h=>?_)
 ·obtain⟨p,av,rfl,_⟩:=h
  rfl
 obtain⟨p,av,rfl,S,k⟩:=h
 refine⟨_,(@ao _ _ _ (@aJ _ _ _ _ (jo (bE (pv 0) rfl) T.dP fO (hr.mono (by decide)) aq))),?_⟩
 have t1:=T.bD;have t2:=T.dj;have t3:=T.dP
 obtain⟨dx,sh,t,tr,top,ns,low,h1,h2,h4,h5,h6⟩:=S
 have g2:=h2
 obtain⟨dt,h2,h3⟩:=h2
 walk_at "go"
 exact k
theorem jZ {dvs:List V} (R:fq K a.aC "like" "Space.like" eD ["self", "task"] dvs) (T:Txt w K mg a)
  (aZ:bp P w K mg base a.aC 3 ["self", "shape", "task"] (tM a) [])
  (aW:cT P w K mg base a.aC 3 "rows" ["self"] (og a) [])
  (fP:cT P w K mg base a.aC 1 "put" ["self", "page", "leaf"] (o9) []) :
  cT P w K mg base a.aC 5 "like" ["self", "task"] (rT a) dvs:=by
 refine R.ok cP (fun vs H Q E h=>?_) (fun f cdv A outer s H vs Q E hr h=>?_)
 ·obtain⟨p,t,av,rfl,_⟩:=h
  rfl
 obtain⟨p,t,av,rfl,S,al,k⟩:=h
 refine⟨_,(@af _ _ _ _ _ (@aI _ _ 2 _ _ _ _ cP.nd rfl (by first | exact Or.inl rfl | exact Or.inr rfl) (dz aZ (hr.mono (by decide)) (by rfl) T.n9 aq (@ae _ _ _ _ _ (bE (pv 0) rfl) (@ae _ _ _ _ _ (pv 1) ah rfl) rfl)) (by rfl) (by first | exact Or.inl rfl | exact Or.inr rfl))
   (@af _ _ _ _ _ (dS cg rfl (cO (jo (pv 0) T.bD aW (hr.mono (by decide)) aq)) (je (n:=2) rfl (bV (a6 (i:=3) cP.nd rfl (by first | exact Or.inl rfl | exact Or.inr rfl)) (bV (a6 (i:=4) cP.nd rfl (by first | exact Or.inl rfl | exact Or.inr rfl)) gK)))
   (@ao _ _ _ (a0 (qh (pv 2) T.bD fP (hr.mono (by decide)) aq (@ae _ _ _ _ _ (pv 3) (@ae _ _ _ _ _ (pv 4) ah rfl) rfl)))))
   (@ao _ _ _ (@aJ _ _ _ _ (pv 2))))),?_⟩
 have t1:=T.bD;have t2:=T.cR;have t3:=T.dP
 have SA:=S
 obtain⟨dx,sh,t',tr,top,ns,low,h1,h2,h4,h5,h6⟩:=S
 walk_at "go"
 refine fun y dy hy hdy _=>⟨y,sh,dy,t,ns,low,av,rfl,ai,h5.same (cV hy hdy),h6,fun b hb=>?_,fun H1 S1 k1=>⟨rfl,?_⟩⟩
 ·obtain⟨u,hu⟩:=al b hb
  exact⟨u,cV hy hdy _ _ hu⟩
 have s1:Same H H1:=fun b u e=>mkd hy hdy k1 e
 have S2:=SA.same s1
 have h11:=s1 _ _ h1
 walk_at "go"
 refine fun q H2 e2 s2=>?_
 walk_at "go"
 refine fZ (SqL.of e2) ?_
 walk_at "go"
 exact k _ _ (S1.same s2) (s1.trans s2)
end
end K35

set_option maxHeartbeats 4000000
namespace K35
open PySem L2
theorem mY (kvs:List (Key×V))(k j:Key): a4 (cD kvs k) j=if j=k then none else a4 kvs j:=by
 induction kvs with
 | nil=>unfold a4 cD;simp
 | cons p r ih =>
  by_cases e:p.1=k
  ·rw[kq e,ih]
   by_cases q:j=k
   ·rw[if_pos q,if_pos q]
   ·rw[if_neg q,if_neg q]
    unfold a4
    rw[List.find?_cons_of_neg]
    simpa using fun z:p.1=j=>q (z.symm.trans e)
  ·rw[kr e]
   by_cases z:p.1=j
   ·subst z
    rw[if_neg e]
    unfold a4
    rw[List.find?_cons_of_pos (by simp),List.find?_cons_of_pos (by simp)]
   ·have e1:a4 (p::cD r k) j=a4 (cD r k) j:=by
     unfold a4;rw[List.find?_cons_of_neg (by simpa using z)]
    have e2:a4 (p::r) j=a4 r j:=by
     unfold a4;rw[List.find?_cons_of_neg (by simpa using z)]
    rw[e1,e2,ih]
theorem jF {k:Int}: ∀{kvs:List (Key×V)} {ks:List Int},gn kvs ks->gn (cD kvs (.inl k)) (ks.filter fun j=>decide (j≠k))
 | [],[],_=>rfl
 | [],k'::ks,h=>by cases h
 | p::r,[],h=>by cases h
 | p::r,j::ks,h=>by
  have h':=List.cons.inj h
  have ih:=jF (k:=k) h'.2
  have hp:p.1=.inl j:=h'.1
  by_cases e:j=k
  ·rw[kq (by rw[hp,e]),List.filter_cons_of_neg (by simpa using e)];exact ih
  ·rw[kr (fun w=>e (Sum.inl.inj (hp.symm.trans w))),List.filter_cons_of_pos (by simpa using e)]
   unfold gn at ih ⊢
   rw[List.map_cons,List.map_cons,ih,hp]
theorem du:∀{kvs:List (Key×V)} {ks:List Int} {k:Int},gn kvs ks->(k∈ks↔(a4 kvs (.inl k)).isSome=true)
 | [],[],k,_=>by unfold a4;simp
 | [],_::_,_,h=>by cases h
 | _::_,[],_,h=>by cases h
 | p::r,j::ks,k,h=>by
  have h':=List.cons.inj h
  have hp:p.1=.inl j:=h'.1
  have ih:=du (k:=k) h'.2
  by_cases e:k=j
  ·subst e
   unfold a4
   rw[List.find?_cons_of_pos (by simpa using hp)]
   simp
  ·have e1:a4 (p::r) (.inl k)=a4 r (.inl k):=by
    unfold a4;rw[List.find?_cons_of_neg (by rw[hp];simpa using fun z=>e z.symm)]
   rw[e1,<-ih,List.mem_cons]
   simp[e]
def aF (a:Adr)(H:Hp)(p d:Addr)(ks:List Int)(av:List Addr): Prop:=∃dx sh pl nr ss ln ns low kvs,
 H p=some (.ins a.aB dx [("shape",.ref sh),("pool",.ref pl),("near",.ref nr),("shares",.ref ss),("spaces",.ref d),("walks",.int 0)])/\NrE a H nr ln/\ln∉av/\hG a.aD H sh ns low/\Good ns low ∧
 H d=some (.dK kvs)/\gn kvs ks/\ks.Nodup/\(∀i v,a4 kvs (.inl i)=some v->∃x,v=.ref x/\SpE a H x av)/\d∈av/\∀b∈av,∃u,H b=some u
def oh (n m k:Int): Prop:=((1<=n/\n<=64)/\0<=m/\m<=64)/\OkM k
def tN (a:Adr): Sp:=fun vs H Q E=>∃(p sh dx:Addr) (n m k:Int) (ns:List Int) (low:Int) (av:List Addr),vs=[.ref p,.ref sh,.int n,.int m,.int k]/\H p=some (.ins a.aB dx [])/\hG a.aD H sh ns low/\Good ns low/\(∀b∈av,∃u,H b=some u)/\p∉av ∧
 (oh n m k->∀d H',aF a H' p d [] (d::av)->H d=none->Kp p H H'->Q .non H')/\(¬oh n m k->∀H',Kp p H H'->E (.ref a.ax) none H')
def LF (ks:List Int)(k:Int): Prop:=0<=k/\k∉ks/\∀j,0<=j->j < k->j∈ks
theorem LF.one {ks ks':List Int}{k k':Int}(h:LF ks k)(h':LF ks' k')(e:∀x,x∈ks↔x∈ks'): k=k':=by
 rcases Int.lt_trichotomy k k' with z | z | z
 ·exact absurd ((e k).mpr (h'.2.2 k h.1 z)) h.2.1
 ·exact z
 ·exact absurd ((e k').mp (h.2.2 k' h'.1 z)) h'.2.1
theorem iP:∀(n:Nat) (ks:List Int),(∀j:Int,0<=j->j < n->j∈ks)->n<=ks.length
 | 0,_,_=>Nat.zero_le _
 | n+1,ks,h=>by
  have m:=h n (by omega) (by omega)
  have:=iP n (ks.erase n) fun j h0 h1=>(List.mem_erase_of_ne (by omega)).mpr (h j h0 (by omega))
  rw[List.length_erase_of_mem m] at this
  have:=List.length_pos_of_mem m
  omega
def tO (a:Adr): Sp:=fun vs H Q _=>∃(p d:Addr) (ks:List Int) (av:List Addr),vs=[.ref p]/\aF a H p d ks av/\∀k,LF ks k->Q (.int k) H
def lB (a:Adr): Sp:=fun vs H Q _=>∃(p d:Addr) (ks:List Int) (av:List Addr),vs=[.ref p]/\aF a H p d ks av/\ks.length < 1000/\∀k H',LF ks k->aF a H' p d (ks++[k]) av->Kp d H H'->Q (.int k) H'
def tP (a:Adr): Sp:=fun vs H Q E=>∃(p d:Addr) (ks:List Int) (av:List Addr) (t:Int),vs=[.ref p,.int t]/\aF a H p d ks av/\(t∈ks->∀x,SpE a H x av->Q (.ref x) H)/\(t∉ks->E (.ref a.aA) none H)
def mZ (a:Adr): Sp:=fun vs H Q _=>∃(p d:Addr) (ks:List Int) (av:List Addr),vs=[.ref p]/\aF a H p d ks av/\ks.length < 64/\∀(q:Addr) (ns:List Int) H',ns.Perm ks->ns.Pairwise (·<=·)->H' q=some (.lst (ns.map V.int))->H q=none->Same H H'->Q (.ref q) H'
def m4 (a:Adr): Sp:=fun vs H Q E=>∃(p d:Addr) (ks:List Int) (av:List Addr) (t:Int),vs=[.ref p,.int t]/\aF a H p d ks av/\ks.length < 1000/\(t∈ks->∀k H',LF ks k->aF a H' p d (ks++[k]) av->Kp d H H'->Q (.int k) H')/\(t∉ks->E (.ref a.aA) none H)
def qv (a:Adr): Sp:=fun vs H Q E=>∃(p d:Addr) (ks:List Int) (av:List Addr) (t:Int),vs=[.ref p,.int t]/\aF a H p d ks av/\(t∈ks->∀H',aF a H' p d (ks.filter fun j=>decide (j≠t)) av->Kp d H H'->Q .non H')/\(t∉ks->E (.ref a.aA) none H)
theorem NrE.kp {a:Adr}{H H':Hp}{p ln d:Addr}{kvs:List (Key×V)}(N:NrE a H p ln)(k:Kp d H H')(hd:H d=some (.dK kvs))(n:ln≠d): NrE a H' p ln:=by
 obtain⟨dx,m,h1,h2⟩:=N
 exact⟨dx,m,k _ _ h1 (cC h1 hd (by intro z;cases z)),k _ _ h2 n⟩
theorem NrE.same {a:Adr}{H H':Hp}{p ln:Addr}(N:NrE a H p ln)(s:Same H H'): NrE a H' p ln:=by
 obtain⟨dx,m,h1,h2⟩:=N
 exact⟨dx,m,s _ _ h1,s _ _ h2⟩
theorem aF.same {a:Adr}{H H':Hp}{p d:Addr}{ks:List Int}{av:List Addr}(M:aF a H p d ks av)(s:Same H H'): aF a H' p d ks av:=by
 obtain⟨dx,sh,pl,nr,ss,ln,ns,low,kvs,h1,h2,h3,h4,h5,h6,h7,h8,h9,h10,h11⟩:=M
 refine⟨dx,sh,pl,nr,ss,ln,ns,low,kvs,s _ _ h1,h2.same s,h3,h4.same s,h5,s _ _ h6,h7,h8,fun i v e=>?_,h10,fun b hb=>?_⟩
 ·obtain⟨x,rfl,S⟩:=h9 i v e
  exact⟨x,rfl,S.same s⟩
 ·obtain⟨u,hu⟩:=h11 b hb
  exact⟨u,s _ _ hu⟩
theorem aF.wide {a:Adr}{H:Hp}{p d b:Addr}{ks:List Int}{av:List Addr}(M:aF a H p d ks av)(hb:H b=none): ∀{H':Hp} {u:HO},Same H H'->H' b=some u->aF a H' p d ks (b::av):=by
 intro H' u s e
 obtain⟨dx,sh,pl,nr,ss,ln,ns,low,kv,h1,h2,h3,h4,h5,h6,h7,h8,h9,h10,h11⟩:=M
 have no:∀{c:Addr} {o:HO},H c=some o->c∉av->c∉b::av:=fun {c o} e h z=>by
  rcases List.mem_cons.mp z with q | q
  ·rw[q,hb] at e;cases e
  ·exact h q
 refine⟨dx,sh,pl,nr,ss,ln,ns,low,kv,s _ _ h1,h2.same s,?_,h4.same s,h5,s _ _ h6,h7,h8,fun i v e=>?_,List.mem_cons_of_mem _ h10,fun c hc=>?_⟩
 ·obtain⟨_,_,_,q⟩:=h2
  exact no q h3
 ·obtain⟨x,rfl,S⟩:=h9 i v e
  obtain⟨dx,sh,t,tr,top,ns,low,g1,⟨dt,g2,g3⟩,g4,g5,g6⟩:=S
  exact⟨x,rfl,dx,sh,t,tr,top,ns,low,s _ _ g1,⟨dt,s _ _ g2,s _ _ g3⟩,no g3 g4,g5.same s,g6⟩
 ·rcases List.mem_cons.mp hc with q | q
  ·exact⟨_,by rw[q];exact e⟩
  ·obtain⟨o,ho⟩:=h11 c q
   exact⟨o,s _ _ ho⟩
theorem aF.put {a:Adr}{H H1:Hp}{p d x:Addr}{ks:List Int}{av:List Addr}{k:Int}{kvs:List (Key×V)}(M:aF a H p d ks av)(hd:H d=some (.dK kvs))(s:Same H H1)(S:SpE a H1 x av)(hk:k∉ks):
  aF a (upd H1 d (.dK (putK kvs (.inl k) (.ref x)))) p d (ks++[k]) av:=by
 obtain⟨dx,sh,pl,nr,ss,ln,ns,low,kv,h1,h2,h3,h4,h5,h6,h7,h8,h9,h10,h11⟩:=M.same s
 have hd1:=s _ _ hd
 rw[hd1] at h6
 cases h6
 have nv:a4 kvs (.inl k)=none:=by
  cases e:a4 kvs (.inl k) with
  | none=>rfl
  | some v=>exact absurd ((du h7).mpr (by rw[e];rfl)) hk
 have kp:Kp d H1 (upd H1 d (.dK (putK kvs (.inl k) (.ref x)))):=Kp.refl.set
 refine⟨dx,sh,pl,nr,ss,ln,ns,low,_,kp _ _ h1 (cC h1 hd1 (by intro z;cases z)),h2.kp kp hd1 fun z=>h3 (z ▸ h10),h3,h4.kp kp (fun _ _ _=>.inl (by rw[hd1];intro z;cases z)) (fun _=>by rw[hd1];intro z;cases z),h5,ai,?_,?_,fun i v e=>?_,h10,fun b hb=>?_⟩
 ·rw[p3 _ nv]
  show (kvs++_).map _=_
  rw[List.map_append,List.map_append,show kvs.map (·.1)=_ from h7]
  rfl
 ·rw[List.nodup_append]
  exact⟨h8,by simp,fun a ha b hb z=>hk (by rw[<-List.mem_singleton.mp hb,<-z];exact ha)⟩
 ·rw[p0] at e
  split at e
  ·cases e
   exact⟨x,rfl,S.kp kp hd1 h10⟩
  ·obtain⟨y,rfl,S'⟩:=h9 i v e
   exact⟨y,rfl,S'.kp kp hd1 h10⟩
 ·by_cases c:b=d
  ·exact⟨_,by rw[c];exact ai⟩
  ·obtain⟨u,hu⟩:=h11 b hb
   exact⟨u,kp _ _ hu c⟩
theorem aF.drop {a:Adr}{H H1:Hp}{p d:Addr}{ks:List Int}{av:List Addr}{t:Int}{kvs:List (Key×V)}(M:aF a H p d ks av)(hd:H d=some (.dK kvs))(s:Same H H1):
  aF a (upd H1 d (.dK (cD kvs (.inl t)))) p d (ks.filter fun j=>decide (j≠t)) av:=by
 obtain⟨dx,sh,pl,nr,ss,ln,ns,low,kv,h1,h2,h3,h4,h5,h6,h7,h8,h9,h10,h11⟩:=M.same s
 have hd1:=s _ _ hd
 rw[hd1] at h6
 cases h6
 have kp:Kp d H1 (upd H1 d (.dK (cD kvs (.inl t)))):=Kp.refl.set
 refine⟨dx,sh,pl,nr,ss,ln,ns,low,_,kp _ _ h1 (cC h1 hd1 (by intro z;cases z)),h2.kp kp hd1 fun z=>h3 (z ▸ h10),h3,h4.kp kp (fun _ _ _=>.inl (by rw[hd1];intro z;cases z)) (fun _=>by rw[hd1];intro z;cases z),h5,ai,jF h7,h8.sublist List.filter_sublist,fun i v e=>?_,h10,fun b hb=>?_⟩
 ·rw[mY] at e
  split at e
  ·cases e
  ·obtain⟨y,rfl,S'⟩:=h9 i v e
   exact⟨y,rfl,S'.kp kp hd1 h10⟩
 ·by_cases c:b=d
  ·exact⟨_,by rw[c];exact ai⟩
  ·obtain⟨u,hu⟩:=h11 b hb
   exact⟨u,kp _ _ hu c⟩
end K35

set_option maxHeartbeats 4000000
namespace K35
open PySem L2
section
variable {P:Program}{w:World}{K:W.Frag}{mg:Str->Option Value}{base:Heap}{a:Adr}
theorem gI {dvs:List V} (R:bu K mg "least_free_task" cr ["memory"] dvs) (T:Txt w K mg a) :
  HasFn P w K mg base 1 "least_free_task" ["memory"] (tO a) dvs:=by
 refine R.ok b5 (fun vs H Q E h=>?_) (fun f cdv A outer s H vs Q E hr h=>?_)
 ·obtain⟨p,d,ks,av,rfl,_⟩:=h
  rfl
 obtain⟨p,d,ks,av,rfl,M,k⟩:=h
 refine⟨_,(@af _ _ _ _ _ (@aI _ _ 1 _ _ _ _ b5.nd rfl (by first | exact Or.inl rfl | exact Or.inr rfl) aj (by rfl) (by first | exact Or.inl rfl | exact Or.inr rfl))
   (@af _ _ _ _ _ (pK cg (a7 (sY hr.u1) (pv 1) (bE (pv 0) rfl) (by with_unfolding_all rfl)) (@ao _ _ _ (@aI _ _ 1 _ _ _ _ b5.nd rfl (by first | exact Or.inl rfl | exact Or.inr rfl) (aE ie (pv 1) aj) (by rfl) (by first | exact Or.inl rfl | exact Or.inr rfl))))
   (@ao _ _ _ (@aJ _ _ _ _ (pv 1))))),?_⟩
 have t1:=T.bN;have t2:=T.aH
 obtain⟨dx,sh,pl,nr,ss,ln,ns,low,kvs,h1,h2,h3,h4,h5,h6,h7,h8,h9,h10,h11⟩:=M
 walk_at "go"
 refine⟨fun n σ H'=>H'=H/\∃t:Int,σ=[some (.ref p),some (.int t)]/\0<=t/\n=ks.length+1-t.toNat/\∀j,0<=j->j < t->j∈ks,⟨_,rfl,0,rfl,Int.le_refl _,rfl,fun j h0 h1=>absurd h1 (by omega)⟩,?_⟩
 rintro n σ H' ⟨rfl,t,rfl,t0,rfl,al⟩
 have gg:=jl.k (k:=Sum.inl t) h6
 cases hv:a4 kvs (.inl t) with
 | none =>
  rw[hv] at gg
  walk_at "go"
  exact k t ⟨t0,(fun z=>by have:=(du h7).mp z;rw[hv] at this;cases this),al⟩
 | some v =>
  rw[hv] at gg
  have tm:t∈ks:=(du h7).mpr (by rw[hv];rfl)
  have al':∀j,0<=j->j < t+1->j∈ks:=fun j h0 h1=>by
   by_cases c:j=t
   ·rw[c];exact tm
   ·exact al j h0 (by omega)
  have bl:=iP (t.toNat+1) ks fun j h0 h1=>al' j h0 (by omega)
  walk_at "go"
  refine⟨fun σ H2=>H2=H'/\σ=[some (.ref p),some (.int (t+1))],?_,?_⟩
  ·rintro σ' H2 ⟨rfl,rfl⟩
   exact⟨ks.length+1-(t+1).toNat,by omega,rfl,t+1,rfl,by omega,rfl,al'⟩
  ·walk_at "go"
   exact rfl
theorem j0 {dvs:List V} (R:bu K mg "begin_task" eE ["memory"] dvs) (T:Txt w K mg a)
  (aU:HasFn P w K mg base 1 "least_free_task" ["memory"] (tO a) [])
  (aZ:bp P w K mg base a.aC 3 ["self", "shape", "task"] (tM a) []) :
  HasFn P w K mg base 5 "begin_task" ["memory"] (lB a) dvs:=by
 refine R.ok gp (fun vs H Q E h=>?_) (fun f cdv A outer s H vs Q E hr h=>?_)
 ·obtain⟨p,d,ks,av,rfl,_⟩:=h
  rfl
 obtain⟨p,d,ks,av,rfl,M,kl,k⟩:=h
 refine⟨_,(@af _ _ _ _ _ (@aI _ _ 1 _ _ _ _ gp.nd rfl (by first | exact Or.inl rfl | exact Or.inr rfl) (aX aU (hr.mono (by decide)) (by rfl) aq (@ae _ _ _ _ _ (pv 0) ah rfl)) (by rfl) (by first | exact Or.inl rfl | exact Or.inr rfl))
   (@af _ _ _ _ _ (@nP _ _ _ _ _ _ _ _ _ hr.u1 (bE (pv 0) rfl) (pv 1) (dz aZ (hr.mono (by decide)) (by rfl) T.n9 aq (@ae _ _ _ _ _ (bE (pv 0) rfl) (@ae _ _ _ _ _ (pv 1) ah rfl) rfl)) (by rfl))
   (@ao _ _ _ (@aJ _ _ _ _ (pv 1))))),?_⟩
 have t1:=T.bN;have t2:=T.aH;have t3:=T.cw
 have MA:=M
 obtain⟨dx,sh,pl,nr,ss,ln,ns,low,kvs,h1,h2,h3,h4,h5,h6,h7,h8,h9,h10,h11⟩:=M
 have kvl:kvs.length=ks.length:=by have:=congrArg List.length h7;simpa using this
 walk_at "go"
 refine fun t lf=>?_
 walk_at "go"
 refine fun y dy hy hdy _=>⟨y,sh,dy,t,ns,low,av,rfl,ai,h4.same (cV hy hdy),h5,fun b hb=>?_,fun H1 S1 k1=>⟨rfl,?_⟩⟩
 ·obtain⟨u,hu⟩:=h11 b hb
  exact⟨u,cV hy hdy _ _ hu⟩
 have s1:Same H H1:=fun b u e=>mkd hy hdy k1 e
 have tQ:=s1 _ _ h1
 have h61:=s1 _ _ h6
 have dp:=oO.k (k:=Sum.inl t) (v:=.ref y) h61 (by rw[sizeLine_eq];omega)
 walk_at "go"
 exact k t _ lf (MA.put h6 s1 S1 lf.2.1) (Kp.refl.same s1).set
theorem mj {dvs:List V} (R:bu K mg "space_of" gx ["memory", "task"] dvs) (T:Txt w K mg a) :
  HasFn P w K mg base 1 "space_of" ["memory", "task"] (tP a) dvs:=by
 refine R.ok l7 (fun vs H Q E h=>?_) (fun f cdv A outer s H vs Q E hr h=>?_)
 ·obtain⟨p,d,ks,av,t,rfl,_⟩:=h
  rfl
 obtain⟨p,d,ks,av,t,rfl,M,k1,k2⟩:=h
 refine⟨_,(@af _ _ _ _ _ (bF (a7 (o4 hr.u1) (pv 1) (bE (pv 0) rfl) (by with_unfolding_all rfl)) (@ao _ _ _ (cS T.jw rfl (by rfl) T.jx aq (@ae _ _ _ _ _ eZ ah rfl))) aL)
   (@ao _ _ _ (@aJ _ _ _ _ (kQ hr.u1 (bE (pv 0) rfl) (pv 1) (fun _ _=>rfl))))),?_⟩
 have t1:=T.bN;have t2:=T.aH
 obtain⟨dx,sh,pl,nr,ss,ln,ns,low,kvs,h1,h2,h3,h4,h5,h6,h7,h8,h9,h10,h11⟩:=M
 have gg:=jl.k (k:=Sum.inl t) h6
 have me:=du (k:=t) h7
 cases hv:a4 kvs (.inl t) with
 | none =>
  rw[hv] at gg me
  walk_at "go"
  exact k2 fun z=>by cases me.mp z
 | some v =>
  rw[hv] at gg me
  obtain⟨x,rfl,S⟩:=h9 _ _ hv
  walk_at "go"
  exact k1 (me.mpr rfl) x S
theorem j1 {dvs:List V} (R:bu K mg "live_tasks" eF ["memory"] dvs) (T:Txt w K mg a) :
  HasFn P w K mg base 1 "live_tasks" ["memory"] (mZ a) dvs:=by
 refine R.ok jQ (fun vs H Q E h=>?_) (fun f cdv A outer s H vs Q E hr h=>?_)
 ·obtain⟨p,d,ks,av,rfl,_⟩:=h
  rfl
 obtain⟨p,d,ks,av,rfl,M,kl,k⟩:=h
 refine⟨_,(@ao _ _ _ (@aJ _ _ _ _ (aM (gT hr.hd) (by rfl) T.fN PyProof.Rows.Boot.«sorted» (@ae _ _ _ _ _ (bE (pv 0) rfl) ah rfl)))),?_⟩
 have t1:=T.bN;have t2:=T.aH
 obtain⟨dx,sh,pl,nr,ss,ln,ns,low,kvs,h1,h2,h3,h4,h5,h6,h7,h8,h9,h10,h11⟩:=M
 walk_at "go"
 intro q ns hq pm pw
 exact k q ns _ pm pw ai hq (bM hq)
theorem lC {dvs:List V} (R:bu K mg "fork_task" fF ["memory", "task"] dvs) (T:Txt w K mg a)
  (cL:HasFn P w K mg base 1 "space_of" ["memory", "task"] (tP a) [])
  (aU:HasFn P w K mg base 1 "least_free_task" ["memory"] (tO a) [])
  (aW:cT P w K mg base a.aC 3 "rows" ["self"] (og a) [])
  (eU:HasFn P w K mg base 1 "count_more" ["memory", "leaf"] (o9) [])
  (eV:cT P w K mg base a.aC 5 "like" ["self", "task"] (rT a) []) :
  HasFn P w K mg base 6 "fork_task" ["memory", "task"] (m4 a) dvs:=by
 refine R.ok cv (fun vs H Q E h=>?_) (fun f cdv A outer s H vs Q E hr h=>?_)
 ·obtain⟨p,d,ks,av,t,rfl,_⟩:=h
  rfl
 obtain⟨p,d,ks,av,t,rfl,M,kl,k1,k2⟩:=h
 refine⟨_,(@af _ _ _ _ _ (@aI _ _ 2 _ _ _ _ cv.nd rfl (by first | exact Or.inl rfl | exact Or.inr rfl) (aX cL (hr.mono (by decide)) (by rfl) aq (@ae _ _ _ _ _ (pv 0) (@ae _ _ _ _ _ (pv 1) ah rfl) rfl)) (by rfl) (by first | exact Or.inl rfl | exact Or.inr rfl))
   (@af _ _ _ _ _ (@aI _ _ 3 _ _ _ _ cv.nd rfl (by first | exact Or.inl rfl | exact Or.inr rfl) (aX aU (hr.mono (by decide)) (by rfl) aq (@ae _ _ _ _ _ (pv 0) ah rfl)) (by rfl) (by first | exact Or.inl rfl | exact Or.inr rfl))
   (@af _ _ _ _ _ (dS cg rfl (cO (jo (pv 2) T.bD aW (hr.mono (by decide)) aq)) (je (n:=2) rfl (bV (a6 (i:=4) cv.nd rfl (by first | exact Or.inl rfl | exact Or.inr rfl)) (bV (a6 (i:=5) cv.nd rfl (by first | exact Or.inl rfl | exact Or.inr rfl)) gK)))
   (@ao _ _ _ (a0 (aX eU (hr.mono (by decide)) (by rfl) aq (@ae _ _ _ _ _ (pv 0) (@ae _ _ _ _ _ (pv 5) ah rfl) rfl)))))
   (@af _ _ _ _ _ (@nP _ _ _ _ _ _ _ _ _ hr.u1 (bE (pv 0) rfl) (pv 3) (qh (pv 2) T.bD eV (hr.mono (by decide)) aq (@ae _ _ _ _ _ (pv 3) ah rfl)) (by rfl))
   (@ao _ _ _ (@aJ _ _ _ _ (pv 3))))))),?_⟩
 have t1:=T.bN;have t2:=T.aH;have t3:=T.bD
 have MA:=M
 obtain⟨dx,sh,pl,nr,ss,ln,ns,low,kvs,h1,h2,h3,h4,h5,h6,h7,h8,h9,h10,h11⟩:=M
 have kvl:kvs.length=ks.length:=by have:=congrArg List.length h7;simpa using this
 walk_at "go"
 refine⟨fun tm x S=>?_,k2⟩
 have SA:=S
 obtain⟨dxs,sh',t',tr,top,ns',vS,g1,g2,g3⟩:=S
 walk_at "go"
 refine fun c lf=>?_
 walk_at "go"
 refine fun q H1 e1 s1=>?_
 walk_at "go"
 refine fZ (SqL.of e1) ?_
 have S1:=SA.same s1
 have tQ:=s1 _ _ h1
 have g11:=s1 _ _ g1
 have al1:∀b∈av,∃u,H1 b=some u:=fun b hb=>by obtain⟨u,hu⟩:=h11 b hb;exact⟨u,s1 _ _ hu⟩
 walk_at "go"
 refine fun y H2 S2 s2=>?_
 have h12:=s2 _ _ tQ
 have s12:=s1.trans s2
 have h62:=s12 _ _ h6
 have dp:=oO.k (k:=Sum.inl c) (v:=.ref y) h62 (by rw[sizeLine_eq];omega)
 walk_at "go"
 exact k1 tm c _ lf (MA.put h6 s12 S2 lf.2.1) (Kp.refl.same s12).set
theorem mm {dvs:List V} (R:bu K mg "end_task" gA ["memory", "task"] dvs) (T:Txt w K mg a)
  (cL:HasFn P w K mg base 1 "space_of" ["memory", "task"] (tP a) [])
  (aW:cT P w K mg base a.aC 3 "rows" ["self"] (og a) [])
  (eW:HasFn P w K mg base 1 "count_less" ["memory", "leaf"] (o9) [])
  (b7:cT P w K mg base a.bj 1 "forget_task" ["self", "task"] (uL a) []) :
  HasFn P w K mg base 4 "end_task" ["memory", "task"] (qv a) dvs:=by
 refine R.ok dN (fun vs H Q E h=>?_) (fun f cdv A outer s H vs Q E hr h=>?_)
 ·obtain⟨p,d,ks,av,t,rfl,_⟩:=h
  rfl
 obtain⟨p,d,ks,av,t,rfl,M,k1,k2⟩:=h
 refine⟨_,(@af _ _ _ _ _ (@aI _ _ 2 _ _ _ _ dN.nd rfl (by first | exact Or.inl rfl | exact Or.inr rfl) (aX cL (hr.mono (by decide)) (by rfl) aq (@ae _ _ _ _ _ (pv 0) (@ae _ _ _ _ _ (pv 1) ah rfl) rfl)) (by rfl) (by first | exact Or.inl rfl | exact Or.inr rfl))
   (@af _ _ _ _ _ (dS cg rfl (cO (jo (pv 2) T.bD aW (hr.mono (by decide)) aq)) (je (n:=2) rfl (bV (a6 (i:=3) dN.nd rfl (by first | exact Or.inl rfl | exact Or.inr rfl)) (bV (a6 (i:=4) dN.nd rfl (by first | exact Or.inl rfl | exact Or.inr rfl)) gK)))
   (@ao _ _ _ (a0 (aX eW (hr.mono (by decide)) (by rfl) aq (@ae _ _ _ _ _ (pv 0) (@ae _ _ _ _ _ (pv 4) ah rfl) rfl)))))
   (@af _ _ _ _ _ (a0 (qh (bE (pv 0) rfl) T.fX b7 (hr.mono (by decide)) aq (@ae _ _ _ _ _ (pv 1) ah rfl)))
   (@ao _ _ _ (a0 (lU (bE (pv 0) rfl) (pv 1) ⟨rfl,rfl,rfl,rfl⟩)))))),?_⟩
 have t1:=T.bN;have t2:=T.aH;have t3:=T.bD;have t4:=T.cQ;have t5:=T.fX
 have MA:=M
 obtain⟨dx,sh,pl,nr,ss,ln,ns,low,kvs,h1,h2,h3,h4,h5,h6,h7,h8,h9,h10,h11⟩:=M
 walk_at "go"
 refine⟨fun tm x S=>?_,k2⟩
 have SA:=S
 obtain⟨dxs,sh',t',tr,top,ns',vS,g1,g2,g3⟩:=S
 walk_at "go"
 refine fun q H1 e1 s1=>?_
 walk_at "go"
 refine fZ (SqL.of e1) ?_
 have tQ:=s1 _ _ h1
 have N1:=h2.same s1
 obtain⟨dn,mn,n1,n2⟩:=id N1
 walk_at "go"
 refine fun H2 s2=>?_
 have s12:=s1.trans s2
 have h12:=s12 _ _ h1
 have h62:=s12 _ _ h6
 obtain⟨v,hv⟩:∃v,a4 kvs (.inl t)=some v:=Option.isSome_iff_exists.mp ((du h7).mp tm)
 walk_at "go"
 refine⟨.inl ⟨kvs,.inl h62⟩,_,rfl,kvs,.inl t,v,h62,rfl,hv,?_⟩
 exact k1 tm _ (MA.drop h6 s12) (Kp.refl.same s12).set
end
end K35

set_option maxHeartbeats 4000000
namespace K35
open PySem L2
theorem rE {low:Int}(h0:0<=low)(h6:low<=6): (1:Int)<=2^low.toNat/\(2:Int)^low.toNat<=64:=by
 obtain⟨n,rfl⟩:=Int.eq_ofNat_of_zero_le h0
 have:n<=6:=by omega
 rw[Int.toNat_natCast]
 match n,this with
 | 0,_=>decide
 | 1,_=>decide
 | 2,_=>decide
 | 3,_=>decide
 | 4,_=>decide
 | 5,_=>decide
 | 6,_=>decide
section
variable {P:Program}{w:World}{K:W.Frag}{mg:Str->Option Value}{base:Heap}{a:Adr}
theorem dG {dvs:List V} (R:dg K a.aB "Memory.__init__" a9 ["self", "shape", "frames", "slots", "near"] dvs) (T:Txt w K mg a)
  (bY:bp P w K mg base a.bw 5 ["self", "frames", "slots", "size"] (uI a) [])
  (dq:cT P w K mg base a.aD 1 "size" ["self"] (qt a) [])
  (bZ:bp P w K mg base a.bj 1 ["self", "many"] (uJ a) [])
  (bH:bp P w K mg base a.bn 1 ["self"] (uK a) []) :
  bp P w K mg base a.aB 7 ["self", "shape", "frames", "slots", "near"] (tN a) dvs:=by
 refine R.ok gE (fun vs H Q E h=>?_) (fun f cdv A outer s H vs Q E hr h=>?_)
 ·obtain⟨p,sh,dx,n,m,k,ns,low,av,rfl,_⟩:=h
  rfl
 obtain⟨p,sh,dx,n,m,k,ns,low,av,rfl,hp,S,g,al,pav,k1,k2⟩:=h
 refine⟨_,(@af _ _ _ _ _ (aT (pv 0) (pv 1) rfl)
   (@af _ _ _ _ _ (aT (pv 0) (dz bY (hr.mono (by decide)) (by rfl) T.tu aq (@ae _ _ _ _ _ (pv 2) (@ae _ _ _ _ _ (pv 3) (@ae _ _ _ _ _ (jo (pv 1) T.cU dq (hr.mono (by decide)) aq) ah rfl) rfl) rfl)) rfl)
   (@af _ _ _ _ _ (aT (pv 0) (dz bZ (hr.mono (by decide)) (by rfl) T.tD aq (@ae _ _ _ _ _ (pv 4) ah rfl)) rfl)
   (@af _ _ _ _ _ (aT (pv 0) (sZ bH (hr.mono (by decide)) (by rfl) T.qo aq) rfl)
   (@af _ _ _ _ _ (aT (pv 0) fh rfl)
   (@ao _ _ _ (aT (pv 0) aj rfl))))))),?_⟩
 have t1:=T.bN;have t2:=T.aH;have t3:=T.cw;have t4:=T.dZ;have t5:=T.cQ;have t6:=T.c9;have t7:=T.dD;have t8:=T.cU
 have so:=rE g.tK g.tL
 obtain⟨dxs,ts,hs,hw⟩:=id S
 have n1:∀D dx' fs,H p≠some (.ins D dx' fs)\/fs=[]:=fun D dx' fs=>by
  by_cases c:fs=[]
  ·exact .inr c
  ·exact .inl fun z=>by rw[hp] at z;cases z;exact c rfl
 have n2:∀xs,H p≠some (.tup xs):=fun xs=>by rw[hp];intro z;cases z
 have nsp:sh≠p:=fun z=>by
  rcases n1 _ _ _ with q | q
  ·exact q (by rw[<-z];exact hs)
  ·have:=jC ts low
   rw[q] at this
   cases this
 have fz:(ly ts low).lookup ("size" : Str)=none:=rq _ _ (by decide +kernel) (by decide +kernel)
 have SA:hG a.aD (upd H p (.ins a.aB dx (dI "shape" (.ref sh) []))) sh ns low:=S.kp Kp.refl.set n1 n2
 walk_at "go"
 generalize hA:upd _ p _=HA at *
 obtain⟨hpA,rA⟩:=mX hA (Kp.refl (p:=p))
 clear hA
 refine fun x1 d1 hx1 hd1 _=>⟨x1,d1,n,m,_,rfl,ai,so.1,so.2,fun o1 H1 q1=>⟨rfl,?_⟩,fun bad H1 q1=>k2 (fun z=>bad z.1) H1 (rA.mk hx1 hd1 q1)⟩
 have hp1:=mkd hx1 hd1 q1 hpA
 have r1:=rA.mk hx1 hd1 q1
 walk_at "go"
 generalize hB:upd H1 p _=HB
 obtain⟨hpB,rB⟩:=mX hB r1
 clear hB
 refine fun x2 d2 hx2 hd2 _=>⟨x2,d2,k,rfl,ai,fun o2 ln H2 hl N2 q2=>⟨rfl,?_⟩,fun bad=>k2 (fun z=>bad z.2) _ (rB.same (cV hx2 hd2))⟩
 have hp2:=mkd hx2 hd2 q2 hpB
 have r2:=rB.mk hx2 hd2 q2
 have hlB:=hV (cV hx2 hd2) hl
 walk_at "go"
 generalize hC:upd H2 p _=HC
 obtain⟨hpC,rC⟩:=mX hC r2
 have r2C:Kp p H2 HC:=by rw[<-hC];exact Kp.refl.set
 clear hC
 refine fun x3 d3 hx3 hd3 _=>⟨x3,d3,rfl,ai,fun H3 q3=>⟨rfl,?_⟩⟩
 have hp3:=mkd hx3 hd3 q3 hpC
 have r3:=rC.mk hx3 hd3 q3
 have r23:=r2C.mk hx3 hd3 q3
 walk_at "go"
 intro d hd
 have hdp:d≠p:=fun z=>by rw[z,ai] at hd;cases hd
 have tR:H3 d=none:=by rw[au hdp] at hd;exact hd
 walk_at "go"
 generalize hD:upd (upd (upd (upd H3 p _) d _) p _) p _=HD
 obtain⟨hpD,rD⟩:=mX hD ((r3.set.new hd).set)
 have r2D:Kp p H2 HD:=by rw[<-hD];exact(r23.set.new hd).set.set
 have hdD:HD d=some (.dK []):=by rw[<-hD,au hdp,au hdp];exact ai
 obtain⟨dn,mn,g1,g2⟩:=N2
 have nx2:x2≠p:=(aw hpB hx2).symm
 have nlp:ln≠p:=(aw hpB hlB).symm
 have hd0:H d=none:=by
  cases e:H d with
  | none=>rfl
  | some u=>rw[r3 _ _ e hdp] at tR;cases tR
 refine k1 ⟨o1,o2⟩ d HD ⟨dx,sh,x1,x2,x3,ln,ns,low,[],by rw[hpD];rfl,⟨dn,mn,r2D _ _ g1 nx2,r2D _ _ g2 nlp⟩,fun z=>?_,S.kp rD n1 n2,g,hdD,rfl,.nil,fun i v e=>(nomatch e),List.mem_cons_self,fun b hb=>?_⟩ hd0 rD
 ·rcases List.mem_cons.mp z with q | q
  ·have:=r23 _ _ g2 nlp
   rw[q,tR] at this;cases this
  ·obtain⟨u,hu⟩:=al _ q
   rw[rB _ _ hu nlp] at hlB;cases hlB
 ·rcases List.mem_cons.mp hb with q | q
  ·exact⟨_,by rw[q];exact hdD⟩
  ·obtain⟨u,hu⟩:=al _ q
   exact⟨u,rD _ _ hu fun z=>pav (z ▸ q)⟩
end
def lD:Sp:=fun vs H Q _=>∃i,vs=[.int i]/\Q (.bl true) H
section
variable {P:Program}{w:World}{K:W.Frag}{mg:Str->Option Value}{base:Heap}{a:Adr}
theorem j2 {dvs:List V} (R:bu K mg "_law_whole" eJ ["_law_found"] dvs) (T:Txt w K mg a) :
  HasFn P w K mg base 1 "_law_whole" ["_law_found"] (lD) dvs:=by
 refine R.ok jT (fun vs H Q E h=>?_) (fun f cdv A outer s H vs Q E hr h=>?_)
 ·obtain⟨i,rfl,_⟩:=h
  rfl
 obtain⟨i,rfl,q⟩:=h
 refine⟨_,(@ao _ _ _ (@aJ _ _ _ _ (fb (aM dL (by rfl) T.aS PyProof.Rows.Boot.«isinstance» (@ae _ _ _ _ _ (pv 0) (@ae _ _ _ _ _ (i_ (v:=.ty "int") (by rfl) T.oa PyProof.Rows.Boot.«int» rfl) ah rfl) rfl)) (ic (my (aM dL (by rfl) T.aS PyProof.Rows.Boot.«isinstance» (@ae _ _ _ _ _ (pv 0) (@ae _ _ _ _ _ (i_ (v:=.ty "bool") (by rfl) T.mW PyProof.Rows.Boot.«bool» rfl) ah rfl) rfl))))))),?_⟩
 exact⟨_,rfl,.int i,.ty "int",.type "int",true,rfl,rfl,.of (.int i),bB K _,true,rfl,lR ⟨_,rfl,.int i,.ty "bool",.type "int",false,rfl,rfl,.of (.int i),cW K,false,rfl,q⟩⟩
end
end K35

set_option maxHeartbeats 4000000
namespace K35
open PySem L2
def lE (K:W.Frag): Sp:=fun vs H Q _=>∃(l:Addr) (ns:List Int),vs=[.ref l]/\H l=some (.lst (ns.map V.int))/\ns.length < 1000/\∀k,LF ns k->Q (.int k) H
def oi (a:Adr): Sp:=fun vs H Q _=>∃(p d:Addr) (ks:List Int) (av:List Addr) (t w:Int),vs=[.ref p,.int t,.int w]/\aF a H p d ks av/\ks.length < 1000/\t∉ks/\∀H',Same H H'->Q (.bl true) H'
def mo (K:W.Frag): Sp:=fun vs H Q _=>∃(l:Addr) (ns:List Int) (c:Int),vs=[.ref l,.int c]/\H l=some (.lst (ns.map V.int))/\ns.length < 1000/\(∀x∈ns,0<=x)/\∀t H',t∉ns->Same H H'->Q (.int t) H'
section
variable {P:Program}{w:World}{K:W.Frag}{mg:Str->Option Value}{base:Heap}{a:Adr}
theorem j3 {dvs:List V} (R:bu K mg "_law_least" eK ["_law_live"] dvs) (T:Txt w K mg a) :
  HasFn P w K mg base 1 "_law_least" ["_law_live"] (lE K) dvs:=by
 refine R.ok gq (fun vs H Q E h=>?_) (fun f cdv A outer s H vs Q E hr h=>?_)
 ·obtain⟨l,ns,rfl,_⟩:=h
  rfl
 obtain⟨l,ns,rfl,hl,n1,k⟩:=h
 refine⟨_,(@af _ _ _ _ _ (dS cg rfl (oB (by rfl) T.lw (@ae _ _ _ _ _ (aE ie (aM cf (by rfl) T.jz PySem.boot_len (@ae _ _ _ _ _ (pv 0) ah rfl)) aj) ah rfl)) (a6 (i:=1) gq.nd rfl (by first | exact Or.inl rfl | exact Or.inr rfl))
   (@ao _ _ _ (bF (a7 ej (pv 1) (pv 0) (by with_unfolding_all rfl)) (@ao _ _ _ (@aJ _ _ _ _ (pv 1))) aL)))
   (@ao _ _ _ (@aJ _ _ _ _ (pN mC aj)))),?_⟩
 have hq:SqL K H l (ns.map V.int):=SqL.of hl
 have hz:(ns.map V.int).length < 1000:=by rw[List.length_map];exact n1
 have fl:(ns.map V.int).all gk=true:=kC ns
 walk_at "go"
 refine oE (fun i σ H'=>Bx (∃v:Option V,σ=[some (.ref l),v]/\H'=H/\∀j:Int,0<=j->j < i->j∈ns)) ⟨_,rfl,rfl,fun j h0 h1=>absurd h1 (by omega)⟩ ?_ ?_
 ·rintro i σ H' hi ⟨v,rfl,rfl,al⟩
  walk_at "go"
  rw[if_pos rfl,gR,Int.zero_add]
  refine l0 (fun c=>?_) fun c=>?_
  ·walk_at "go"
   exact k _ ⟨by omega,c,al⟩
  ·walk_at "go"
   refine⟨_,rfl,rfl,fun j h0 h1=>?_⟩
   by_cases q:j=(i:Int)
   ·rw[q];exact c
   ·exact al j h0 (by omega)
 ·rintro σ H' ⟨v,rfl,rfl,al⟩
  have:=iP (ns.length+1) ns fun j h0 h1=>al j h0 (by rw[List.length_map];omega)
  omega
theorem i7 {dvs:List V} (R:bu K mg "_law_refused" dC ["_law_memory", "_law_task", "_law_way"] dvs) (T:Txt w K mg a)
  (b9:HasFn P w K mg base 6 "fork_task" ["memory", "task"] (m4 a) [])
  (cM:HasFn P w K mg base 4 "end_task" ["memory", "task"] (qv a) []) :
  HasFn P w K mg base 7 "_law_refused" ["_law_memory", "_law_task", "_law_way"] (oi a) dvs:=by
 refine R.ok bX (fun vs H Q E h=>?_) (fun f cdv A outer s H vs Q E hr h=>?_)
 ·obtain⟨p,d,ks,av,t,w',rfl,_⟩:=h
  rfl
 obtain⟨p,d,ks,av,t,w',rfl,M,kl,tn,k⟩:=h
 refine⟨_,(@af _ _ _ _ _ (@aI _ _ 3 _ _ _ _ bX.nd rfl (by first | exact Or.inl rfl | exact Or.inr rfl) gJ (by rfl) (by first | exact Or.inl rfl | exact Or.inr rfl))
   (@af _ _ _ _ _ (kz (i:=4) rfl rfl rfl rfl T.dR (by rfl) T.iV bX.nd rfl rfl
   (fun pn xe EX hx=>(@ao _ _ _ (bF (a7 gi (pv 2) aj (bI _)) (@ao _ _ _ (a0 (aX b9 (hr.mono (by decide)) (by rfl) hx (@ae _ _ _ _ _ (pv 0) (@ae _ _ _ _ _ (pv 1) ah rfl) rfl)))) (@ao _ _ _ (a0 (aX cM (hr.mono (by decide)) (by rfl) hx (@ae _ _ _ _ _ (pv 0) (@ae _ _ _ _ _ (pv 1) ah rfl) rfl)))))))
   (fun pn A' xe=>(@ao _ _ _ (@aI _ _ 3 _ _ _ _ bX.nd rfl (by first | exact Or.inl rfl | exact Or.inr rfl) (fb (aM (eA (K:=K) rfl) (by rfl) T.aS PyProof.Rows.Boot.«isinstance» (@ae _ _ _ _ _ (pv 4) (@ae _ _ _ _ _ (dJ (v:=.ref a.aA) (by rfl) T.jx rfl) ah rfl) rfl)) (fb (aM (eA (K:=K) rfl) (by rfl) T.aS PyProof.Rows.Boot.«isinstance» (@ae _ _ _ _ _ (pv 4) (@ae _ _ _ _ _ (i_ (v:=.ty "ValueError") (by rfl) T.eT PyProof.Rows.Boot.«ValueError» rfl) ah rfl) rfl)) (ic (my (aM (gl (K:=K) rfl) (by rfl) T.aS PyProof.Rows.Boot.«isinstance» (@ae _ _ _ _ _ (pv 4) (@ae _ _ _ _ _ (@im _ _ _ _ _ (@ae _ _ _ _ _ (dJ (v:=.ref a.bg) (by rfl) T.jv rfl) (@ae _ _ _ _ _ (dJ (v:=.ref a.cI) (by rfl) T.o8 rfl) ah rfl) rfl)) ah rfl) rfl)))))) (by rfl) (by first | exact Or.inl rfl | exact Or.inr rfl)))))
   (@ao _ _ _ (@aJ _ _ _ _ (pv 3))))),?_⟩
 have u1:=T.jB;have u2:=T.tF;have u3:=T.tG;have u4:=T.tH
 walk_at "go"
 refine fw (fun c=>?_) fun c=>?_
 ·walk_at "go"
  refine⟨fun z=>absurd z tn,fun _=>?_⟩
  walk_at "go"
  intro e he
  generalize hh:upd _ e _=H1
  obtain⟨s1,e1⟩:=b_ he hh
  clear hh
  have ty1:TyE K H1 (.ref e) (.ref a.aA):=.exc e1 T.ef T.isk
  walk_at "go"
  intro q hq
  generalize hh:upd _ q _=H2
  obtain⟨s2,e2⟩:=b_ hq hh
  clear hh
  have ty2:TyE K H2 (.ref e) (.ref a.aA):=.exc (s2 _ _ e1) T.ef T.isk
  walk_at "go"
  exact k _ (s1.trans s2)
 ·walk_at "go"
  refine⟨fun z=>absurd z tn,fun _=>?_⟩
  walk_at "go"
  intro e he
  generalize hh:upd _ e _=H1
  obtain⟨s1,e1⟩:=b_ he hh
  clear hh
  have ty1:TyE K H1 (.ref e) (.ref a.aA):=.exc e1 T.ef T.isk
  walk_at "go"
  intro q hq
  generalize hh:upd _ q _=H2
  obtain⟨s2,e2⟩:=b_ hq hh
  clear hh
  have ty2:TyE K H2 (.ref e) (.ref a.aA):=.exc (s2 _ _ e1) T.ef T.isk
  walk_at "go"
  exact k _ (s1.trans s2)
theorem jG {dvs:List V} (R:bu K mg "_law_nobody" dW ["_law_live", "_law_cell"] dvs) (T:Txt w K mg a)
  (bx:HasFn P w K mg base 1 "_law_least" ["_law_live"] (lE K) []) :
  HasFn P w K mg base 2 "_law_nobody" ["_law_live", "_law_cell"] (mo K) dvs:=by
 refine R.ok fI (fun vs H Q E h=>?_) (fun f cdv A outer s H vs Q E hr h=>?_)
 ·obtain⟨l,ns,c,rfl,_⟩:=h
  rfl
 obtain⟨l,ns,c,rfl,hl,n1,n0,k⟩:=h
 refine⟨_,(@af _ _ _ _ _ (@aI _ _ 2 _ _ _ _ fI.nd rfl (by first | exact Or.inl rfl | exact Or.inr rfl) (aE b0 (aE bW (pv 1) aj) (aE pO aj aj)) (by rfl) (by first | exact Or.inl rfl | exact Or.inr rfl))
   (@af _ _ _ _ _ (bF (a7 gi (aE b0 (pv 1) aj) aj (bI _)) (@ao _ _ _ (@aJ _ _ _ _ (aE jh (pN mC aj) (pv 2)))) aL)
   (@af _ _ _ _ _ (bF (a7 gi (aE b0 (pv 1) aj) aj (bI _)) (@ao _ _ _ (@aJ _ _ _ _ (aE ie (aE ie (aM (o6 rfl) (by rfl) T.qp PyProof.Rows.Boot.«max» (@ae _ _ _ _ _ (aE sM (pv 0) (@bT _ _ _ _ (@ae _ _ _ _ _ (pN mC aj) ah rfl))) ah rfl)) aj) (pv 2)))) aL)
   (@ao _ _ _ (@aJ _ _ _ _ (aX bx (hr.mono (by decide)) (by rfl) aq (@ae _ _ _ _ _ (pv 0) ah rfl))))))),?_⟩
 have hq:SqL K H l (ns.map V.int):=SqL.of hl
 have f0:0<=c / 3%10^30:=Int.emod_nonneg _ (by decide)
 walk_at "go"
 refine fw (fun c0=>?_) fun c0=>?_
 ·walk_at "go"
  refine k _ _ (fun z=>?_) (.refl _)
  have:=n0 _ z
  have e:(c / 3%10^Int.toNat 30)=c / 3%10^30:=rfl
  omega
 walk_at "go"
 refine fw (fun c1=>?_) fun c1=>?_
 ·walk_at "go"
  intro q hq
  generalize hh:upd _ q _=H1
  obtain⟨s1,e1⟩:=b_ hq hh
  clear hh
  have hl1:=s1 _ _ hl
  have z1:(ns.map V.int).length+[V.int (-1)].length<=sizeLine:=by rw[sizeLine_eq,List.length_map];show _+1<=_;omega
  walk_at "go"
  intro r hr
  generalize hh:upd H1 r _=H2
  obtain⟨s2,e2⟩:=b_ hr hh
  clear hh
  have e2':H2 r=some (.lst ((ns++[-1]).map V.int)):=by rw[e2,List.map_append];rfl
  have hq2:SqL K H2 r ((ns++[-1]).map V.int):=SqL.of e2'
  have ln:0 < (ns++[-1]).length:=by simp
  walk_at "go"
  intro M m1 m2
  walk_at "go"
  refine k _ _ (fun z=>?_) (s1.trans s2)
  have:=m2 _ (List.mem_append_left _ z)
  have e:(c / 3%10^Int.toNat 30)=c / 3%10^30:=rfl
  omega
 ·walk_at "go"
  exact fun t lf=>k t _ lf.2.1 (.refl _)
end
end K35

set_option maxHeartbeats 4000000
namespace K35
open PySem L2
def oj (a:Adr): Sp:=fun vs H Q _=>∃(p d l:Addr) (ks ns:List Int) (av:List Addr),vs=[.ref p,.ref l]/\aF a H p d ks av/\H l=some (.lst (ns.map V.int))/\ns.Perm ks/\ns.length < 64/\∀H',Same H H'->Q (.bl true) H'
def om:Sp:=fun vs H Q _=>∃c:Int,vs=[.int c]/\∀H',Same H H'->Q (.bl true) H'
theorem at2 {x y i:Int}(h0:0<=i)(h1:i < 2): ∃v,atI [V.int x,V.int y] i=some (.int v)/\(v=x\/v=y):=by
 rcases (by omega:i=0\/i=1) with rfl | rfl
 ·exact⟨x,rfl,.inl rfl⟩
 ·exact⟨y,rfl,.inr rfl⟩
theorem at8 {i:Int}(h0:0<=i)(h1:i < 8): ∃v,atI [V.int 3,V.int 5,V.int 6,V.int 7,V.int 12,V.int 24,V.int 48,V.int 63] i=some (.int v)/\¬OkM v:=by
 unfold OkM
 rcases (by omega:i=0\/i=1\/i=2\/i=3\/i=4\/i=5\/i=6\/i=7) with rfl | rfl | rfl | rfl | rfl | rfl | rfl | rfl<;>exact⟨_,rfl,by omega⟩
theorem m5:Good [2,3] 1:=⟨.inl rfl,fun x hx=>by simp at hx;omega,by decide,by decide⟩
section
variable {P:Program}{w:World}{K:W.Frag}{mg:Str->Option Value}{base:Heap}{a:Adr}
theorem j4 {dvs:List V} (R:bu K mg "_law_alike" eL ["_law_memory", "_law_live"] dvs) (T:Txt w K mg a)
  (bz:HasFn P w K mg base 1 "live_tasks" ["memory"] (mZ a) [])
  (bA:HasFn P w K mg base 1 "_law_whole" ["_law_found"] (lD) []) :
  HasFn P w K mg base 2 "_law_alike" ["_law_memory", "_law_live"] (oj a) dvs:=by
 refine R.ok gu (fun vs H Q E h=>?_) (fun f cdv A outer s H vs Q E hr h=>?_)
 ·obtain⟨p,d,l,ks,ns,av,rfl,_⟩:=h
  rfl
 obtain⟨p,d,l,ks,ns,av,rfl,M,hl,pm,nl,k⟩:=h
 refine⟨_,(af (aI (i:=2) gu.nd rfl (by first | exact Or.inl rfl | exact Or.inr rfl) (aX bz (hr.mono (by decide)) (by rfl) aq (ae (pv 0) ah rfl)))
   (ao (aJ (fb (aM dL (by rfl) T.aS PyProof.Rows.Boot.«isinstance» (ae (pv 2) (ae (i_ (v:=.ty "list") (by rfl) T.jA PyProof.Rows.Boot.«list» rfl) ah rfl) rfl)) (fb (aM (kD rfl) (by rfl) T.n_ PyProof.Rows.Boot.«all» (ae (nY (xs:=["_law_task"]) (N':=["_law_memory", "_law_live", "_law_found"]) rfl ⟨rfl,by decide +kernel,by decide +kernel,by dsimp only [ei,PyProof.Rows.envOfC];decide +kernel,by decide +kernel,by dsimp only [ei];decide +kernel,rfl⟩ (cO (pv 2)) (fun _ _ _ _ _=>(a6 (i:=0) (by dsimp only [cj];decide +kernel) rfl (by first | exact Or.inl rfl | exact Or.inr rfl))) (fun _ _ _ _ _=>nW) (fun _ _ _ _ _=>(aX bA (hr.mono (by decide)) (by rfl) oY (ae (pv 0) ah rfl)))) ah rfl)) (ic (gN (mM hr.units) (pv 2) (aM (kW hr.hd) (by rfl) T.fN PyProof.Rows.Boot.«sorted» (ae (pv 1) ah rfl)) (bI _)))))))),?_⟩
 have kl:ks.length < 64:=by rw[<-pm.length_eq];exact nl
 walk_at "go"
 refine fun q ms H1 p1 w1 e1 hq s1=>?_
 have hl1:=s1 _ _ hl
 have qq:SqL K H1 q (ms.map V.int):=SqL.of e1
 have ql:SqL K H1 l (ns.map V.int):=SqL.of hl1
 have ml:ms.length < 64:=by rw[p1.length_eq];exact kl
 walk_at "go"
 intro u hu
 refine oZ hu (fun _=>.bl true) (fun _=>true) qq (by rw[List.length_map,sizeLine_eq];omega) (fun i x ys hx R r=>r) (fun i x ys hx _ R r=>?_) ?_
 ·obtain⟨c,rfl,hc⟩:=gS hx
  walk_at "go"
  exact r
 ·have eb:((ms.map V.int).filter fun _=>true).map (fun _=>V.bl true)=(ms.map fun _=>true).map V.bl:=by rw[filter_tt,List.map_map,List.map_map];rfl
  rw[eb]
  generalize hh:upd H1 u _=H2
  obtain⟨s2,e2⟩:=b_ hu hh
  clear hh
  have qb:SqL K H2 u ((ms.map fun _=>true).map V.bl):=SqL.of e2
  have q2:SqL K H2 l (ns.map V.int):=SqL.of (s2 _ _ hl1)
  have al:(ms.map fun _=>true).all id=true:=by simp
  walk_at "go"
  rw[al]
  refine lR ?_
  walk_at "go"
  intro r zs hr pz wz
  generalize hh:upd H2 r _=H3
  obtain⟨s3,e3⟩:=b_ hr hh
  clear hh
  have ez:ms=zs:=(p1.trans (pz.trans pm).symm).eq_of_pairwise (le:=fun x y=>x<=y) (fun _ _ _ _=>Int.le_antisymm) w1 wz
  refine ip (ns:=ms) (ms:=zs) (SqL.of (s3 _ _ (s2 _ _ e1))) (SqL.of e3) ?_
  rw[decide_eq_true ez]
  exact k _ (s1.trans (s2.trans s3))
theorem hZ {dvs:List V} (R:bu K mg "_law_no_memory" bh ["_law_cell"] dvs) (T:Txt w K mg a)
  (cA:bp P w K mg base a.aB 7 ["self", "shape", "frames", "slots", "near"] (tN a) [])
  (aR:bp P w K mg base a.aD 2 ["self", "widths", "low"] (jD a) []) :
  HasFn P w K mg base 9 "_law_no_memory" ["_law_cell"] (om) dvs:=by
 refine R.ok aO (fun vs H Q E h=>?_) (fun f cdv A outer s H vs Q E hr h=>?_)
 ·obtain⟨c,rfl,_⟩:=h
  rfl
 obtain⟨c,rfl,k⟩:=h
 let R5:{t:TS // PSs (ei (CXE P w) P w K mg base ed "_law_no_memory" (ak bh) f cdv A outer s H E) ((aP bh).drop 5) t}:=⟨_,(@af _ _ _ _ _ (@aI _ _ 4 _ _ _ _ aO.nd rfl (by first | exact Or.inl rfl | exact Or.inr rfl) gJ (by rfl) (by first | exact Or.inl rfl | exact Or.inr rfl))
   (@af _ _ _ _ _ (kz (i:=5) rfl rfl rfl rfl T.dR (by rfl) T.iV aO.nd rfl rfl
   (fun pn xe EX hx=>(@ao _ _ _ (a0 (dz cA (hr.mono (by decide)) (by rfl) T.jy hx (@ae _ _ _ _ _ (dz aR (hr.mono (by decide)) (by rfl) T.lu hx (@ae _ _ _ _ _ (@bT _ _ _ _ (@ae _ _ _ _ _ aj (@ae _ _ _ _ _ aj ah rfl) rfl)) (@ae _ _ _ _ _ aj ah rfl) rfl)) (@ae _ _ _ _ _ (@iT _ _ _ _ _ _ _ (jq (K:=K) rfl) (pv 2) aj (fun _ _=>rfl)) (@ae _ _ _ _ _ (@iT _ _ _ _ _ _ _ (jq (K:=K) rfl) (pv 2) aj (fun _ _=>rfl)) (@ae _ _ _ _ _ (@iT _ _ _ _ _ _ _ (jq (K:=K) rfl) (pv 2) aj (fun _ _=>rfl)) ah rfl) rfl) rfl) rfl)))))
   (fun pn A' xe=>(@ao _ _ _ (@aI _ _ 4 _ _ _ _ aO.nd rfl (by first | exact Or.inl rfl | exact Or.inr rfl) (fb (aM (eA (K:=K) rfl) (by rfl) T.aS PyProof.Rows.Boot.«isinstance» (@ae _ _ _ _ _ (pv 5) (@ae _ _ _ _ _ (dJ (v:=.ref a.ax) (by rfl) T.b8 rfl) ah rfl) rfl)) (ic (my (aM (gl (K:=K) rfl) (by rfl) T.aS PyProof.Rows.Boot.«isinstance» (@ae _ _ _ _ _ (pv 5) (@ae _ _ _ _ _ (@im _ _ _ _ _ (@ae _ _ _ _ _ (dJ (v:=.ref a.bg) (by rfl) T.jv rfl) (@ae _ _ _ _ _ (dJ (v:=.ref a.aA) (by rfl) T.jx rfl) ah rfl) rfl)) ah rfl) rfl))))) (by rfl) (by first | exact Or.inl rfl | exact Or.inr rfl)))))
   (@ao _ _ _ (@aJ _ _ _ _ (pv 4)))))⟩
 refine⟨_,(@af _ _ _ _ _ (@aI _ _ 1 _ _ _ _ aO.nd rfl (by first | exact Or.inl rfl | exact Or.inr rfl) (aE b0 (aE bW (pv 0) aj) (aE pO aj aj)) (by rfl) (by first | exact Or.inl rfl | exact Or.inr rfl))
   (@af _ _ _ _ _ (@aI _ _ 2 _ _ _ _ aO.nd rfl (by first | exact Or.inl rfl | exact Or.inr rfl) (@bT _ _ _ _ (@ae _ _ _ _ _ (aE ie aj (aE b0 (aE bW (pv 0) aj) aj)) (@ae _ _ _ _ _ (aE b0 (aE bW (pv 0) aj) aj) (@ae _ _ _ _ _ (@iT _ _ _ _ _ _ _ gO (@bT _ _ _ _ (@ae _ _ _ _ _ aj (@ae _ _ _ _ _ aj (@ae _ _ _ _ _ aj (@ae _ _ _ _ _ aj (@ae _ _ _ _ _ aj (@ae _ _ _ _ _ aj (@ae _ _ _ _ _ aj (@ae _ _ _ _ _ aj ah rfl) rfl) rfl) rfl) rfl) rfl) rfl) rfl)) (aE b0 (aE bW (pv 0) aj) aj) (fun _ _=>rfl)) ah rfl) rfl) rfl)) (by rfl) (by first | exact Or.inl rfl | exact Or.inr rfl))
   (@af _ _ _ _ _ (@aI _ _ 3 _ _ _ _ aO.nd rfl (by first | exact Or.inl rfl | exact Or.inr rfl) (aE b0 (pv 0) aj) (by rfl) (by first | exact Or.inl rfl | exact Or.inr rfl))
   (@af _ _ _ _ _ (pJ (@iT _ _ _ _ _ _ _ gO (@bT _ _ _ _ (@ae _ _ _ _ _ (aE jh (aE jh aj (pv 1)) (fS oF (by rfl) T.oa PyProof.Rows.Boot.«int» (@ae _ _ _ _ _ (gN uo (pv 3) aj (bI _)) ah rfl))) (@ae _ _ _ _ _ (aE ie aj (pv 1)) ah rfl) rfl)) (aE b0 (aE bW (pv 0) aj) aj) (fun _ _=>rfl)) (pI (pv 2) (pv 3) set_list))
   (@af _ _ _ _ _ (bF (PW.pt (si (a7 gi (pv 3) aj (bI _)) (qK (a7 gi (aE b0 (aE bW (pv 0) aj) aj) aj (bI _))))) (@ao _ _ _ (pJ (@iT _ _ _ _ _ _ _ gO (@bT _ _ _ _ (@ae _ _ _ _ _ aj (@ae _ _ _ _ _ aj (@ae _ _ _ _ _ aj (@ae _ _ _ _ _ aj (@ae _ _ _ _ _ aj (@ae _ _ _ _ _ aj (@ae _ _ _ _ _ aj (@ae _ _ _ _ _ aj ah rfl) rfl) rfl) rfl) rfl) rfl) rfl) rfl)) (aE b0 (aE bW (pv 0) aj) aj) (fun _ _=>rfl)) (pI (pv 2) (pv 3) set_list))) aL)
   R5.2))))),?_⟩
 have tail:∀(v1 v3:Option V) (sl:Addr) (x y z:Int) (H':Hp),H' sl=some (.lst [.int x,.int y,.int z])->Same H H'->¬oh x y z->R5.1 { nx:=fun _ H'=>Q .non H',rt:=Q } [some (.int c),v1,some (.ref sl),v3,none,none] H':=by
  intro v1 v3 sl x y z H' hs s0 bad
  have g0:SqL K H' sl [.int x,.int y,.int z]:=SqL.of hs
  walk_at "go"
  intro w1 hw1
  generalize hh:upd _ w1 _=H1
  obtain⟨s1,e1⟩:=b_ hw1 hh
  clear hh
  have e1':H1 w1=some (.lst (([2,3]:List Int).map V.int)):=e1
  have hs1:=s1 _ _ hs
  have l64:([2,3]:List Int).length<=64:=by decide
  walk_at "go"
  intro x1 d1 hx1 hd1 nd1
  have sm1:Same H1 (upd (upd H1 d1 (.own x1)) x1 (.ins a.aD d1 [])):=cV hx1 hd1
  refine⟨x1,w1,d1,[2,3],1,rfl,ai,sm1 _ _ e1',l64,fun g H2 S2 k2=>⟨rfl,?_⟩,fun z=>absurd m5 z⟩
  have s2:Same H1 H2:=fun b u e=>mkd hx1 hd1 k2 e
  have hs2:=s2 _ _ hs1
  have g2:SqL K H2 sl [.int x,.int y,.int z]:=SqL.of hs2
  have i0:atI [V.int x,V.int y,V.int z] 0=some (.int x):=rfl
  have i1:atI [V.int x,V.int y,V.int z] 1=some (.int y):=rfl
  have i2:atI [V.int x,V.int y,V.int z] 2=some (.int z):=rfl
  walk_at "go"
  intro x3 d3 hx3 hd3 nd3
  have sm3:Same H2 (upd (upd H2 d3 (.own x3)) x3 (.ins a.aB d3 [])):=cV hx3 hd3
  refine⟨x3,x1,d3,x,y,z,[2,3],1,[],rfl,ai,S2.same sm3,g,fun b hb=>(nomatch hb),fun hb=>(nomatch hb),fun ok=>absurd ok bad,fun _ H3 k3=>?_⟩
  have s3:Same H2 H3:=fun b u e=>mkd hx3 hd3 k3 e
  have u1:=T.iK;have u2:=T.tI;have u4:=T.tJ
  walk_at "go"
  intro e he
  generalize hh:upd _ e _=H4
  obtain⟨s4,e4⟩:=b_ he hh
  clear hh
  have ty1:TyE K H4 (.ref e) (.ref a.ax):=.exc e4 T.fY T.isk
  walk_at "go"
  intro r hr
  generalize hh:upd _ r _=H5
  obtain⟨s5,e5⟩:=b_ hr hh
  clear hh
  have ty2:TyE K H5 (.ref e) (.ref a.ax):=.exc (s5 _ _ e4) T.fY T.isk
  walk_at "go"
  exact k _ (s0.trans (s1.trans (s2.trans (s3.trans (s4.trans s5)))))
 have f0:0<=c / 6%10^30:=Int.emod_nonneg _ (by decide)
 have m8:=Int.emod_nonneg (c / 7) (by decide:(8:Int)≠0)
 have n8:=Int.emod_lt_of_pos (c / 7) (by decide:(0:Int) < 8)
 walk_at "go"
 intro q hq
 generalize hh:upd _ q _=H1
 obtain⟨s1,e1⟩:=b_ hq hh
 clear hh
 obtain⟨s0,hs0⟩:∃v:Int,atI ([.int 0,.int 1,.int 2,.int 4,.int 8,.int 16,.int 32,.int 64]:List V) (c / 7%8)=some (.int v):=⟨_,l3 (ns:=[0,1,2,4,8,16,32,64]) m8 n8⟩
 have e1':SqL K H1 q [.int 0,.int 1,.int 2,.int 4,.int 8,.int 16,.int 32,.int 64]:=SqL.of e1
 walk_at "go"
 intro sl hsl
 generalize hh:upd _ sl _=H2
 obtain⟨s2,e2⟩:=b_ hsl hh
 clear hh
 have s12:=s1.trans s2
 have e2':H2 sl=some (.lst [.int (1+c / 3%64),.int (c / 5%65),.int s0]):=e2
 clear e2
 generalize 1+c / 3%64=A0 at e2'
 generalize c / 5%65=B0 at e2'
 have m2:=Int.emod_nonneg (c / 3) (by decide:(2:Int)≠0)
 have n2:=Int.emod_lt_of_pos (c / 3) (by decide:(0:Int) < 2)
 have m3:=Int.emod_nonneg c (by decide:(3:Int)≠0)
 have n3:=Int.emod_lt_of_pos c (by decide:(0:Int) < 3)
 walk_at "go"
 refine .inr ⟨_,rfl,?_⟩
 walk_at "go"
 intro r hr
 generalize hh:upd _ r _=H3
 obtain⟨s3,e3⟩:=b_ hr hh
 clear hh
 have e3':H3 r=some (.lst [.int (0-c / 6%10^30-(if decide (0 < c%3)=true then 1 else 0)),.int (65+c / 6%10^30)]):=e3
 clear e3
 generalize c / 6%10^30=F at e3' f0
 generalize hI:(if decide (0 < c%3)=true then (1:Int) else 0)=I0 at e3'
 obtain⟨v,hv,vv⟩:=at2 (x:=0-F-I0) (y:=65+F) m2 n2
 have q3:SqL K H3 r [.int (0-F-I0),.int (65+F)]:=SqL.of e3'
 have e23:=s3 _ _ e2'
 have s13:=s12.trans s3
 have uO:H sl=none:=hV s1 hsl
 have sf:∀o,Same H (upd H3 sl o):=fun o b u e=>by rw[au (aw e uO)];exact s13 _ _ e
 rcases (by omega:c%3=0\/c%3=1\/c%3=2) with z | z | z
 ·have ix:ixN ([V.int A0,V.int B0,V.int s0]).length (c%3)=some 0:=by rw[z];rfl
  have i0:I0=0:=by rw[<-hI,z];rfl
  have z2:¬(V.int (c%3)=V.int 2):=fun w=>by injection w;omega
  walk_at "go"
  refine fw (fun w=>absurd w z2) fun _=>?_
  exact tail _ _ sl v B0 s0 _ ai (sf _) fun w=>by have:=w.1.1;omega
 ·have ix:ixN ([V.int A0,V.int B0,V.int s0]).length (c%3)=some 1:=by rw[z];rfl
  have i0:I0=1:=by rw[<-hI,z];rfl
  have z2:¬(V.int (c%3)=V.int 2):=fun w=>by injection w;omega
  walk_at "go"
  refine fw (fun w=>absurd w z2) fun _=>?_
  exact tail _ _ sl A0 v s0 _ ai (sf _) fun w=>by have:=w.1.2;omega
 ·have ix:ixN ([V.int A0,V.int B0,V.int s0]).length (c%3)=some 2:=by rw[z];rfl
  have i0:I0=1:=by rw[<-hI,z];rfl
  have z2:V.int (c%3)=V.int 2:=by rw[z]
  walk_at "go"
  refine fw (fun _=>?_) fun w=>absurd z2 w
  walk_at "go"
  refine fw (fun _=>?_) fun _=>?_
  ·have e4:upd H3 sl (.lst ([V.int A0,V.int B0,V.int s0].set (Int.toNat 2) (V.int v))) sl=some (.lst [.int A0,.int B0,.int v]):=ai
   have s4:=sf (.lst ([V.int A0,V.int B0,V.int s0].set (Int.toNat 2) (V.int v)))
   generalize upd H3 sl (.lst ([V.int A0,V.int B0,V.int s0].set (Int.toNat 2) (V.int v)))=H4 at e4 s4
   have m12:=Int.emod_nonneg (c / 12) (by decide:(8:Int)≠0)
   have n12:=Int.emod_lt_of_pos (c / 12) (by decide:(0:Int) < 8)
   walk_at "go"
   intro t ht
   generalize hh:upd _ t _=H5
   obtain⟨s5,e5⟩:=b_ ht hh
   clear hh
   obtain⟨u,hu,bad⟩:=at8 m12 n12
   have q5:SqL K H5 t [V.int 3,V.int 5,V.int 6,V.int 7,V.int 12,V.int 24,V.int 48,V.int 63]:=SqL.of e5
   have e45:=s5 _ _ e4
   have ix2:ixN ([V.int A0,V.int B0,V.int v]).length (c%3)=some 2:=by rw[z];rfl
   have sf5:∀o,Same H (upd H5 sl o):=fun o b u e=>by rw[au (aw e uO)];exact(s4.trans s5) _ _ e
   repeat (first | exact tail _ _ sl A0 B0 u _ ai (sf5 _) (fun w=>bad w.2) | (apply And.intro;(walk_at "cl")) | walk_at "ex")
  ·exact tail _ _ sl A0 B0 v _ ai (sf _) fun w=>by have:=w.2;unfold OkM at this;omega
end
end K35

set_option maxHeartbeats 4000000
namespace K35
open PySem L2
def Kp2 (d l:Addr)(H H':Hp): Prop:=∀b u,H b=some u->b≠d->b≠l->H' b=some u
def mq (a:Adr): Sp:=fun vs H Q _=>∃(p d l:Addr) (ks ns:List Int) (av:List Addr) (c:Int),vs=[.ref p,.ref l,.int c]/\aF a H p d ks av/\H l=some (.lst (ns.map V.int))/\ns.Perm ks/\(∀x∈ns,0<=x)/\ns.length < 100 ∧
 l∉av/\∀(ks' ns':List Int) H',aF a H' p d ks' av->H' l=some (.lst (ns'.map V.int))->ns'.Perm ks'->(∀x∈ns',0<=x)->ns'.length<=ns.length+1->Kp2 d l H H'->Q (.bl true) H'
theorem aF.lst {a:Adr}{H:Hp}{p d l:Addr}{ks:List Int}{av:List Addr}{xs ys:List V}(M:aF a H p d ks av)(hl:H l=some (.lst xs))(al:l∉av): aF a (upd H l (.lst ys)) p d ks av:=by
 obtain⟨dx,sh,pl,nr,ss,ln,ns,low,kv,h1,h2,h3,h4,h5,h6,h7,h8,h9,h10,h11⟩:=M
 have k:Kp l H (upd H l (.lst ys)):=Kp.refl.set
 have n1:∀D dx fs,H l≠some (.ins D dx fs)\/fs=[]:=fun _ _ _=>.inl (by rw[hl];intro z;cases z)
 have n2:∀xs,H l≠some (.tup xs):=fun _=>by rw[hl];intro z;cases z
 obtain⟨dn,mn,g1,g2⟩:=h2
 refine⟨dx,sh,pl,nr,ss,ln,ns,low,kv,k _ _ h1 (cC h1 hl (by intro z;cases z)),⟨dn,mn,k _ _ g1 (cC g1 hl (by intro z;cases z)),k _ _ g2 (cC g2 hl (by intro z;cases z))⟩,h3,h4.kp k n1 n2,h5,k _ _ h6 (cC h6 hl (by intro z;cases z)),h7,h8,fun i v e=>?_,h10,fun b hb=>?_⟩
 ·obtain⟨x,rfl,S⟩:=h9 i v e
  obtain⟨dx,sh,t,tr,top,ns,low,f1,⟨dt,f2,f3⟩,f4,f5,f6⟩:=S
  exact⟨x,rfl,dx,sh,t,tr,top,ns,low,k _ _ f1 (cC f1 hl (by intro z;cases z)),⟨dt,k _ _ f2 (cC f2 hl (by intro z;cases z)),k _ _ f3 (cC f3 hl (by intro z;cases z))⟩,f4,f5.kp k n1 n2,f6⟩
 ·obtain⟨u,hu⟩:=h11 b hb
  exact⟨u,k _ _ hu fun z=>al (z ▸ hb)⟩
theorem tS {ns:List Int}{t:Int}(n0:∀x∈ns,0<=x)(h:0<=t): ∀x∈ns++[t],0<=x:=fun x hx=>by
 rcases List.mem_append.mp hx with q | q
 ·exact n0 x q
 ·rw[List.mem_singleton.mp q];exact h
section
variable {P:Program}{w:World}{K:W.Frag}{mg:Str->Option Value}{base:Heap}{a:Adr}
theorem lF {dvs:List V} (R:bu K mg "_law_done" fG ["_law_memory", "_law_live", "_law_cell"] dvs) (T:Txt w K mg a)
  (cB:HasFn P w K mg base 7 "_law_refused" ["_law_memory", "_law_task", "_law_way"] (oi a) [])
  (d8:HasFn P w K mg base 2 "_law_nobody" ["_law_live", "_law_cell"] (mo K) [])
  (bx:HasFn P w K mg base 1 "_law_least" ["_law_live"] (lE K) [])
  (bQ:HasFn P w K mg base 5 "begin_task" ["memory"] (lB a) [])
  (bA:HasFn P w K mg base 1 "_law_whole" ["_law_found"] (lD) [])
  (b9:HasFn P w K mg base 6 "fork_task" ["memory", "task"] (m4 a) [])
  (cM:HasFn P w K mg base 4 "end_task" ["memory", "task"] (qv a) []) :
  HasFn P w K mg base 8 "_law_done" ["_law_memory", "_law_live", "_law_cell"] (mq a) dvs:=by
 refine R.ok bv (fun vs H Q E h=>?_) (fun f cdv A outer s H vs Q E hr h=>?_)
 ·obtain⟨p,d,l,ks,ns,av,c,rfl,_⟩:=h
  rfl
 obtain⟨p,d,l,ks,ns,av,c,rfl,M,hl,pm,n0,nl,la,k⟩:=h
 refine⟨_,(@af _ _ _ _ _ (@aI _ _ 3 _ _ _ _ bv.nd rfl (by first | exact Or.inl rfl | exact Or.inr rfl) (aE b0 (pv 2) aj) (by rfl) (by first | exact Or.inl rfl | exact Or.inr rfl))
   (@af _ _ _ _ _ (bF (a7 gi (pv 3) aj (bI _)) (@ao _ _ _ (@aJ _ _ _ _ (aX cB (hr.mono (by decide)) (by rfl) aq (@ae _ _ _ _ _ (pv 0) (@ae _ _ _ _ _ (aX d8 (hr.mono (by decide)) (by rfl) aq (@ae _ _ _ _ _ (pv 1) (@ae _ _ _ _ _ (aE bW (pv 2) aj) ah rfl) rfl)) (@ae _ _ _ _ _ (aE b0 (aE bW (pv 2) aj) aj) ah rfl) rfl) rfl)))) aL)
   (@af _ _ _ _ _ (bF (PW.pt (rH (a7 rJ (pv 3) aj (bI _)) (pF (a7 (mM hr.units) (pv 1) (@bT _ _ _ _ ah) (bI _))))) (@af _ _ _ _ _ (@aI _ _ 4 _ _ _ _ bv.nd rfl (by first | exact Or.inl rfl | exact Or.inr rfl) (aX bx (hr.mono (by decide)) (by rfl) aq (@ae _ _ _ _ _ (pv 1) ah rfl)) (by rfl) (by first | exact Or.inl rfl | exact Or.inr rfl))
   (@af _ _ _ _ _ (@aI _ _ 5 _ _ _ _ bv.nd rfl (by first | exact Or.inl rfl | exact Or.inr rfl) (aX bQ (hr.mono (by decide)) (by rfl) aq (@ae _ _ _ _ _ (pv 0) ah rfl)) (by rfl) (by first | exact Or.inl rfl | exact Or.inr rfl))
   (@af _ _ _ _ _ (a0 (kb PySem.F.plainAttrs_list PySem.F.slot_list_append PySem.F.type_list_append dr (pv 1) (@ae _ _ _ _ _ (pv 4) ah rfl)))
   (@ao _ _ _ (@aJ _ _ _ _ (fb (aX bA (hr.mono (by decide)) (by rfl) aq (@ae _ _ _ _ _ (pv 5) ah rfl)) (ic (gN gi (pv 5) (pv 4) (bI _))))))))) aL)
   (@af _ _ _ _ _ (@aI _ _ 6 _ _ _ _ bv.nd rfl (by first | exact Or.inl rfl | exact Or.inr rfl) (@iT _ _ _ _ _ _ _ gO (pv 1) (aE b0 (aE bW (pv 2) aj) (aM cf (by rfl) T.jz PySem.boot_len (@ae _ _ _ _ _ (pv 1) ah rfl))) (fun _ _=>rfl)) (by rfl) (by first | exact Or.inl rfl | exact Or.inr rfl))
   (@af _ _ _ _ _ (bF (a7 rJ (pv 3) aj (bI _)) (@af _ _ _ _ _ (@aI _ _ 4 _ _ _ _ bv.nd rfl (by first | exact Or.inl rfl | exact Or.inr rfl) (aX bx (hr.mono (by decide)) (by rfl) aq (@ae _ _ _ _ _ (pv 1) ah rfl)) (by rfl) (by first | exact Or.inl rfl | exact Or.inr rfl))
   (@af _ _ _ _ _ (@aI _ _ 5 _ _ _ _ bv.nd rfl (by first | exact Or.inl rfl | exact Or.inr rfl) (aX b9 (hr.mono (by decide)) (by rfl) aq (@ae _ _ _ _ _ (pv 0) (@ae _ _ _ _ _ (pv 6) ah rfl) rfl)) (by rfl) (by first | exact Or.inl rfl | exact Or.inr rfl))
   (@af _ _ _ _ _ (a0 (kb PySem.F.plainAttrs_list PySem.F.slot_list_append PySem.F.type_list_append dr (pv 1) (@ae _ _ _ _ _ (pv 4) ah rfl)))
   (@ao _ _ _ (@aJ _ _ _ _ (fb (aX bA (hr.mono (by decide)) (by rfl) aq (@ae _ _ _ _ _ (pv 5) ah rfl)) (ic (gN gi (pv 5) (pv 4) (bI _))))))))) aL)
   (@af _ _ _ _ _ (a0 (aX cM (hr.mono (by decide)) (by rfl) aq (@ae _ _ _ _ _ (pv 0) (@ae _ _ _ _ _ (pv 6) ah rfl) rfl)))
   (@af _ _ _ _ _ (a0 (kb PySem.F.plainAttrs_list PySem.F.slot_list_remove PySem.F.type_list_remove o7 (pv 1) (@ae _ _ _ _ _ (pv 6) ah rfl)))
   (@ao _ _ _ (@aJ _ _ _ _ (aX cB (hr.mono (by decide)) (by rfl) aq (@ae _ _ _ _ _ (pv 0) (@ae _ _ _ _ _ (pv 6) (@ae _ _ _ _ _ (aE jh (pv 3) aj) ah rfl) rfl) rfl))))))))))),?_⟩
 have kl:ks.length < 1000:=by rw[<-pm.length_eq];omega
 have nl':ns.length < 1000:=by omega
 have hq:SqL K H l (ns.map V.int):=SqL.of hl
 have c8:0<=c%8/\c%8 < 8:=⟨Int.emod_nonneg _ (by decide),Int.emod_lt_of_pos _ (by decide)⟩
 walk_at "go"
 refine fw (fun c7=>?_) fun c7=>?_
 ·walk_at "go"
  refine fun t H1 tn s1=>?_
  have M1:=M.same s1
  have tk:t∉ks:=fun z=>tn (pm.mem_iff.mpr z)
  walk_at "go"
  exact fun H2 s2=>k ks ns H2 ((M1.same s2)) (s2 _ _ (s1 _ _ hl)) pm n0 (by omega) fun b u e _ _=>s2 _ _ (s1 _ _ e)
 have dm:d∈av:=by obtain⟨_,_,_,_,_,_,_,_,_,_,_,_,_,_,_,_,_,_,q,_⟩:=M;exact q
 have ld:l≠d:=fun z=>la (z ▸ dm)
 have nz:(ns.map V.int).length < sizeLine:=by rw[List.length_map,sizeLine_eq];omega
 walk_at "go"
 refine fw (fun c2=>?_) fun c2=>?_
 ·have s1:Same H H:=.refl _
  have hl1:=hl
  refine lR ?_
  walk_at "go"
  refine fun t1 lf1=>?_
  walk_at "go"
  refine fun t H2 lf M2 k2=>?_
  obtain rfl:t=t1:=lf.one lf1 fun x=>pm.mem_iff.symm
  have hl2:=k2 _ _ hl1 ld
  walk_at "go"
  rw[decide_eq_true rfl]
  exact k (ks++[t]) (ns++[t]) _ (M2.lst hl2 la) (by rw[ai,List.map_append];rfl) (pm.append_right [t]) (tS n0 lf.1) (by simp) fun b u e nd nl=>by rw[au nl];exact k2 _ _ (s1 _ _ e) nd
 walk_at "go"
 intro q hq
 generalize hh:upd _ q _=H1
 obtain⟨s1,e1⟩:=b_ hq hh
 clear hh
 have M1:=M.same s1
 have hl1:=s1 _ _ hl
 have hq1:SqL K H1 l (ns.map V.int):=SqL.of hl1
 refine ip (ns:=ns) (ms:=[]) hq1 (SqL.of e1) ?_
 walk_at "go"
 refine fw (fun c3=>?_) fun c3=>?_
 ·walk_at "go"
  refine fun t1 lf1=>?_
  walk_at "go"
  refine fun t H2 lf M2 k2=>?_
  obtain rfl:t=t1:=lf.one lf1 fun x=>pm.mem_iff.symm
  have hl2:=k2 _ _ hl1 ld
  walk_at "go"
  rw[decide_eq_true rfl]
  exact k (ks++[t]) (ns++[t]) _ (M2.lst hl2 la) (by rw[ai,List.map_append];rfl) (pm.append_right [t]) (tS n0 lf.1) (by simp) fun b u e nd nl=>by rw[au nl];exact k2 _ _ (s1 _ _ e) nd
 have np:0 < ns.length:=List.length_pos_iff.mpr c3
 have L0:(0:Int) < ((ns.map V.int).length:Int):=by rw[List.length_map];omega
 obtain⟨t,ht,tm⟩:∃t,atI (ns.map V.int) (c / 8%((ns.map V.int).length:Int))=some (.int t)/\t∈ns:=by
  have i0:=Int.emod_nonneg (c / 8) (Int.ne_of_gt L0)
  have i1:=Int.emod_lt_of_pos (c / 8) L0
  generalize c / 8%((ns.map V.int).length:Int)=i at i0 i1
  rw[List.length_map] at i1
  exact⟨_,l3 i0 i1,getD_mem (by omega)⟩
 have tk:=pm.mem_iff.mp tm
 walk_at "go"
 refine fw (fun c5=>?_) fun c5=>?_
 ·walk_at "go"
  refine fun t1 lf1=>?_
  walk_at "go"
  refine⟨fun _ t2 H2 lf M2 k2=>?_,fun z=>absurd tk z⟩
  obtain rfl:t2=t1:=lf.one lf1 fun x=>pm.mem_iff.symm
  have hl2:=k2 _ _ hl1 ld
  walk_at "go"
  rw[decide_eq_true rfl]
  exact k (ks++[t2]) (ns++[t2]) _ (M2.lst hl2 la) (by rw[ai,List.map_append];rfl) (pm.append_right [t2]) (tS n0 lf.1) (by simp) fun b u e nd nl=>by rw[au nl];exact k2 _ _ (s1 _ _ e) nd
 ·walk_at "go"
  refine⟨fun _ H2 M2 k2=>?_,fun z=>absurd tk z⟩
  have hl2:=k2 _ _ hl1 ld
  have hn:ks.Nodup:=by obtain⟨_,_,_,_,_,_,_,_,_,_,_,_,_,_,_,_,q,_⟩:=M;exact q
  have pm2:(ns.erase t).Perm (ks.filter fun j=>decide (j≠t)):=by
   refine(pm.erase t).trans ?_
   rw[hn.erase_eq_filter]
   refine .of_eq (List.filter_congr fun x _=>?_)
   by_cases z:x=t<;>simp[z]
  have M3:=M2.lst (ys:=(ns.erase t).map V.int) hl2 la
  have nk:t∉ks.filter fun j=>decide (j≠t):=fun z=>by simp at z
  have kl3:(ks.filter fun j=>decide (j≠t)).length < 1000:=Nat.lt_of_le_of_lt (List.length_filter_le ..) kl
  walk_at "go"
  exact fun H3 s3=>k _ (ns.erase t) H3 (M3.same s3) (s3 _ _ ai) pm2 (fun x hx=>n0 x (List.mem_of_mem_erase hx)) (by rw[List.length_erase_of_mem tm];omega) fun b u e nd nl=>s3 _ _ (by rw[au nl];exact k2 _ _ (s1 _ _ e) nd)
end
end K35

set_option maxHeartbeats 4000000
namespace K35
open PySem L2
def oo (K:W.Frag): Sp:=fun vs H Q _=>∃(a:Addr) (ns:List Int),vs=[.ref a]/\SqL K H a (ns.map V.int)/\ns.length<=63/\∀H',Q (.bl true) H'
def FX (X:List Addr)(H H':Hp): Prop:=∀b u,H b=some u->b∉X->(∀kvs,u≠.dK kvs)->H' b=some u
theorem FX.trans {X:List Addr}{H H1 H2:Hp}(h:FX X H H1)(k:FX X H1 H2): FX X H H2:=fun b u e n d=>k _ _ (h _ _ e n d) n d
theorem FX.same {X:List Addr}{H H1:Hp}(s:Same H H1): FX X H H1:=fun _ _ e _ _=>s _ _ e
theorem aF.kpp {a:Adr}{H H':Hp}{p d d':Addr}{ks:List Int}{av:List Addr}{kvs:List (Key×V)}(M:aF a H p d ks av)(k:∀b u,H b=some u->b≠d'->(∀xs,u≠.lst xs)->H' b=some u)(hd:H d'=some (.dK kvs))(hm:d'∈av)(n:d≠d')(hv:∀b∈av,∃u,H' b=some u): aF a H' p d ks av:=by
 obtain⟨dx,sh,pl,nr,ss,ln,ns,low,kv,h1,⟨dn,mn,g1,g2⟩,h3,⟨dxs,ts,f1,f2⟩,h5,h6,h7,h8,h9,h10,h11⟩:=M
 have ki:∀{b C dx fs},H b=some (.ins C dx fs)->H' b=some (.ins C dx fs):=fun {b C dx fs} e=>k _ _ e (cC e hd (by intro z;cases z)) (fun _ z=>by cases z)
 have kt:∀{b xs},H b=some (.tup xs)->H' b=some (.tup xs):=fun {b xs} e=>k _ _ e (cC e hd (by intro z;cases z)) (fun _ z=>by cases z)
 have kd:∀{b kv},H b=some (.dK kv)->b≠d'->H' b=some (.dK kv):=fun {b kv} e nb=>k _ _ e nb (fun _ z=>by cases z)
 refine⟨dx,sh,pl,nr,ss,ln,ns,low,kv,ki h1,⟨dn,mn,ki g1,kd g2 fun z=>h3 (z ▸ hm)⟩,h3,⟨dxs,ts,ki f1,kt f2⟩,h5,kd h6 n,h7,h8,fun i v e=>?_,h10,hv⟩
 obtain⟨x,rfl,S⟩:=h9 i v e
 obtain⟨dx,sh,t,tr,top,ns,low,q1,⟨dt,q2,q3⟩,q4,⟨dxs,ts,q5,q6⟩,q7⟩:=S
 exact⟨x,rfl,dx,sh,t,tr,top,ns,low,ki q1,⟨dt,ki q2,kd q3 fun z=>q4 (z ▸ hm)⟩,q4,⟨dxs,ts,ki q5,kt q6⟩,q7⟩
theorem aF.dict {a:Adr}{H:Hp}{p d:Addr}{ks:List Int}{av:List Addr}(M:aF a H p d ks av): (∃kvs,H d=some (.dK kvs))/\d∈av/\∀b∈av,∃u,H b=some u:=by
 obtain⟨_,_,_,_,_,_,_,_,kv,_,_,_,_,_,h6,_,_,_,h10,h11⟩:=M
 exact⟨⟨kv,h6⟩,h10,h11⟩
def Told (H:Hp)(X hs:List Addr): Prop:=∀t∈hs,∃(u v:Addr) (zs:List Int),H t=some (.tup [.ref u,.ref v])/\H u=some (.lst (zs.map V.int))/\H v=some (.lst (zs.map V.int))/\t∉X/\u∉X/\v∉X
theorem Told.fx {H H':Hp}{X hs:List Addr}(T:Told H X hs)(f:FX X H H'): Told H' X hs:=fun t ht=>by
 obtain⟨u,v,zs,h1,h2,h3,h4,h5,h6⟩:=T t ht
 exact⟨u,v,zs,f _ _ h1 h4 (fun _ z=>by cases z),f _ _ h2 h5 (fun _ z=>by cases z),f _ _ h3 h6 (fun _ z=>by cases z),h4,h5,h6⟩
structure J35 (a:Adr)(H:Hp)(m b d1 d2 lv ot hd sc:Addr)(av:List Addr)(cs:List Int)(i:Nat)(ks ns ko os:List Int)(hs:List Addr): Prop where
 me:aF a H m d1 ks av
 hl:H lv=some (.lst (ns.map V.int))
 pm:ns.Perm ks
 n0:∀x∈ns,0<=x
 nl:ns.length<=i
 be:aF a H b d2 ko av
 ho:H ot=some (.lst (os.map V.int))
 po:os.Perm ko
 oe:os=(List.range os.length).map Int.ofNat
 ol:os.length<=i
 hh:H hd=some (.lst (hs.map V.ref))
 hn:hs.length<=i
 td:Told H [lv,ot,hd] hs
 hc:H sc=some (.lst (cs.map V.int))
theorem qw {os ko:List Int}{k:Int}(h:LF ko k)(p:os.Perm ko)(e:os=(List.range os.length).map Int.ofNat): k=os.length:=by
 refine h.one (ks':=os) ⟨by omega,fun z=>?_,fun j h0 h1=>?_⟩ fun x=>p.mem_iff.symm
 ·rw[e,List.mem_map] at z
  obtain⟨n,hn,z⟩:=z
  have:=List.mem_range.mp hn
  have z:(n:Int)=_:=z
  rw[List.length_map,List.length_range] at z
  omega
 ·rw[e,List.mem_map]
  exact⟨j.toNat,List.mem_range.mpr (by omega),by show ((j.toNat:Nat):Int)=j;omega⟩
theorem mr {hs:List Addr}{i:Nat}{y:V}(h:(hs.map V.ref)[i]?=some y): ∃c:Addr,y=.ref c/\hs[i]?=some c:=by
 rw[List.getElem?_map] at h
 cases e:hs[i]? with
 | none=>rw[e] at h;cases h
 | some c=>rw[e] at h;cases h;exact⟨c,rfl,rfl⟩
theorem m6 (n:Nat): (List.range n).map Int.ofNat++[(n:Int)]=(List.range (n+1)).map Int.ofNat:=by
 rw[List.range_succ,List.map_append];rfl
section
variable {P:Program}{w:World}{K:W.Frag}{mg:Str->Option Value}{base:Heap}{a:Adr}
theorem tT {f:Addr} {oc:Value} {od:Option Addr} {dV kV doc pm:Value} {an:Option Addr} {cdv ct:Value} {osl:Array (Option Value)} (lk:K.lookup f=some ⟨oc,od,.func (W.fnOf "law" "law" (bt cu) (aP cu) (ak cu) dV kV doc pm an cdv ct),osl⟩) (hcd:W.codeIn K cdv "law" = true) (T:Txt w K mg a)
  (bf:bp P w K mg base a.aB 7 ["self", "shape", "frames", "slots", "near"] (tN a) [.int 0])
  (aR:bp P w K mg base a.aD 2 ["self", "widths", "low"] (jD a) [])
  (bR:HasFn P w K mg base 2 "_law_alike" ["_law_memory", "_law_live"] (oj a) [])
  (fQ:HasFn P w K mg base 8 "_law_done" ["_law_memory", "_law_live", "_law_cell"] (mq a) [])
  (bQ:HasFn P w K mg base 5 "begin_task" ["memory"] (lB a) [])
  (bz:HasFn P w K mg base 1 "live_tasks" ["memory"] (mZ a) [])
  (cN:HasFn P w K mg base 9 "_law_no_memory" ["_law_cell"] (om) []) :
  gw P w K mg base (CXE P w) 10 f (W.fnOf "law" "law" (bt cu) (aP cu) (ak cu) dV kV doc pm an cdv ct) ["_law_script"] (oo K):=by
 refine nJ lk hcd fJ (fun vs H Q E h=>?_) (fun A outer s H vs Q E hr h=>?_)
 ·obtain⟨sc,ss,rfl,_⟩:=h
  rfl
 obtain⟨sc,ss,rfl,hS,hlen,k⟩:=h
 let uP:{t:TS // PSs (ei (CXE P w) P w K mg base nZ "law" (ak cu) f cdv A outer s H E) ((bodyOf ((aP cu).getD 6 (.Pass ⟨0,0,0,0⟩))).drop 2) t}:=⟨_,(af (bF (dv (ib (aX bR (hr.mono (by decide)) (by rfl) aq (ae (pv 2) (ae (pv 4) ah rfl) rfl)))) (ao (aJ gJ)) aL)
   (af (aI (i:=7) fJ.nd rfl (by first | exact Or.inl rfl | exact Or.inr rfl) (aX bz (hr.mono (by decide)) (by rfl) aq (ae (pv 1) ah rfl)))
   (af (a0 (kb PySem.F.plainAttrs_list PySem.F.slot_list_append PySem.F.type_list_append dr (pv 5) (ae (im (ae (pv 7) (ae (fS kO (by rfl) T.jA PyProof.Rows.Boot.«list» (ae (pv 7) ah rfl)) ah rfl) rfl)) ah rfl)))
   (ao (bF (dv (ib (aX cN (hr.mono (by decide)) (by rfl) aq (ae (aE bW (pv 6) aj) ah rfl)))) (ao (aJ gJ)) aL)))))⟩
 let R7:{t:TS // PSs (ei (CXE P w) P w K mg base nZ "law" (ak cu) f cdv A outer s H E) ((aP cu).drop 7) t}:=⟨_,(af (bF (dv (ib (aM (kD rfl) (by rfl) T.n_ PyProof.Rows.Boot.«all» (ae (nY (xs:=["_law_one", "_law_other"]) (N':=["_law_script", "_law_memory", "_law_beside", "_law_live", "_law_others", "_law_held", "_law_cell", "_law_told"]) rfl ⟨rfl,by decide +kernel,by decide +kernel,by dsimp only [ei,PyProof.Rows.envOfC];decide +kernel,by decide +kernel,by dsimp only [ei];decide +kernel,rfl⟩ (cO (pv 5)) (fun _ _ _ _ _=>(rl (K:=K) (n:=2) rfl rfl (bV (a6 (i:=0) (by dsimp only [cj];decide +kernel) rfl (by first | exact Or.inl rfl | exact Or.inr rfl)) (bV (a6 (i:=1) (by dsimp only [cj];decide +kernel) rfl (by first | exact Or.inl rfl | exact Or.inr rfl)) gK)))) (fun _ _ _ _ _=>nW) (fun _ _ _ _ _=>(gN (rk (K:=K) rfl hr.units) (pv 0) (pv 1) (bI _)))) ah rfl)))) (ao (aJ gJ)) aL)
   (af (a0 (sI PySem.F.plainAttrs_list PySem.F.slot_list_clear PySem.F.type_list_clear pX (aX bz (hr.mono (by decide)) (by rfl) aq (ae (pv 1) ah rfl))))
   (ao (aJ (aX bR (hr.mono (by decide)) (by rfl) aq (ae (pv 1) (ae (pv 3) ah rfl) rfl))))))⟩
 let R2:{t:TS // PSs (ei (CXE P w) P w K mg base nZ "law" (ak cu) f cdv A outer s H E) ((aP cu).drop 2) t}:=⟨_,(af (aI (i:=3) fJ.nd rfl (by first | exact Or.inl rfl | exact Or.inr rfl) (bT ah))
   (af (aI (i:=4) fJ.nd rfl (by first | exact Or.inl rfl | exact Or.inr rfl) (bT ah))
   (af (aI (i:=5) fJ.nd rfl (by first | exact Or.inl rfl | exact Or.inr rfl) (bT ah))
   (af (bF (dv (ib (aX bR (hr.mono (by decide)) (by rfl) aq (ae (pv 1) (ae (pv 3) ah rfl) rfl)))) (ao (aJ gJ)) aL)
   (af (dS cg rfl (cO (pT qW (pv 0) qS (qT aj))) (a6 (i:=6) fJ.nd rfl (by first | exact Or.inl rfl | exact Or.inr rfl))
   (af (bF (PW.pt (rH (dv (ib (aX fQ (hr.mono (by decide)) (by rfl) aq (ae (pv 1) (ae (pv 3) (ae (pv 6) ah rfl) rfl) rfl)))) (pF (dv (ib (aX bR (hr.mono (by decide)) (by rfl) aq (ae (pv 1) (ae (pv 3) ah rfl) rfl))))))) (ao (aJ gJ)) aL)
   (af (bF (a7 gi (aE b0 (pv 6) aj) aj (bI _)) (af (a0 (kb PySem.F.plainAttrs_list PySem.F.slot_list_append PySem.F.type_list_append dr (pv 4) (ae (aM cf (by rfl) T.jz PySem.boot_len (ae (pv 4) ah rfl)) ah rfl)))
   (ao (bF (a7 um (aX bQ (hr.mono (by decide)) (by rfl) aq (ae (pv 2) ah rfl)) (aE jh (aM cf (by rfl) T.jz PySem.boot_len (ae (pv 4) ah rfl)) aj) (bI _)) (ao (aJ gJ)) aL))) aL)
   uP.2)))
   R7.2)))))⟩
 refine⟨_,(af (aI (i:=1) fJ.nd rfl (by first | exact Or.inl rfl | exact Or.inr rfl) (dz bf (hr.mono (by decide)) (by rfl) T.jy aq (ae (dz aR (hr.mono (by decide)) (by rfl) T.lu aq (ae (bT (ae aj (ae aj ah rfl) rfl)) (ae aj ah rfl) rfl)) (ae aj (ae aj ah rfl) rfl) rfl)))
   (af (aI (i:=2) fJ.nd rfl (by first | exact Or.inl rfl | exact Or.inr rfl) (dz bf (hr.mono (by decide)) (by rfl) T.jy aq (ae (dz aR (hr.mono (by decide)) (by rfl) T.lu aq (ae (bT (ae aj (ae aj ah rfl) rfl)) (ae aj ah rfl) rfl)) (ae aj (ae aj ah rfl) rfl) rfl)))
   R2.2)),?_⟩
 obtain⟨ms,em,lm⟩:=qi ss none (some 80)
 have ok1:oh 1 0 0:=⟨⟨⟨by decide,by decide⟩,by decide,by decide⟩,.inl rfl⟩
 have l64:([2,3]:List Int).length<=64:=by decide
 have fin:∀(m b d1 d2:Addr) (H':Hp),aF a H' m d1 [] [d2,d1]->aF a H' b d2 [] [d2,d1]->d1≠d2->Same H H'->R2.1 { nx:=fun _ H'=>Q .non H',rt:=Q } [some (.ref sc),some (.ref m),some (.ref b),none,none,none,none,none] H':=by
  intro m b d1 d2 H0 M1 M2 n12 s0
  walk_at "go"
  intro lv hlv
  generalize hh:upd _ lv _=H1
  obtain⟨s1,e1⟩:=b_ hlv hh
  clear hh
  walk_at "go"
  intro ot hot
  generalize hh:upd _ ot _=H2
  obtain⟨s2,e2⟩:=b_ hot hh
  clear hh
  walk_at "go"
  intro hd hhd
  generalize hh:upd _ hd _=H3
  obtain⟨s3,e3⟩:=b_ hhd hh
  clear hh
  have s13:=s1.trans (s2.trans s3)
  have hl3:H3 lv=some (.lst (([]:List Int).map V.int)):=s3 _ _ (s2 _ _ e1)
  have ho3:H3 ot=some (.lst (([]:List Int).map V.int)):=s3 _ _ e2
  have hh3:H3 hd=some (.lst (([]:List Addr).map V.ref)):=e3
  have nlo:lv≠ot:=aw e1 hot
  have nlh:lv≠hd:=aw (s2 _ _ e1) hhd
  have noh:ot≠hd:=aw e2 hhd
  have M13:=M1.same s13
  have M23:=M2.same s13
  have pn:([]:List Int).Perm []:=.refl _
  have z64:([]:List Int).length < 64:=by decide
  walk_at "go"
  refine fun H4 s4=>?_
  have hS4:=(s0.trans (s13.trans s4)).seq hS
  walk_at "go"
  intro r hr'
  rw[em]
  generalize hh:upd H4 r _=H5
  obtain⟨s5,e5⟩:=b_ hr' hh
  clear hh
  have s35:=s4.trans s5
  obtain⟨⟨kv1,hk1⟩,_,_⟩:=M13.dict
  obtain⟨⟨kv2,hk2⟩,_,_⟩:=M23.dict
  have nav:∀{c:Addr} {xs:List V},H3 c=some (.lst xs)->c∉[d2,d1]:=fun {c xs} e z=>by
   rcases List.mem_cons.mp z with q | q
   ·rw[q,hk2] at e;cases e
   ·rw[List.mem_singleton.mp q,hk1] at e;cases e
  have lva:=nav hl3
  have ota:=nav ho3
  have hda:=nav hh3
  have rX:r∉[lv,ot,hd]:=fun z=>by
   simp at z
   rcases z with q | q | q
   ·rw[q,s4 _ _ hl3] at hr';cases hr'
   ·rw[q,s4 _ _ ho3] at hr';cases hr'
   ·rw[q,s4 _ _ hh3] at hr';cases hr'
  have I0:J35 a H5 m b d1 d2 lv ot hd r [d2,d1] ms 0 [] [] [] [] []:=⟨M13.same s35,s35 _ _ hl3,.refl _,fun _ z=>(nomatch z),Nat.le_refl _,M23.same s35,s35 _ _ ho3,.refl _,rfl,Nat.le_refl _,s35 _ _ hh3,Nat.le_refl _,fun _ z=>(nomatch z),e5⟩
  walk_at "go"
  refine gM (xs:=ms.map V.int) (fun i σ H'=>Bx (∃(ks ns ko os:List Int) (hs:List Addr) (v6 v7:Option V),σ=[some (.ref sc),some (.ref m),some (.ref b),some (.ref lv),some (.ref ot),some (.ref hd),v6,v7]/\J35 a H' m b d1 d2 lv ot hd r [d2,d1] ms i ks ns ko os hs)) ⟨[],[],[],[],[],_,_,rfl,I0⟩ ?_ ?_ ?_
  ·rintro i σ H' _ ⟨ks,ns,ko,os,hs,v6,v7,_,I⟩
   exact SqL.of I.hc
  ·rintro i x σ H6 hx ⟨ks,ns,ko,os,hs,v6,v7,rfl,I⟩
   obtain⟨c,rfl,hc⟩:=gS hx
   have i63:i < 63:=by
    have:=(List.getElem?_eq_some_iff.mp hc).1
    omega
   obtain⟨me,hl,pm,n0,nl,be,ho,po,oe,ol,hh,hn,td,hcc⟩:=I
   have nl1:ns.length < 100:=by omega
   walk_at "go"
   refine fun ks1 ns1 H7 M7 hl7 pm7 n07 nl7 k7=>?_
   obtain⟨⟨kv6,hk6⟩,_,_⟩:=me.dict
   have B7:aF a H7 b d2 ko [d2,d1]:=be.kpp (d':=d1) (fun b u e nb nl=>k7 _ _ e nb fun z=>by rw[z,hl] at e;cases e;exact nl _ rfl) hk6 (by simp) n12.symm M7.dict.2.2
   have f7:FX [lv,ot,hd] H6 H7:=fun b u e nX nd=>k7 _ _ e (fun z=>by rw[z,hk6] at e;cases e;exact nd _ rfl) (fun z=>nX (by rw[z];simp))
   have ho7:=k7 _ _ ho (cC ho hk6 (by intro z;cases z)) nlo.symm
   have hh7:=k7 _ _ hh (cC hh hk6 (by intro z;cases z)) nlh.symm
   have n64:ns1.length < 64:=by omega
   have tail:∀(D:Ends) (ko' os':List Int) (H9:Hp),(∀(hs':List Addr) (v7':Option V) H',J35 a H' m b d1 d2 lv ot hd r [d2,d1] ms (i+1) ks1 ns1 ko' os' hs'->D.nx [some (.ref sc),some (.ref m),some (.ref b),some (.ref lv),some (.ref ot),some (.ref hd),some (.int c),v7'] H') ->
     aF a H9 m d1 ks1 [d2,d1]->H9 lv=some (.lst (ns1.map V.int))->aF a H9 b d2 ko' [d2,d1]->H9 ot=some (.lst (os'.map V.int))->os'.Perm ko'->os'=(List.range os'.length).map Int.ofNat->os'.length<=i+1->H9 hd=some (.lst (hs.map V.ref))->FX [lv,ot,hd] H6 H9->uP.1 D [some (.ref sc),some (.ref m),some (.ref b),some (.ref lv),some (.ref ot),some (.ref hd),some (.int c),v7] H9:=by
    intro D ko' os' H9 fin M9 hl9 B9 ho9 po9 oe9 ol9 hh9 f9
    have o64:os'.length < 64:=by omega
    have wj:ks1.length < 64:=by rw[<-pm7.length_eq];exact n64
    walk_at "go"
    refine fun H10 s10=>?_
    have M10:=M9.same s10
    walk_at "go"
    refine fun q zs H11 pz wz e11 hq s11=>?_
    have rF:=s10.trans s11
    have vT:=rF _ _ hh9
    have q11:SqL K H11 q (zs.map V.int):=SqL.of e11
    walk_at "go"
    intro u hu
    generalize hh:upd _ u _=H12
    obtain⟨s12,e12⟩:=b_ hu hh
    clear hh
    have vU:=s12 _ _ vT
    walk_at "go"
    intro t ht
    generalize hh:upd _ t _=H13
    obtain⟨s13,e13⟩:=b_ ht hh
    clear hh
    have uQ:=s13 _ _ vU
    have hz:(hs.map V.ref).length < sizeLine:=by rw[List.length_map,sizeLine_eq];omega
    walk_at "go"
    refine fun H14 s14=>?_
    walk_at "go"
    have qx:=rF.trans (s12.trans s13)
    have fu:FX [lv,ot,hd] H13 (upd H13 hd (.lst (hs.map V.ref++[V.ref t]))):=fun b u e n _=>by rw[au fun z=>n (by rw[z];simp)];exact e
    have f14:=(f9.trans (.same qx)).trans (fu.trans (.same s14))
    have nX:∀{G:Hp} {c:Addr},Same H9 G->G c=none->c∉[lv,ot,hd]:=fun {G c} sg hc z=>by
     simp at z
     rcases z with w | w | w
     ·rw[w,sg _ _ hl9] at hc;cases hc
     ·rw[w,sg _ _ ho9] at hc;cases hc
     ·rw[w,sg _ _ hh9] at hc;cases hc
    have tX:=nX (rF.trans s12) ht
    have uX:=nX rF hu
    have qX:=nX s10 hq
    have g14:=fu.trans (.same s14)
    refine fin (hs++[t]) _ H14 ⟨((M9.same qx).lst uQ hda).same s14,s14 _ _ (by rw[au nlh];exact qx _ _ hl9),pm7,n07,by omega,((B9.same qx).lst uQ hda).same s14,s14 _ _ (by rw[au noh];exact qx _ _ ho9),po9,oe9,ol9,s14 _ _ (by rw[ai,List.map_append];rfl),by rw[List.length_append];show _+1<=_;omega,fun t' ht'=>?_,f14 _ _ hcc rX (fun _ z=>by cases z)⟩
    rcases List.mem_append.mp ht' with w | w
    ·exact td.fx f14 t' w
    ·rw[List.mem_singleton.mp w]
     exact⟨q,u,zs,g14 _ _ e13 tX (fun _ z=>by cases z),g14 _ _ (s13 _ _ (s12 _ _ e11)) qX (fun _ z=>by cases z),g14 _ _ (s13 _ _ e12) uX (fun _ z=>by cases z),tX,qX,uX⟩
   walk_at "go"
   refine fun H8 s8=>?_
   have M8:=M7.same s8
   have hl8:=s8 _ _ hl7
   have B8:=B7.same s8
   have ho8:=s8 _ _ ho7
   have hh8:=s8 _ _ hh7
   have f8:=f7.trans (.same s8)
   walk_at "go"
   refine fw (fun c7=>?_) fun c7=>?_
   ·have hz8:(os.map V.int).length < sizeLine:=by rw[List.length_map,sizeLine_eq];omega
    have ko1:ko.length < 1000:=by rw[<-po.length_eq];omega
    have Ba:aF a (upd H8 ot (.lst (os.map V.int++[V.int ((os.map V.int).length:Int)]))) b d2 ko [d2,d1]:=B8.lst ho8 ota
    have Ma:aF a (upd H8 ot (.lst (os.map V.int++[V.int ((os.map V.int).length:Int)]))) m d1 ks1 [d2,d1]:=M8.lst ho8 ota
    have eo:os.map V.int++[V.int ((os.map V.int).length:Int)]=(os++[(os.length:Int)]).map V.int:=by rw[List.map_append,List.length_map];rfl
    have ha:upd H8 ot (.lst (os.map V.int++[V.int ((os.map V.int).length:Int)])) ot=some (.lst (os.map V.int++[V.int ((os.map V.int).length:Int)])):=ai
    have fa:FX [lv,ot,hd] H8 (upd H8 ot (.lst (os.map V.int++[V.int ((os.map V.int).length:Int)]))):=fun b u e n _=>by rw[au fun z=>n (by rw[z];simp)];exact e
    have hla:upd H8 ot (.lst (os.map V.int++[V.int ((os.map V.int).length:Int)])) lv=some (.lst (ns1.map V.int)):=by rw[au nlo];exact hl8
    have hha:upd H8 ot (.lst (os.map V.int++[V.int ((os.map V.int).length:Int)])) hd=some (.lst (hs.map V.ref)):=by rw[au noh.symm];exact hh8
    walk_at "go"
    refine fun t H9 lf B9 k9=>?_
    obtain⟨⟨kva,hka⟩,_,_⟩:=Ba.dict
    have M9:=Ma.kpp (d':=d2) (fun b u e nb _=>k9 _ _ e nb) hka (by simp) n12 B9.dict.2.2
    have kl9:∀{c:Addr} {xs:List V},upd H8 ot (.lst (os.map V.int++[V.int ((os.map V.int).length:Int)])) c=some (.lst xs)->H9 c=some (.lst xs):=fun {c xs} e=>k9 _ _ e (cC e hka (by intro z;cases z))
    have ho9:=kl9 ha
    have te:=qw lf po oe
    have fk:FX [lv,ot,hd] (upd H8 ot (.lst (os.map V.int++[V.int ((os.map V.int).length:Int)]))) H9:=fun b u e n nd=>k9 _ _ e fun z=>by rw[z,hka] at e;cases e;exact nd _ rfl
    walk_at "go"
    refine l0 (fun z=>absurd ?_ z) (fun _=>?_)
    ·show V.int t=V.int _
     rw[te,List.length_append,List.length_map]
     show V.int _=V.int (((os.length+1:Nat):Int)-1)
     congr 1
     omega
    ·refine tail _ (ko++[t]) (os++[(os.length:Int)]) H9 (fun hs' v7' H' h=>⟨_,_,_,_,_,_,_,rfl,h⟩) M9 (kl9 hla) B9 (by rw[ho9,eo]) (by rw[te];exact po.append_right _) ?_ ?_ (kl9 hha) (f8.trans (fa.trans fk))
     ·rw[List.length_append]
      exact(congrArg (·++[(os.length:Int)]) oe).trans (m6 _)
     ·rw[List.length_append];show _+1<=_;omega
   ·exact tail _ ko os H8 (fun hs' v7' H' h=>⟨_,_,_,_,_,_,_,rfl,h⟩) M8 hl8 B8 ho8 po oe (by omega) hh8 f8
  ·rintro σ H6 ⟨ks,ns,ko,os,hs,v6,v7,rfl,I⟩
   obtain⟨me,hl,pm,n0,nl,be,ho,po,oe,ol,hh,hn,td,hcc⟩:=I
   rw[List.length_map] at nl hn
   have n64:ns.length < 64:=by omega
   have k64:ks.length < 64:=by rw[<-pm.length_eq];exact n64
   have hh':SqL K H6 hd (hs.map V.ref):=SqL.of hh
   walk_at "go"
   intro u hu
   have su:∀ys,Same H6 (upd H6 u (.lst ys)):=fun ys=>bM hu
   refine mR hu (fun _=>.bl true) hh' (by rw[List.length_map,sizeLine_eq];omega) (fun i v hv=>?_) (fun i t u' v' ys ht et R rr=>?_) ?_
   ·obtain⟨t,rfl,ht⟩:=mr hv
    obtain⟨x,y,zs,h1,_⟩:=td t (List.mem_of_getElem? ht)
    exact⟨t,_,_,rfl,h1⟩
   ·obtain⟨t',e,ht'⟩:=mr ht
    cases e
    obtain⟨x,y,zs,h1,h2,h3,_⟩:=td t (List.mem_of_getElem? ht')
    rw[h1] at et
    cases et
    walk_at "go"
    refine ip (ns:=zs) (ms:=zs) (SqL.of (su ys _ _ h2)) (SqL.of (su ys _ _ h3)) ?_
    rw[decide_eq_true rfl]
    exact rr
   ·have eb:(hs.map V.ref).map (fun _=>V.bl true)=(hs.map fun _=>true).map V.bl:=by rw[List.map_map,List.map_map];rfl
    rw[eb]
    generalize hx:upd H6 u _=H7
    obtain⟨s7,e7⟩:=b_ hu hx
    clear hx
    have qb:SqL K H7 u ((hs.map fun _=>true).map V.bl):=SqL.of e7
    have al:(hs.map fun _=>true).all id=true:=by simp
    have M7:=me.same s7
    walk_at "go"
    rw[al]
    walk_at "go"
    refine fun q zs H8 _ _ e8 hq s8=>?_
    have s68:=s7.trans s8
    have qa:q∉[d2,d1]:=fun z=>by
     obtain⟨o,ho⟩:=M7.dict.2.2 _ z
     rw[hq] at ho;cases ho
    have M9:aF a (upd H8 q (.lst [])) m d1 ks [d2,d1]:=(me.same s68).lst e8 qa
    have hl9:upd H8 q (.lst []) lv=some (.lst (ns.map V.int)):=by
     rw[au (aw (s7 _ _ hl) hq)];exact s68 _ _ hl
    walk_at "go"
    exact fun H' _=>k H'
 walk_at "go"
 intro w1 hw1
 generalize hh:upd _ w1 _=H1
 obtain⟨s1,e1⟩:=b_ hw1 hh
 clear hh
 have e1':H1 w1=some (.lst (([2,3]:List Int).map V.int)):=e1
 walk_at "go"
 intro x1 dx1 hx1 uR _
 refine⟨x1,w1,dx1,[2,3],1,rfl,ai,cV hx1 uR _ _ e1',l64,fun g H2 S2 k2=>⟨rfl,?_⟩,fun z=>absurd m5 z⟩
 have s2:Same H1 H2:=fun b u e=>mkd hx1 uR k2 e
 walk_at "go"
 intro m dm hm hdm _
 refine⟨m,x1,dm,1,0,0,[2,3],1,[],rfl,ai,S2.same (cV hm hdm),g,fun b hb=>(nomatch hb),fun hb=>(nomatch hb),fun _ d1 H3 M3 hd1 k3=>⟨rfl,?_⟩,fun z=>absurd ok1 z⟩
 have s3:Same H2 H3:=fun b u e=>mkd hm hdm k3 e
 walk_at "go"
 intro w2 hw2
 generalize hh:upd _ w2 _=H4
 obtain⟨s4,e4⟩:=b_ hw2 hh
 clear hh
 have e4':H4 w2=some (.lst (([2,3]:List Int).map V.int)):=e4
 walk_at "go"
 intro x2 dx2 hx2 uT _
 refine⟨x2,w2,dx2,[2,3],1,rfl,ai,cV hx2 uT _ _ e4',l64,fun g' H5 S5 k5=>⟨rfl,?_⟩,fun z=>absurd m5 z⟩
 have s5:Same H4 H5:=fun b u e=>mkd hx2 uT k5 e
 have M5:=M3.same (s4.trans s5)
 obtain⟨⟨kv5,hk5⟩,_,_⟩:=M5.dict
 walk_at "go"
 intro b db hb hdb _
 refine⟨b,x2,db,1,0,0,[2,3],1,[d1],rfl,ai,S5.same (cV hb hdb),g',fun c hc=>?_,fun hc=>?_,fun _ d2 H6 M6 hd2 k6=>⟨rfl,?_⟩,fun z=>absurd ok1 z⟩
 ·rw[List.mem_singleton.mp hc];exact⟨_,cV hb hdb _ _ hk5⟩
 ·rw[List.mem_singleton.mp hc,hk5] at hb;cases hb
 have s6:Same H5 H6:=fun b u e=>mkd hb hdb k6 e
 have uU:H5 d2=none:=hV (cV hb hdb) hd2
 obtain⟨⟨kv6,hk6⟩,_,_⟩:=M6.dict
 have M56:=M5.wide uU s6 hk6
 have n12:d1≠d2:=aw hk5 uU
 have sA:Same H H6:=s1.trans (s2.trans (s3.trans (s4.trans (s5.trans s6))))
 repeat (first | exact fin m b d1 d2 H6 M56 M6 n12 sA | (apply And.intro;(walk_at "cl")) | walk_at "ex")
end
end K35

set_option maxHeartbeats 4000000
namespace L2
open PySem PySem.Spec PyProof.Rows
section
variable {P:List Value->Prop}
theorem u0 (h:P []): ∀us:List Value,us.length=0->P us
  | [],_=>h
theorem uS {n:Nat}(h:∀(a:Value) (us:List Value),us.length=n->P (a::us)): ∀us:List Value,us.length=n+1->P us
  | a::us,e=>h a us (Nat.succ.inj e)
theorem u1 (h:∀a:Value,P [a]): ∀us:List Value,us.length=1->P us:=uS fun a=>u0 (h a)
theorem u2 (h:∀a b:Value,P [a,b]): ∀us:List Value,us.length=2->P us:=uS fun a=>u1 (P:=fun us=>P (a::us)) (h a)
theorem u3 (h:∀a b c:Value,P [a,b,c]): ∀us:List Value,us.length=3->P us:=uS fun a=>u2 (P:=fun us=>P (a::us)) (h a)
theorem u4 (h:∀a b c d:Value,P [a,b,c,d]): ∀us:List Value,us.length=4->P us:=uS fun a=>u3 (P:=fun us=>P (a::us)) (h a)
end
def BA (nm q:Str)(st:Stmt)(ps:List Str): Prop:=∀(kV doc pm:Value) (an:Option Addr) (cdv ct:Value) (us:List Value),us.length=ps.length ->
  bindArgs (W.fnOf nm q (bt st) (aP st) (ak st) .none kV doc pm an cdv ct) ⟨us,[]⟩=pure (ps.zip us)
section
variable {K:W.Frag}{h:Heap}{mg:Str->Option Value}{C f:Addr}{x m q:Str}{st:Stmt}{ps:List Str}{oc kV doc pm cdv ct:Value}{od an:Option Addr}{sl:Array (Option Value)}
theorem bu.of (X:K.In h)(G:h.Ns mainGlobals mg)(a:W.nsIn K mainGlobals x=some (some (.ref f)))(l:K.lookup f=some ⟨oc,od,.func (W.fnOf x x (bt st) (aP st) (ak st) .none kV doc pm an cdv ct),sl⟩)
    (c:W.codeIn K cdv x=true) (k:W.keepIn K (.ref f)=true) (b:BA x x st ps):bu K mg x st ps [] :=
  ⟨f,oc,od,.none,kV,doc,pm,an,cdv,ct,sl,[],l,c,k,W.mg_of X G a,.all (b _ _ _ _ _ _),.nil⟩
theorem fq.of (e:W.findIn K (.ref C) m=some (some (.ref f)))(l:K.lookup f=some ⟨oc,od,.func (W.fnOf m q (bt st) (aP st) (ak st) .none kV doc pm an cdv ct),sl⟩)
    (c:W.codeIn K cdv q=true) (k:W.keepIn K (.ref f)=true) (i:W.isFn K (.ref f)=true) (b:BA m q st ps):fq K C m q st ps [] :=
  ⟨f,oc,od,.none,kV,doc,pm,an,cdv,ct,sl,[],l,c,⟨e,i,k⟩,.all (b _ _ _ _ _ _),.nil⟩
theorem dg.of (e:W.findIn K (.ref C) "__init__" = some (some (.ref f))) (l:K.lookup f=some ⟨oc,od,.func (W.fnOf "__init__" q (bt st) (aP st) (ak st) .none kV doc pm an cdv ct),sl⟩)
    (c:W.codeIn K cdv q=true) (k:W.makesIn K C=true) (i:W.isFn K (.ref f)=true) (kc:W.keepIn K (.ref C)=true) (b:BA "__init__" q st ps):dg K C q st ps [] :=
  ⟨f,oc,od,.none,kV,doc,pm,an,cdv,ct,sl,[],l,c,⟨k,e,i,kc⟩,.all (b _ _ _ _ _ _),.nil⟩
end
end L2

set_option maxHeartbeats 4000000
namespace K35
open PySem L2
theorem all_mk {l:W.OpenLaw} {w:World} {K:W.Frag} {h:Heap} {mg:Str->Option Value} {fa aY ax dO bg g_ eM aA cI jb eN hE iG iH kE fW bU bb bd bw bj bn bo aC aB aD eO bC f26 uV f34:Addr} (X:K.In h) (G:h.Ns mainGlobals mg) (hfa:mg "law" = some (.ref fa))
  {vV vW:Option Addr} {vX:Array (Option Value)} {vY vZ v5 v8 uW v9:Value}
  {uY:Value} {uZ:Option Addr} {u_:Nat} {tU:Array (Option Value)} {qy:Tok}
  {wa va:Option Addr} {wc:Array (Option Value)} {wd vb vd ve tV vf:Value}
  {jH:Array DictEntry} {m9:Nat}
  {m_ ng nh ni nj nn nq nu:Tok}
  {o_:Option Addr} {pc:Nat} {pe:Array (Option Value)}
  {i8 iQ i9 iR jI jJ lG:Tok}
  (j5:W.nsIn K mainGlobals "LeafError" = some (some (.ref aY)))
  (mw:W.nsIn K mainGlobals "NoShape" = some (some (.ref ax)))
  (j6:W.nsIn K mainGlobals "NoAddress" = some (some (.ref dO)))
  (lH:W.nsIn K mainGlobals "NoNumber" = some (some (.ref bg)))
  (nw:W.nsIn K mainGlobals "NoWord" = some (some (.ref g_)))
  (lI:W.nsIn K mainGlobals "NoRights" = some (some (.ref eM)))
  (ny:W.nsIn K mainGlobals "NoTask" = some (some (.ref aA)))
  (mx:W.nsIn K mainGlobals "NoShare" = some (some (.ref cI)))
  (pf:W.nsIn K mainGlobals "Fault" = some (some (.ref jb)))
  (lJ:W.nsIn K mainGlobals "Unmapped" = some (some (.ref eN)))
  (nA:W.nsIn K mainGlobals "Barred" = some (some (.ref hE)))
  (qz:W.nsIn K mainGlobals "Leaf" = some (some (.ref iG)))
  (qA:W.nsIn K mainGlobals "Held" = some (some (.ref iH)))
  (rG:W.nsIn K mainGlobals "Out" = some (some (.ref kE)))
  (ph:W.nsIn K mainGlobals "Named" = some (some (.ref fW)))
  (qB:W.nsIn K mainGlobals "Hand" = some (some (.ref bU)))
  (nB:W.nsIn K mainGlobals "Counts" = some (some (.ref bb)))
  (pj:W.nsIn K mainGlobals "Store" = some (some (.ref bd)))
  (qC:W.nsIn K mainGlobals "Pool" = some (some (.ref bw)))
  (qD:W.nsIn K mainGlobals "Near" = some (some (.ref bj)))
  (nC:W.nsIn K mainGlobals "Shares" = some (some (.ref bn)))
  (qE:W.nsIn K mainGlobals "Tree" = some (some (.ref bo)))
  (pq:W.nsIn K mainGlobals "Space" = some (some (.ref aC)))
  (nD:W.nsIn K mainGlobals "Memory" = some (some (.ref aB)))
  (px:W.nsIn K mainGlobals "Shape" = some (some (.ref aD)))
  (dH:W.findIn K (.ref aB) "__init__" = some (some (.ref f26)))
  (l26:K.lookup f26=some ⟨vY,vV,.func (W.fnOf "__init__" "Memory.__init__" (bt a9) (aP a9) (ak a9) (.ref uV) vZ v5 v8 vW uW v9),vX⟩)
  (c26:W.codeIn K uW "Memory.__init__" = true)
  (k26:W.keepIn K (.ref f26)=true)
  (i26:W.isFn K (.ref f26)=true)
  (vg:K.lookup uV=some ⟨uY,uZ,.seq #[.int 0 qy] u_,tU⟩)
  (a34:W.nsIn K mainGlobals "law" = some (some (.ref f34)))
  (l34:K.lookup f34=some ⟨wd,wa,.func (W.fnOf "law" "law" (bt cu) (aP cu) (ak cu) .none vb vd ve va tV vf),wc⟩)
  (c34:W.codeIn K tV "law" = true)
  (k34:W.keepIn K (.ref f34)=true)
  (r1:bu K mg "check_shape" dU ["widths", "low"] [])
  (r2:dg K bb "Counts.__init__" cm ["self", "many"] [])
  (r3:dg K bd "Store.__init__" cF ["self", "many", "size"] [])
  (r4:dg K bU "Hand.__init__" cX ["self", "many"] [])
  (r5:bu K mg "one_level_down" cG ["nodes", "width"] [])
  (r6:dg K bo "Tree.__init__" c4 ["self", "shape"] [])
  (r7:fq K bo "rows" "Tree.rows" fD ["self"] [])
  (r8:dg K aC "Space.__init__" cH ["self", "shape", "task"] [])
  (r9:fq K aC "rows" "Space.rows" eC ["self"] [])
  (r10:fq K aC "put" "Space.put" fE ["self", "page", "leaf"] [])
  (r11:bu K mg "least_free_task" cr ["memory"] [])
  (r12:bu K mg "space_of" gx ["memory", "task"] [])
  (r13:bu K mg "count_more" eG ["memory", "leaf"] [])
  (r14:fq K aC "like" "Space.like" eD ["self", "task"] [])
  (r15:bu K mg "count_less" eI ["memory", "leaf"] [])
  (r16:fq K bj "forget_task" "Near.forget_task" b4 ["self", "task"] [])
  (r17:dg K bw "Pool.__init__" cY ["self", "frames", "slots", "size"] [])
  (r18:fq K aD "size" "Shape.size" eB ["self"] [])
  (r19:dg K bj "Near.__init__" cZ ["self", "many"] [])
  (r20:dg K bn "Shares.__init__" cq ["self"] [])
  (r21:bu K mg "fork_task" fF ["memory", "task"] [])
  (r22:bu K mg "end_task" gA ["memory", "task"] [])
  (r23:bu K mg "_law_least" eK ["_law_live"] [])
  (r24:bu K mg "live_tasks" eF ["memory"] [])
  (r25:bu K mg "_law_whole" eJ ["_law_found"] [])
  (r26:dg K aD "Shape.__init__" cE ["self", "widths", "low"] [])
  (r27:bu K mg "_law_refused" dC ["_law_memory", "_law_task", "_law_way"] [])
  (r28:bu K mg "_law_nobody" dW ["_law_live", "_law_cell"] [])
  (r29:bu K mg "begin_task" eE ["memory"] [])
  (r30:bu K mg "_law_alike" eL ["_law_memory", "_law_live"] [])
  (r31:bu K mg "_law_done" fG ["_law_memory", "_law_live", "_law_cell"] [])
  (r32:bu K mg "_law_no_memory" bh ["_law_cell"] [])
  (n4:Cls K iG)
  (n5:Cls K iH)
  (qk:Cls K kE)
  (md:Cls K fW)
  (lq:Cls K bU)
  (iI:Cls K bb)
  (ju:Cls K bd)
  (lr:Cls K bw)
  (fX:Cls K bj)
  (iJ:Cls K bn)
  (dP:Cls K bo)
  (bD:Cls K aC)
  (bN:Cls K aB)
  (cU:Cls K aD)
  (kG:W.makesIn K aB=true)
  (kH:W.keepIn K (.ref aB)=true)
  (pA:W.nsIn K mainGlobals "NEEDED" = some (some (.ref bC)))
  (pB:K.lookup bC=some ⟨.type "dict",none,.dict jH m9,#[]⟩)
  (pC:W.KeysLit w.params jH.toList)
  (pD:(bC==sysModules)=false)
  (qF:W.nsIn K mainGlobals "SIZES" = some (some (.ref eO)))
  (qG:K.lookup eO=some ⟨.type "tuple",o_,.seq #[.int 0 m_,.int 1 ng,.int 2 nh,.int 4 ni,.int 8 nj,.int 16 nn,.int 32 nq,.int 64 nu] pc,pe⟩)
  (dX:W.findIn K (.ref bb) "kept" = some none)
  (dY:W.findIn K (.ref bU) "marked" = some none)
  (c6:W.findIn K (.ref bU) "standing" = some none)
  (cQ:W.findIn K (.ref aB) "near" = some none)
  (dZ:W.findIn K (.ref aB) "pool" = some none)
  (cw:W.findIn K (.ref aB) "shape" = some none)
  (c9:W.findIn K (.ref aB) "shares" = some none)
  (aH:W.findIn K (.ref aB) "spaces" = some none)
  (dD:W.findIn K (.ref aB) "walks" = some none)
  (di:W.findIn K (.ref bj) "lines" = some none)
  (fK:W.findIn K (.ref bj) "many" = some none)
  (b6:W.findIn K (.ref bw) "frame_store" = some none)
  (fL:W.findIn K (.ref bw) "hand" = some none)
  (d0:W.findIn K (.ref bw) "length" = some none)
  (cx:W.findIn K (.ref bw) "slot_store" = some none)
  (dQ:W.findIn K (.ref aD) "low" = some none)
  (cy:W.findIn K (.ref aD) "widths" = some none)
  (d4:W.findIn K (.ref bn) "kept" = some none)
  (cR:W.findIn K (.ref aC) "shape" = some none)
  (eP:W.findIn K (.ref aC) "task" = some none)
  (dj:W.findIn K (.ref aC) "tree" = some none)
  (cJ:W.findIn K (.ref bd) "contents" = some none)
  (dE:W.findIn K (.ref bd) "length" = some none)
  (d5:W.findIn K (.ref bd) "tally" = some none)
  (dk:W.findIn K (.ref bo) "shape" = some none)
  (eQ:W.findIn K (.ref bo) "top" = some none)
  (dR:W.excIn K aY bmV "ValueError.__new__" = true)
  (bO:W.excIn K ax bmV "ValueError.__new__" = true)
  (jw:W.excIn K aA bmV "ValueError.__new__" = true)
  (gv:W.nsIn K bC "read" = some (some (.int 1 i8)))
  (fM:W.nsIn K bC "write" = some (some (.int 2 iQ)))
  (d6:W.nsIn K mainGlobals "MOST_FRAMES" = some (some (.int 64 i9)))
  (dF:W.nsIn K mainGlobals "MOST_NUMBERS" = some (some (.int 64 iR)))
  (eR:W.nsIn K mainGlobals "MOST_WORDS" = some (some (.int 64 jI)))
  (eS:W.nsIn K mainGlobals "MOST_WIDTH" = some (some (.int 24 jJ)))
  (gF:W.nsIn K mainGlobals "MOST_LOW" = some (some (.int 6 lG)))
  (eT:W.nsIn K mainGlobals "ValueError" = some none)
  (n_:W.nsIn K mainGlobals "all" = some none)
  (mW:W.nsIn K mainGlobals "bool" = some none)
  (oa:W.nsIn K mainGlobals "int" = some none)
  (aS:W.nsIn K mainGlobals "isinstance" = some none)
  (jz:W.nsIn K mainGlobals "len" = some none)
  (jA:W.nsIn K mainGlobals "list" = some none)
  (qp:W.nsIn K mainGlobals "max" = some none)
  (lw:W.nsIn K mainGlobals "range" = some none)
  (fN:W.nsIn K mainGlobals "sorted" = some none)
  (lx:W.nsIn K mainGlobals "tuple" = some none)
  (ef:XIs K aA)
  (fY:XIs K ax)
  (hn:W.specialIn K (.builtin "object.__class__") "__get__" = some (some (.builtin "getset_descriptor.__get__")))
  (htk:W.takesIn K (.builtin "object.__class__")=some true)
  (jB:W.mroIn K aA (.ref aY)=some true)
  (iK:W.mroIn K ax (.ref aY)=some true)
  (tF:W.kitOne K (.ref aA) (.ref aA)=some true)
  (tG:W.kitOne K (.ref aA) (.type "ValueError")=some true)
  (tH:W.kitAny K (.ref aA) [.ref bg,.ref cI]=some false)
  (tI:W.kitOne K (.ref ax) (.ref ax)=some true)
  (tJ:W.kitAny K (.ref ax) [.ref bg,.ref aA]=some false) :
  ∃fd:FuncData,(∀(s:Shared) (v:Value),BindsTo s fd ⟨[v],[]⟩ [("_law_script",v)])/\∀base:Heap,K.In base->base.Ns mainGlobals mg->gw l.prog w K mg base (CXE l.prog w) 10 fa fd ["_law_script"] (oo K):=by
 have e:=hfa.symm.trans (W.mg_of X G a34)
 cases e
 have T:Txt w K mg ⟨aY,ax,dO,bg,g_,eM,aA,cI,jb,eN,hE,iG,iH,kE,fW,bU,bb,bd,bw,bj,bn,bo,aC,aB,aD,eO,bC⟩:=⟨n4,n5,qk,md,lq,iI,ju,lr,fX,iJ,dP,bD,bN,cU,dX,dY,c6,cQ,dZ,cw,c9,aH,dD,di,fK,b6,fL,d0,cx,dQ,cy,d4,cR,eP,dj,cJ,dE,d5,dk,eQ,dR,W.mg_of X G j5,bO,W.mg_of X G mw,W.mg_of X G j6,W.mg_of X G lH,W.mg_of X G nw,W.mg_of X G lI,jw,W.mg_of X G ny,W.mg_of X G mx,W.mg_of X G pf,W.mg_of X G lJ,W.mg_of X G nA,W.mg_of X G qz,W.mg_of X G qA,W.mg_of X G rG,W.mg_of X G ph,W.mg_of X G qB,W.mg_of X G nB,W.mg_of X G pj,W.mg_of X G qC,W.mg_of X G qD,W.mg_of X G nC,W.mg_of X G qE,W.mg_of X G pq,W.mg_of X G nD,W.mg_of X G px,W.mg_of X G pA,⟨⟨_,_,pB,pC⟩,pD⟩,⟨_,gv⟩,⟨_,fM⟩,⟨_,W.mg_of X G d6⟩,⟨_,W.mg_of X G dF⟩,⟨_,W.mg_of X G eR⟩,W.mg_of X G qF,fun _=>.inr ⟨_,_,_,qG,rfl,rfl,o5 (n:=8) rfl,(.cons ⟨_,rfl⟩ (.cons ⟨_,rfl⟩ (.cons ⟨_,rfl⟩ (.cons ⟨_,rfl⟩ (.cons ⟨_,rfl⟩ (.cons ⟨_,rfl⟩ (.cons ⟨_,rfl⟩ (.cons ⟨_,rfl⟩ .nil))))))))⟩,⟨_,W.mg_of X G eS⟩,⟨_,W.mg_of X G gF⟩,W.mg_none_of X G eT,W.mg_none_of X G n_,W.mg_none_of X G mW,W.mg_none_of X G oa,W.mg_none_of X G aS,W.mg_none_of X G jz,W.mg_none_of X G jA,W.mg_none_of X G qp,W.mg_none_of X G lw,W.mg_none_of X G fN,W.mg_none_of X G lx,ef,fY,⟨hn,htk⟩,jB,iK,tF,tG,tH,tI,tJ⟩
 refine⟨W.fnOf "law" "law" (bt cu) (aP cu) (ak cu) .none vb vd ve va tV vf,fun s v=>.of_eq rfl,fun base _ _=>?_⟩
 have cz:=gG (P:=l.prog) (base:=base) r2 T
 have bP:=hU (P:=l.prog) (base:=base) r3 T cz
 have dc:=iL (P:=l.prog) (base:=base) r4 T
 have bY:=iM (P:=l.prog) (base:=base) r17 T bP dc
 have dq:=jV (P:=l.prog) (base:=base) r18 T
 have bZ:=iN (P:=l.prog) (base:=base) r19 T
 have bH:=gH (P:=l.prog) (base:=base) r20 T
 have bf:=dG (P:=l.prog) (w:=w) (base:=base) (dvs:=[.int 0]) ⟨f26,_,_,_,_,_,_,_,_,_,_,[.int 0 qy],l26,c26,⟨kG,dH,i26,kH⟩,(fun s us XX hl=>match us,(show us.length=4 by rw[List.length_append] at hl;exact Nat.add_right_cancel hl) with | [_,_,_,_],_=>W.binds_K XX rfl vg rfl rfl rfl),(.cons ⟨_,rfl⟩ .nil)⟩ T bY dq bZ bH
 have d7:=jE (P:=l.prog) (base:=base) r1 T
 have aR:=hR (P:=l.prog) (base:=base) r26 T d7
 have bz:=j1 (P:=l.prog) (base:=base) r24 T
 have bA:=j2 (P:=l.prog) (base:=base) r25 T
 have bR:=j4 (P:=l.prog) (base:=base) r30 T bz bA
 have cL:=mj (P:=l.prog) (base:=base) r12 T
 have aU:=gI (P:=l.prog) (base:=base) r11 T
 have cK:=hW (P:=l.prog) (base:=base) r5 T
 have fO:=lA (P:=l.prog) (base:=base) r7 T cK
 have aW:=jY (P:=l.prog) (base:=base) r9 T fO
 have eU:=jW (P:=l.prog) (base:=base) r13 T
 have de:=iO (P:=l.prog) (base:=base) r6 T
 have aZ:=hX (P:=l.prog) (base:=base) r8 T de
 have fP:=lz (P:=l.prog) (base:=base) r10 T
 have eV:=jZ (P:=l.prog) (base:=base) r14 T aZ aW fP
 have b9:=lC (P:=l.prog) (base:=base) r21 T cL aU aW eU eV
 have eW:=jX (P:=l.prog) (base:=base) r15 T
 have b7:=gb (P:=l.prog) (base:=base) r16 T
 have cM:=mm (P:=l.prog) (base:=base) r22 T cL aW eW b7
 have cB:=i7 (P:=l.prog) (base:=base) r27 T b9 cM
 have bx:=j3 (P:=l.prog) (base:=base) r23 T
 have d8:=jG (P:=l.prog) (base:=base) r28 T bx
 have bQ:=j0 (P:=l.prog) (base:=base) r29 T aU aZ
 have fQ:=lF (P:=l.prog) (base:=base) r31 T cB d8 bx bQ bA b9 cM
 have cA:=dG (P:=l.prog) (w:=w) (base:=base) (dvs:=[]) ⟨f26,_,_,_,_,_,_,_,_,_,_,[],l26,c26,⟨kG,dH,i26,kH⟩,(fun s us XX hl=>match us,(show us.length=5 by rw[List.append_nil] at hl;exact hl) with | [_,_,_,_,_],_=>W.binds_K XX rfl vg rfl rfl rfl),.nil⟩ T bY dq bZ bH
 have cN:=hZ (P:=l.prog) (base:=base) r32 T cA aR
 exact tT l34 c34 T bf aR bR fQ bQ bz cN
theorem walk {l:W.OpenLaw}{q:Program}{loose:List Str}{XP:(Str->Option Value)->Heap->Prop}{YP:World->Heap->Prop}{d:DefRec}{K:Params->W.Frag}(hn:l.most=some 63)(hdf:d.params.defaults=[])
  (hY:∀(w:World) (h:Heap),YP w h->(K w.params).In h)
  (F:∀(w:World) (mg:Str->Option Value) (fa:Addr) (h:Heap),(K w.params).In h->h.Ns mainGlobals mg->mg d.name=some (.ref fa) ->
   ∃fd:FuncData,(∀(s:Shared) (u:Value),BindsTo s fd ⟨[u],[]⟩ [("_law_script",u)])/\∀base:Heap,(K w.params).In base->base.Ns mainGlobals mg->gw l.prog w (K w.params) mg base (CXE l.prog w) 10 fa fd ["_law_script"] (oo (K w.params))) :
  W.WalkO q loose XP YP l.row.toRowW d [] (fun f vs=>PySem.call f vs) :=
 L2.qY (n:=63) (k:=10) (x := "_law_script") (CX:=fun w=>CXE l.prog w) (sp:=fun w=>oo (K w.params)) hn (by decide) hdf ⟨rfl,by decide,by decide⟩ hY F (fun _ _ a ns hl _ hS=>⟨a,ns,rfl,hS,hl,fun _=>rfl⟩) fun _ _ _ _ _ z=>by
  obtain⟨_,_,_,_,_,_,_,_,_,_,q⟩:=z
  exact q
end K35

namespace L2
open PySem PySem.W
def live (x:Obj): Option Obj:=match x with
  | ⟨_,_,.freed,_⟩=>none
  | o=>some o
noncomputable def pick (l:List Obj):Nat->List Nat->List (Option Obj) :=
  @List.rec Obj (fun _=>Nat->List Nat->List (Option Obj)) (fun _ _=>[])
    (fun o _ ih i as=>@List.rec Nat (fun _=>List (Option Obj)) [] (fun a r _=>@Bool.rec (fun _=>List (Option Obj)) (ih (Nat.add i 1) as) (live o::ih (Nat.add i 1) r) (Nat.beq i a)) as) l
noncomputable def told (K:Frag):List (Option Obj):=@List.rec (Addr×Obj) (fun _=>List (Option Obj)) [] (fun p _ r=>some p.2::r) K
theorem lK:∀(l:List Obj) (i:Nat) (K:Frag),pick l i (K.map (·.1))=told K->∀p∈K,∃j,p.1=i+j/\(l[j]?).bind live=some p.2
  | [],i,K,e,p,hp=>by
    cases K with
    | nil=>cases hp
    | cons q r=>exact absurd e (by intro x;exact nomatch (x:([]:List (Option Obj))=some q.2::told r))
  | o::l,i,[],e,p,hp=>by cases hp
  | o::l,i,q::r,e,p,hp=>by
    have e':@Bool.rec (fun _=>List (Option Obj)) (pick l (i+1) ((q::r).map (·.1))) (live o::pick l (i+1) (r.map (·.1))) (Nat.beq i q.1)=some q.2::told r:=e
    cases hb:Nat.beq i q.1 with
    | false =>
      rw[hb] at e'
      obtain⟨j,h1,h2⟩:=lK l (i+1) (q::r) e' p hp
      exact⟨j+1,h1.trans (by rw[Nat.add_assoc,Nat.add_comm 1 j]),by simpa using h2⟩
    | true =>
      rw[hb] at e'
      injection e' with a b
      rcases List.mem_cons.mp hp with rfl | hp
      · exact⟨0,(Nat.eq_of_beq_eq_true hb).symm,by simpa using a⟩
      · obtain⟨j,h1,h2⟩:=lK l (i+1) r b p hp
        exact⟨j+1,h1.trans (by rw[Nat.add_assoc,Nat.add_comm 1 j]),by simpa using h2⟩
theorem qH {h:Heap}{a:Addr}{o:Obj}(e:(h.objs.toList[a]?).bind live=some o): h.get? a=some o:=by
  rw[Array.getElem?_toList] at e
  unfold Heap.get?
  cases hx:h.objs[a]? with
  | none=>rw[hx] at e;cases e
  | some x =>
    rw[hx] at e
    obtain⟨c,d,dt,sl⟩:=x
    cases dt<;>first | (cases e;done) | (cases e;rfl)
theorem lookup_mem:∀{K:Frag} {a:Addr} {o:Obj},K.lookup a=some o->(a,o)∈K
  | [],_,_,e=>by cases e
  | (b,x)::r,a,o,e=>by
    rw[List.lookup_cons] at e
    cases h:a==b with
    | true=>rw[h] at e;cases e;rw[eq_of_beq h];exact .head _
    | false=>rw[h] at e;exact .tail _ (lookup_mem e)
noncomputable def hook (K:Params->Frag) (as:List Addr) (e:∀P,as=(K P).map (·.1)):Hook :=
  ⟨List (Option Obj),fun s=>pick s.heap.objs.toList 0 as,fun w=>told (K w.params),InK K,fun w s x a o l=>by
    obtain⟨j,h1,h2⟩:=lK _ _ _ ((e w.params) ▸ x) _ (lookup_mem l)
    have h1:a=0+j:=h1
    rw[Nat.zero_add] at h1
    subst h1
    exact qH h2,InK.keeps⟩
theorem tW {K:Params->Frag}{as:List Addr}{e:∀P,as=(K P).map (·.1)}{w:World}{h:Heap}(Y:(hook K as e).says w h): (K w.params).In h:=Y
end L2

set_option maxHeartbeats 4000000
local macro_rules | `(tactic| walk_at "bu") => `(tactic| first | exact fun _ _ _ _ _ _ => L2.u1 fun _ => rfl | exact fun _ _ _ _ _ _ => L2.u2 fun _ _ => rfl | exact fun _ _ _ _ _ _ => L2.u3 fun _ _ _ => rfl | exact fun _ _ _ _ _ _ => L2.u4 fun _ _ _ _ => rfl | exact fun _ _ _ _ _ _ => L2.u5 fun _ _ _ _ _ => rfl | exact fun _ _ _ _ _ _ => L2.u6 fun _ _ _ _ _ _ => rfl | exact fun _ _ _ _ _ _ => L2.u7 fun _ _ _ _ _ _ _ => rfl | exact fun _ _ _ _ _ _ => L2.u8 fun _ _ _ _ _ _ _ _ => rfl | exact fun _ _ _ _ _ _ => L2.u9 fun _ _ _ _ _ _ _ _ _ => rfl | exact fun _ _ _ _ _ _ => L2.u0 rfl)
local macro_rules | `(tactic| walk_at "zz") => `(tactic| first | (with_reducible show (_ == PySem.sysModules) = false; exact rfl) | (refine' L2.fq.of ?a ?l ?c ?k ?i ?b; (case a => k_is); (case l => k_is); (case c => k_is); (case k => k_is); (case i => k_is); (case b => walk_at "bu")) | (refine' L2.bu.of (by assumption) (by assumption) ?a ?l ?c ?k ?b; (case a => k_is); (case l => k_is); (case c => k_is); (case k => k_is); (case b => walk_at "bu")) | (refine' L2.dg.of ?a ?l ?c ?k ?i ?j ?b; (case a => k_is); (case l => k_is); (case c => k_is); (case k => k_is); (case i => k_is); (case j => k_is); (case b => walk_at "bu")) | (refine' L2.Cls.mk ?a ?b ?c ?d <;> k_is) | (refine' L2.XIs.mk ?a ?b ?c ?d ?e ?f <;> k_is) | (refine' L2.XL.mk' ?a ?b; (case a => k_is); (case b => first | rfl | decide +kernel)) | k_is | kit_is | k_exc | k_keys | rfl)
local macro_rules | `(tactic| o_head ($f:ident $k $a $p)) => if f.getId.eraseMacroScopes.getString! == "kHook" then `(tactic| o_head (L2.hook $k $a $p)) else Lean.Macro.throwUnsupported
open PySem PySem.W PyProof.Rows
namespace PySem.W.Fast
theorem tw8571263391148184916:True:=trivial
theorem tw1522447428734078595:True:=trivial
theorem tw8007319475415678481:True:=trivial
theorem tw9894091367416029665:True:=trivial
theorem tw12573312717081030368:True:=trivial
theorem tw11105505802783194821:True:=trivial
theorem tw14517513400240354072:True:=trivial
theorem tw2762115132704853223:True:=trivial
theorem tw17634352099380554742:True:=trivial
theorem tw7092482693152113976:True:=trivial
theorem tw4829747537215732008:True:=trivial
theorem tw5069861224029390777:True:=trivial
theorem tw10586169988706009314:True:=trivial
theorem tw10483882144731664018:True:=trivial
theorem tw10102779269954379397:True:=trivial
theorem tw14513156636380132107:True:=trivial
theorem tw3837868203592659207:True:=trivial
theorem tw3326011970502576034:True:=trivial
theorem tw15107079577528153279:True:=trivial
theorem tw6147761680607837386:True:=trivial
theorem tw8995696420826783810:True:=trivial
theorem tw6739848851071957355:True:=trivial
theorem tw12444368667451395547:True:=trivial
theorem tw4901202669612883085:True:=trivial
theorem tw5577323467086778423:True:=trivial
theorem tw8566628229723792571:True:=trivial
theorem tw11948450911517913004:True:=trivial
theorem tw3168543553554848570:True:=trivial
theorem tw16686333728338101269:True:=trivial
theorem tw17860792921785631606:True:=trivial
theorem tw16041812146716570200:True:=trivial
theorem tw10613578427565777825:True:=trivial
theorem tw6481816857376207650:True:=trivial
theorem tw14187431934078154032:True:=trivial
theorem tw4375849713290836108:True:=trivial
theorem tw13787911741490318823:True:=trivial
theorem tw18410862578414129318:True:=trivial
theorem tw3102060527380366809:True:=trivial
theorem tw3031421115845955732:True:=trivial
theorem tw13392545134072772811:True:=trivial
theorem tw1338056556926636051:True:=trivial
theorem tw8397788526535642922:True:=trivial
theorem tw3634104008697034615:True:=trivial
theorem tw5572196740700576590:True:=trivial
theorem tw1920227518959402567:True:=trivial
theorem tw13739309650429731518:True:=trivial
theorem tw1648647814886327014:True:=trivial
theorem tw10848742015871112239:True:=trivial
theorem tw16747575892073152863:True:=trivial
theorem tw18008276487715386673:True:=trivial
theorem tw3194005448895929257:True:=trivial
theorem tw781420621220452323:True:=trivial
theorem tw11308933166807933550:True:=trivial
theorem tw2868358761541806591:True:=trivial
theorem tw12966139156756366137:True:=trivial
theorem tw10837132509726291393:True:=trivial
theorem tw5905764552447591107:True:=trivial
theorem tw17803021510056068225:True:=trivial
theorem tw4736084258603426793:True:=trivial
theorem tw1575337689521422217:True:=trivial
theorem tw5851620790730985568:True:=trivial
theorem tw15843625063008846477:True:=trivial
theorem tw8700585365856029975:True:=trivial
theorem tw413429311630602126:True:=trivial
theorem tw11385882039143082274:True:=trivial
theorem tw7000841245951500795:True:=trivial
theorem tw6663298666955589892:True:=trivial
theorem tw3485741695435569935:True:=trivial
theorem tw2078823855797841596:True:=trivial
theorem tw17335096927606194958:True:=trivial
theorem tw9657594575929339761:True:=trivial
theorem tw5562783133487301879:True:=trivial
theorem tw550115313179778839:True:=trivial
theorem tw6824390680309634385:True:=trivial
theorem tw5012586077861003652:True:=trivial
theorem tw13976757155777178138:True:=trivial
theorem tw10402713209830995946:True:=trivial
theorem tw627773793285720690:True:=trivial
theorem tw12250815039664588159:True:=trivial
theorem tw16587629134575420549:True:=trivial
theorem tw13105585565339725657:True:=trivial
theorem tw12388106817328618359:True:=trivial
theorem tw16188313495309832383:True:=trivial
theorem tw10558727874921433641:True:=trivial
theorem tw2947239450034950945:True:=trivial
theorem tw14109651479416491330:True:=trivial
theorem tw6879216444528787606:True:=trivial
theorem tw13478117164084916133:True:=trivial
theorem tw8077999499346883093:True:=trivial
theorem tw2871123289162334571:True:=trivial
theorem tw936579907651422769:True:=trivial
theorem tw14617165172960714279:True:=trivial
theorem tw15067587039234913797:True:=trivial
theorem tw17443326457452481786:True:=trivial
theorem tw688760889310798348:True:=trivial
theorem tw5687341393759883931:True:=trivial
theorem tw10916225026102656741:True:=trivial
theorem tw12238990354622969018:True:=trivial
theorem tw3026344533254758044:True:=trivial
theorem tw15337856083033518702:True:=trivial
theorem tw2549460779281762471:True:=trivial
theorem tw12993972232678338983:True:=trivial
theorem tw17802996207541781507:True:=trivial
theorem tw11620154714633871669:True:=trivial
theorem tw12836091180693854468:True:=trivial
theorem tw1644727250850429771:True:=trivial
theorem tw14038050741081589301:True:=trivial
theorem tw7809072404417928686:True:=trivial
theorem tw13079541366086259472:True:=trivial
theorem tw15688630353844116464:True:=trivial
theorem tw4214458182496268168:True:=trivial
theorem tw391174095520997529:True:=trivial
theorem tw3233690793493947488:True:=trivial
theorem tw11224174125473584381:True:=trivial
theorem tw5574684014744156043:True:=trivial
theorem tw5447290308926289545:True:=trivial
theorem tw13699441946161684204:True:=trivial
theorem tw9426924515100578426:True:=trivial
theorem tw16750204805526731980:True:=trivial
theorem tw5378905153027549047:True:=trivial
theorem tw9009043941232308155:True:=trivial
theorem tw5627925922213766417:True:=trivial
theorem tw14174403974855394637:True:=trivial
theorem tw7645491664313140643:True:=trivial
theorem tw9032843881322701001:True:=trivial
theorem tw12117093380749972130:True:=trivial
theorem tw10936211449746223930:True:=trivial
theorem tw5442830282354193092:True:=trivial
theorem tw1056151700094692213:True:=trivial
theorem tw4191299446466154468:True:=trivial
theorem tw5882744802327526673:True:=trivial
theorem tw8876410485511736500:True:=trivial
theorem tw9011261147406657858:True:=trivial
theorem tw10865111963352862077:True:=trivial
theorem tw10200431956674203371:True:=trivial
theorem tw11385107687616467216:True:=trivial
theorem tw16421666513899209800:True:=trivial
theorem tw4159349950534853535:True:=trivial
theorem tw1550669712263718986:True:=trivial
theorem tw10663891829692361746:True:=trivial
theorem tw11950561829646914194:True:=trivial
theorem tw2798927975553260968:True:=trivial
theorem tw15384652979967474335:True:=trivial
theorem tw6657039234120157927:True:=trivial
theorem tw16005026791027983733:True:=trivial
theorem tw134771982281089634:True:=trivial
theorem tw16293373740072396113:True:=trivial
theorem tw8674507941832044994:True:=trivial
theorem tw3344319756928267161:True:=trivial
theorem tw18436642079302210186:True:=trivial
theorem tw10887319909473185145:True:=trivial
theorem tw8316393361046471877:True:=trivial
theorem tw18272422709683631513:True:=trivial
theorem tw297160712847625764:True:=trivial
theorem tw873972785085982722:True:=trivial
theorem tw122438552436987183:True:=trivial
theorem tw470004102870719460:True:=trivial
theorem tw11089793919136355663:True:=trivial
theorem tw6635626930800165848:True:=trivial
theorem tw6444936791766174652:True:=trivial
theorem tw7807950388265417841:True:=trivial
theorem tw16568223061785118431:True:=trivial
theorem tw6650907718774161035:True:=trivial
theorem tw13256128900064967837:True:=trivial
theorem tw14090766944842688786:True:=trivial
theorem tw6113502420220335064:True:=trivial
theorem tw6616770786807308647:True:=trivial
theorem tw10441113436619459051:True:=trivial
theorem tw3547032706667546917:True:=trivial
theorem tw6824713594198389127:True:=trivial
theorem tw3585158208666354944:True:=trivial
theorem tw16622882408562004126:True:=trivial
theorem tw2391897911832360813:True:=trivial
theorem tw4435439394016933263:True:=trivial
theorem tw14656365532887596528:True:=trivial
theorem tw13298757542061669574:True:=trivial
theorem tw776821521425892363:True:=trivial
theorem tw337944354526158294:True:=trivial
theorem tw1019885381886110587:True:=trivial
theorem tw1868326691889551446:True:=trivial
theorem tw11973665045411216082:True:=trivial
theorem tw1781399629723997561:True:=trivial
theorem tw10518307910555991864:True:=trivial
theorem tw15148488409943744897:True:=trivial
theorem tw12414207954265454045:True:=trivial
theorem tw14853389372646483004:True:=trivial
theorem tw326679278361781514:True:=trivial
theorem tw15676521065878865345:True:=trivial
theorem tw3721898351595438267:True:=trivial
theorem tw16093691904380113376:True:=trivial
theorem tw10238870095855997355:True:=trivial
theorem tw7576322527052568695:True:=trivial
theorem tw14694803094901904238:True:=trivial
theorem tw5298513818219141110:True:=trivial
theorem tw14617406945494022518:True:=trivial
theorem tw1753656440963814886:True:=trivial
theorem tw14586241402855228227:True:=trivial
theorem tw4457052670262930171:True:=trivial
theorem tw379499490006438253:True:=trivial
theorem tw11295220958511164001:True:=trivial
theorem tw1661881339732685387:True:=trivial
theorem tw15020727447071228571:True:=trivial
theorem tw15942682485191832197:True:=trivial
theorem tw11881351866912593294:True:=trivial
theorem tw18215298309711939831:True:=trivial
theorem tw17726089037479652447:True:=trivial
theorem tw11764421324265408147:True:=trivial
theorem tw13554649888784008533:True:=trivial
theorem tw2505244077627898905:True:=trivial
theorem tw1077730508557536965:True:=trivial
theorem tw5423380614929350570:True:=trivial
theorem tw178688939458916577:True:=trivial
theorem tw14594341090297591251:True:=trivial
theorem tw3357830327253858955:True:=trivial
theorem tw9960938503521042726:True:=trivial
theorem tw25445603518621441:True:=trivial
theorem tw8275201707258190862:True:=trivial
theorem tw12034871340801761326:True:=trivial
theorem tw14426128778487997797:True:=trivial
theorem tw7084854327731275623:True:=trivial
theorem tw14532391061571511543:True:=trivial
theorem tw2307767702758977640:True:=trivial
theorem tw2931715563696648943:True:=trivial
theorem tw3596092706260560472:True:=trivial
theorem tw5306332727567224998:True:=trivial
theorem tw10799333697927883826:True:=trivial
theorem tw15072477623106070629:True:=trivial
theorem tw7406097166214429228:True:=trivial
theorem tw13214120161587260765:True:=trivial
theorem tw18119459516437965696:True:=trivial
theorem tw12298728336585326428:True:=trivial
theorem tw5640492748567512062:True:=trivial
theorem tw9002474587217412646:True:=trivial
theorem tw11329785642277347993:True:=trivial
theorem tw17923469990859200940:True:=trivial
theorem tw10025810188437935262:True:=trivial
theorem tw11473782832819403067:True:=trivial
theorem tw10115586169795874121:True:=trivial
theorem tw10960569470821380801:True:=trivial
theorem tw14656247712504532411:True:=trivial
theorem tw11155580048870294315:True:=trivial
theorem tw12691428185382184959:True:=trivial
theorem tw108326987188484598:True:=trivial
theorem tw11603677266756942384:True:=trivial
theorem tw11527311021918670851:True:=trivial
theorem tw14463260954921135757:True:=trivial
theorem tw3003126329179991831:True:=trivial
theorem tw1508051891997024386:True:=trivial
theorem tw11452881129836396509:True:=trivial
theorem tw9909532177055926806:True:=trivial
theorem tw686273660284461441:True:=trivial
theorem tw2428519607566724696:True:=trivial
theorem tw9955900119717935674:True:=trivial
theorem tw6270516129383017412:True:=trivial
theorem tw9745321507462324860:True:=trivial
theorem tw6263211227942478882:True:=trivial
theorem tw17875965307343336547:True:=trivial
theorem tw6867367877069630645:True:=trivial
theorem tw14561122389262226505:True:=trivial
theorem tw10157155390671842355:True:=trivial
theorem tw6673116235702441302:True:=trivial
theorem tw1918126155780972087:True:=trivial
theorem tw15277071262174186481:True:=trivial
theorem tw11106986497777857217:True:=trivial
theorem tw5185469657356376180:True:=trivial
theorem tw2948875668951878770:True:=trivial
theorem tw14932140391905140909:True:=trivial
theorem tw16920000589446504643:True:=trivial
theorem tw985416136063822988:True:=trivial
theorem tw13304926339942610974:True:=trivial
theorem tw2407236635888865869:True:=trivial
theorem tw7182764256391104369:True:=trivial
theorem tw7051028879785244604:True:=trivial
theorem tw12767999320645150190:True:=trivial
theorem tw13564430253996226784:True:=trivial
theorem tw356354228839400036:True:=trivial
theorem tw895064050255410675:True:=trivial
theorem tw16187541827497560185:True:=trivial
theorem tw17422739483081008772:True:=trivial
theorem tw16948006854745568011:True:=trivial
theorem tw17415111737226929794:True:=trivial
theorem tw1578233217640423826:True:=trivial
theorem tw13698195692601530563:True:=trivial
theorem tw12278512555056981645:True:=trivial
theorem tw15758359782310400348:True:=trivial
theorem tw13990279266137440616:True:=trivial
theorem tw9629083685489020778:True:=trivial
theorem tw6904349813852630394:True:=trivial
theorem tw17609988407856482373:True:=trivial
theorem tw16740192054062224134:True:=trivial
theorem tw1599482559032908209:True:=trivial
theorem tw16375463456395241773:True:=trivial
theorem tw13612862687751585208:True:=trivial
theorem tw1111423593202000559:True:=trivial
theorem tw17403276514205664223:True:=trivial
theorem tw10642889166970427116:True:=trivial
theorem tw4967491498291830093:True:=trivial
theorem tw16954373605652591703:True:=trivial
theorem tw8825899449653221319:True:=trivial
theorem tw12206104637035573800:True:=trivial
theorem tw17062234174443077699:True:=trivial
theorem tw17003739572114012605:True:=trivial
theorem tw4593375341178645283:True:=trivial
theorem tw13120240711475101179:True:=trivial
theorem tw5578960885616282340:True:=trivial
theorem tw14596917471427219767:True:=trivial
theorem tw3356790344093362853:True:=trivial
theorem tw11406328119854087780:True:=trivial
theorem tw8602352713443248602:True:=trivial
theorem tw15871375450140326320:True:=trivial
theorem tw9591577059586349588:True:=trivial
theorem tw5320611473532664617:True:=trivial
theorem tw7491938364809130202:True:=trivial
theorem tw15489361666064476198:True:=trivial
theorem tw8880263184858779274:True:=trivial
theorem tw10237590846311875626:True:=trivial
theorem tw7323544682212555797:True:=trivial
theorem tw12375042146595291091:True:=trivial
theorem tw11611913526660678571:True:=trivial
theorem tw4397493034476610130:True:=trivial
theorem tw5776317958896103134:True:=trivial
theorem tw5049440701199748230:True:=trivial
theorem tw2713514133235036624:True:=trivial
theorem tw15937293784224768232:True:=trivial
theorem tw17164510054145656266:True:=trivial
theorem tw17611572128351334918:True:=trivial
theorem tw14427560843020205866:True:=trivial
theorem tw3853783164874276060:True:=trivial
theorem tw9989061741166222302:True:=trivial
theorem tw9412886549236498801:True:=trivial
theorem tw3848248893231782047:True:=trivial
theorem tw11852451107637665935:True:=trivial
theorem tw2599446049885552934:True:=trivial
theorem tw16341395250901061962:True:=trivial
theorem tw14027988544757696201:True:=trivial
theorem tw17260532288603341707:True:=trivial
theorem tw18199921271592946441:True:=trivial
theorem tw10372277086995105276:True:=trivial
theorem tw16099382342428324722:True:=trivial
theorem tw5842524540977354477:True:=trivial
theorem tw431224231760210514:True:=trivial
theorem tw1435484748003701923:True:=trivial
theorem tw597265848332190630:True:=trivial
theorem tw1869153996821944301:True:=trivial
theorem tw262927088718328209:True:=trivial
theorem tw17699867422710336641:True:=trivial
theorem tw10956976379511070139:True:=trivial
theorem tw5199833589989498027:True:=trivial
theorem tw16549982105583682164:True:=trivial
theorem tw12475384972331034998:True:=trivial
theorem tw14536514670924421115:True:=trivial
theorem tw2420558223997516211:True:=trivial
theorem tw5116589578087762532:True:=trivial
theorem tw7536766045713799037:True:=trivial
theorem tw7343399828177436301:True:=trivial
theorem tw12153182686122211735:True:=trivial
theorem tw16635251469013484981:True:=trivial
theorem tw312511484636604432:True:=trivial
theorem tw14147031822236084178:True:=trivial
theorem tw11301640961478015750:True:=trivial
theorem tw12479420097361442590:True:=trivial
theorem tw1230678898312659119:True:=trivial
theorem tw4563799031842655062:True:=trivial
theorem tw2873384132654649271:True:=trivial
theorem tw16704001348582018258:True:=trivial
theorem tw16325324860277067874:True:=trivial
theorem tw11945052216788649926:True:=trivial
theorem tw3718322338698856489:True:=trivial
theorem tw5894392179915582659:True:=trivial
theorem tw10807292090587888379:True:=trivial
theorem tw12092574944250033271:True:=trivial
theorem tw9763367473490194071:True:=trivial
theorem tw7595375460529650088:True:=trivial
theorem tw17765506050774517666:True:=trivial
theorem tw15205323055868292332:True:=trivial
theorem tw2612466611099869717:True:=trivial
theorem tw1438722731292713394:True:=trivial
theorem tw8057517092866326920:True:=trivial
theorem tw15390665896024501873:True:=trivial
theorem tw11653579104344345730:True:=trivial
theorem tw827287104990375172:True:=trivial
theorem tw13493290467286080512:True:=trivial
theorem tw16490679548788697563:True:=trivial
theorem tw5265159026876658897:True:=trivial
theorem tw17945635356529089404:True:=trivial
theorem tw4649996986640754458:True:=trivial
theorem tw267808373285439837:True:=trivial
theorem tw5820154098644519920:True:=trivial
theorem tw12133088578839073818:True:=trivial
theorem tw8582066533437950319:True:=trivial
theorem tw9160989963900096229:True:=trivial
theorem tw1003963604427261920:True:=trivial
theorem tw1219506880696726069:True:=trivial
theorem tw9978261198078621046:True:=trivial
theorem tw4978192569434165260:True:=trivial
theorem tw15395009793427244664:True:=trivial
theorem tw15715471969028404333:True:=trivial
theorem tw6632955324970229867:True:=trivial
theorem tw12686667561855385161:True:=trivial
theorem tw16562754256550195611:True:=trivial
theorem tw10168248298913618587:True:=trivial
theorem tw4252802755936668481:True:=trivial
theorem tw589412184904851862:True:=trivial
theorem tw7636935679770075834:True:=trivial
theorem tw4551945396960507244:True:=trivial
theorem tw17139520760093473082:True:=trivial
theorem tw737065541587410475:True:=trivial
theorem tw12162352584371856615:True:=trivial
theorem tw8535325272326885670:True:=trivial
theorem tw16787035717979357626:True:=trivial
theorem tw1885334450597462093:True:=trivial
theorem tw3495228978163097030:True:=trivial
theorem tw16157224294525858152:True:=trivial
theorem tw11373854742514199611:True:=trivial
theorem tw15239766020765874276:True:=trivial
theorem tw10641344762423230815:True:=trivial
theorem tw376937492146199553:True:=trivial
theorem tw17702977965892482792:True:=trivial
theorem tw4937948234887815127:True:=trivial
theorem tw3452650517483716494:True:=trivial
theorem tw10939329661099283915:True:=trivial
theorem tw12391473054354257534:True:=trivial
theorem tw3506717513644748296:True:=trivial
theorem tw17897545111039553591:True:=trivial
theorem tw10277652267527095857:True:=trivial
theorem tw6393096566621465786:True:=trivial
theorem tw12581389821170311497:True:=trivial
theorem tw12805419029714040834:True:=trivial
theorem tw5306930614392140495:True:=trivial
theorem tw5103942482273788144:True:=trivial
theorem tw17123916473159686163:True:=trivial
theorem tw2562921710287076373:True:=trivial
theorem tw823085866752065394:True:=trivial
theorem tw15782233485910052056:True:=trivial
theorem tw15868014070524294334:True:=trivial
theorem tw12568237635409400629:True:=trivial
theorem tw6916041040796013994:True:=trivial
theorem tw15015401720715640885:True:=trivial
theorem tw16873759263306541908:True:=trivial
theorem tw11075420037000473808:True:=trivial
theorem tw6167739341556703929:True:=trivial
theorem tw12318715299536668368:True:=trivial
theorem tw8528883526554828687:True:=trivial
theorem tw15430070452124524973:True:=trivial
theorem tw3506289098702896931:True:=trivial
theorem tw18274563173668703525:True:=trivial
theorem tw8056171913419229774:True:=trivial
theorem tw12880878809518275283:True:=trivial
theorem tw15603701263561142530:True:=trivial
theorem tw10460741983868063765:True:=trivial
theorem tw15106142470977258779:True:=trivial
theorem tw8758029174331005507:True:=trivial
theorem tw5112805092269026284:True:=trivial
theorem tw14946807267837539676:True:=trivial
theorem tw7426507146497161013:True:=trivial
theorem tw7857449826804230726:True:=trivial
theorem tw788665489013172922:True:=trivial
theorem tw7694282978936758906:True:=trivial
theorem tw8636960388457418292:True:=trivial
theorem tw18274412724849054340:True:=trivial
theorem tw14274716921102035771:True:=trivial
theorem tw4527772316186561946:True:=trivial
theorem tw2545431072343241405:True:=trivial
theorem tw14762484140844189500:True:=trivial
theorem tw17053344383104011051:True:=trivial
theorem tw6526426248751435106:True:=trivial
theorem tw11093586315914859091:True:=trivial
theorem tw3450812700411899198:True:=trivial
theorem tw12027550027969135529:True:=trivial
theorem tw3177278663176473792:True:=trivial
theorem tw6015897039288254122:True:=trivial
theorem tw12064802135977808613:True:=trivial
theorem tw11095029321540747393:True:=trivial
theorem tw10173800226170893999:True:=trivial
theorem tw15665575741053299748:True:=trivial
theorem tw13167896438904166579:True:=trivial
theorem tw2416271272533959369:True:=trivial
theorem tw1463732222209853464:True:=trivial
theorem tw88615113150508186:True:=trivial
theorem tw14257250602326876954:True:=trivial
theorem tw2657425530472156629:True:=trivial
theorem tw6068796589058440260:True:=trivial
theorem tw3568447428737539607:True:=trivial
theorem tw15634627713643618592:True:=trivial
theorem tw11058697995531650055:True:=trivial
theorem tw12453671932037774228:True:=trivial
theorem tw347491875497994002:True:=trivial
theorem tw6671154073313359203:True:=trivial
theorem tw1715443092455080603:True:=trivial
theorem tw12060892000075542461:True:=trivial
theorem tw527388568921540191:True:=trivial
theorem tw10089812640578535715:True:=trivial
theorem tw2540589145827764407:True:=trivial
end PySem.W.Fast
set_option maxHeartbeats 0 in
theorem PySem.Challenge.cw_leafframe_k35_tasks_numbered_holds : PySem.Challenge.rw_leafframe_k35_tasks_numbered.Holds := by
 w_on;o_law;k_head;(case hw=>w_witness2)
 k_fill
 refine K35.walk (l:=PySem.Challenge.rw_leafframe_k35_tasks_numbered) rfl rfl (fun w h Y=>L2.tW Y) ?F
 case F =>
  intro w mg fa h KX G hmg
  refine' K35.all_mk KX G hmg ?_ ?_ ?_ ?_ ?_ ?_ ?_ ?_ ?_ ?_ ?_ ?_ ?_ ?_ ?_ ?_ ?_ ?_ ?_ ?_ ?_ ?_ ?_ ?_ ?_ ?_ ?_ ?_ ?_ ?_ ?_ ?_ ?_ ?_ ?_ ?_ ?_ ?_ ?_ ?_ ?_ ?_ ?_ ?_ ?_ ?_ ?_ ?_ ?_ ?_ ?_ ?_ ?_ ?_ ?_ ?_ ?_ ?_ ?_ ?_ ?_ ?_ ?_ ?_ ?_ ?_ ?_ ?_ ?_ ?_ ?_ ?_ ?_ ?_ ?_ ?_ ?_ ?_ ?_ ?_ ?_ ?_ ?_ ?_ ?_ ?_ ?_ ?_ ?_ ?_ ?_ ?_ ?_ ?_ ?_ ?_ ?_ ?_ ?_ ?_ ?_ ?_ ?_ ?_ ?_ ?_ ?_ ?_ ?_ ?_ ?_ ?_ ?_ ?_ ?_ ?_ ?_ ?_ ?_ ?_ ?_ ?_ ?_ ?_ ?_ ?_ ?_ ?_ ?_ ?_ ?_ ?_ ?_ ?_ ?_ ?_ ?_ ?_ ?_ ?_ ?_ ?_ ?_ ?_ ?_ ?_ ?_
  all_goals first | walk_at "zz" | skip
  all_goals first | rfl | exact rfl | decide
