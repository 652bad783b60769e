import PyProof.Rows.All
import Wide.All
import Wide.FinOn
import Lean
import PyProof.EqAt
import PyProof.EqKinds
import PyProof.TupleCall
import PyProof.StationsW
import PyProof.ExcClass2
import PyProof.ExcArgs
import PyProof.ExcArgsOwn
import PyProof.CompFree
import PyProof.CompMap
import PyProof.CompUse
import KE.LcSums
import KE.KUnpack
import KE.KDictSum
import KE.KDictLaws
import PyProof.Rows.BitMore
import KE.BitLaws
import KE.KBits
import PyProof.LongRange
import PyProof.ListRange
import KE.IntBitsLaws
import KE.KRevIter
import PyProof.Rows.Tup
import PyProof.CollectIter
import PyProof.TupleOfGen
import PyProof.DictWalks
import PyProof.StrWalks
import PyProof.ZipIter
import PyProof.TupleIter
import PyProof.WalksMore
import KE.KTurns
import PyProof.Rows.SortStr
import KE.KSortTup
import PyProof.Rows.StrClose5
import PyProof.Rows.StrClose3
import PyProof.ExcInit
import PyProof.InstStore
import PyProof.InstLoad
import PyProof.InstStoreFacts
import KE.KDictOf
import PyProof.FactsAll.range_2
import OpenK.KLine
import KE.RegKIsAll
import PySem.Challenge.RW_leafframe_k36_map_unmap_rights
set_option Elab.async false
set_option linter.all false
set_option maxRecDepth 100000
namespace L2
open PySem PySem.Spec PyProof.Rows
abbrev Key:=Sum Int Str
def wF:Key->Value->Bool
  | .inl k,v=>Value.isInt k v
  | .inr x,v=>Value.isStrOf x v
def J3 (w:World): Key->Int
  | .inl k=>hashInt k
  | .inr x=>hashStr w x
theorem cD:∀{k:Key} {v:Value},wF k v=true->(∃i t,k=Sum.inl i/\v=Value.int i t)\/(∃x t,k=Sum.inr x/\v=Value.str x t)
  | .inl i,v,h=>by
    obtain⟨t,e⟩:=Value.isInt_shape (k:=i) (v:=v) h
    exact .inl ⟨i,t,rfl,e⟩
  | .inr x,v,h=>by
    obtain⟨t,e⟩:=Value.isStrOf_shape (x:=x) (v:=v) h
    exact .inr ⟨x,t,rfl,e⟩
theorem CN (i:Int)(t:Tok): wF (.inl i) (.int i t)=true:=by simp[wF,Value.isInt]
theorem CO (x:Str)(t:Tok): wF (.inr x) (.str x t)=true:=by simp[wF,Value.isStrOf]
theorem Hv (a b:Int): decide ((Sum.inl a:Key)=Sum.inl b)=(a==b):=by
  by_cases e:a=b
  · subst e;simp
  · have h:¬(Sum.inl a:Key)=Sum.inl b:=fun q=>e (Sum.inl.inj q)
    rw[decide_eq_false h]
    exact(beq_eq_false_iff_ne.mpr e).symm
theorem Hw (a b:Str): decide ((Sum.inr a:Key)=Sum.inr b)=decide (a=b):=by
  by_cases e:a=b
  · subst e;simp
  · have h:¬(Sum.inr a:Key)=Sum.inr b:=fun q=>e (Sum.inr.inj q)
    rw[decide_eq_false h,decide_eq_false e]
theorem Hx (a:Int)(b:Str): decide ((Sum.inl a:Key)=Sum.inr b)=false:=decide_eq_false (fun q=>nomatch q)
theorem Hy (a:Str)(b:Int): decide ((Sum.inr a:Key)=Sum.inl b)=false:=decide_eq_false (fun q=>nomatch q)
def cx (prog:Program)(w:World): PySem.KeyKind prog w Key where
  is:=wF
  hash:=J3 w
  inj:=fun v a b ha hb=>by
    rcases cD ha with ⟨i,t,rfl,rfl⟩ | ⟨x,t,rfl,rfl⟩
    · rcases cD hb with ⟨j,u,rfl,e⟩ | ⟨y,u,rfl,e⟩
      · injection e with e1 _;rw[e1]
      · exact nomatch e
    · rcases cD hb with ⟨j,u,rfl,e⟩ | ⟨y,u,rfl,e⟩
      · exact nomatch e
      · injection e with e1 _;rw[e1]
  byValue:=fun k v h=>by
    rcases cD h with ⟨i,t,rfl,rfl⟩ | ⟨x,t,rfl,rfl⟩<;>rfl
  pyHash:=fun hv h=>by
    rcases cD hv with ⟨i,t,rfl,rfl⟩ | ⟨x,t,rfl,rfl⟩
    · exact wpAny_pyHash_int h
    · exact wpAny_pyHash_str h
  eqBool:=fun hu hv h=>by
    rcases cD hu with ⟨i,t,rfl,rfl⟩ | ⟨x,t,rfl,rfl⟩
    · rcases cD hv with ⟨j,u,rfl,rfl⟩ | ⟨y,u,rfl,rfl⟩
      · rw[Hv] at h;exact wpAny_eqBool_int h
      · rw[Hx] at h;exact SeqAt.EqAt.int_str i t y u _ _ _ _ h
    · rcases cD hv with ⟨j,u,rfl,rfl⟩ | ⟨y,u,rfl,rfl⟩
      · rw[Hy] at h;exact SeqAt.EqAt.str_int x t j u _ _ _ _ h
      · rw[Hw] at h;exact wpAny_eqBool_str h
  «strs» := fun k x t v h=>by
    rcases cD h with ⟨i,u,rfl,e⟩ | ⟨y,u,rfl,e⟩
    · exact nomatch e
    · injection e with e1 _
      subst e1
      cases v<;>rfl
theorem y4 (prog:Program)(w:World)(i:Int)(t:Tok): (cx prog w).is (.inl i) (.int i t)=true:=CN i t
theorem y6 (prog:Program)(w:World)(x:Str)(t:Tok): (cx prog w).is (.inr x) (.str x t)=true:=CO x t
end L2
namespace L2
open PySem PySem.Spec PyProof.Rows
inductive V where
  | non | bl (b:Bool) | int (i:Int) | str (x:Str) | byt (b:Array UInt8) | flt (b:UInt64) | ref (a:Addr) | ty (n:String)
  deriving DecidableEq
def RelV:V->Value->Prop
  | .non,u=>u=Value.none
  | .bl b,u=>u=Value.bool b
  | .int i,u=>∃t,u=Value.int i t
  | .str x,u=>∃t,u=Value.str x t
  | .byt b,u=>∃t,u=Value.bytes b t
  | .flt b,u=>∃t,u=Value.float b t
  | .ref a,u=>u=Value.ref a
  | .ty n,u=>u=Value.type n
abbrev Vals:List V->List Value->Prop:=Paired RelV
theorem Vals.length {xs:List V}{us:List Value}(r:Vals xs us): xs.length=us.length:=Paired.length r
theorem Vals.get:∀{xs:List V} {us:List Value} {i:Nat} {x:V},Vals xs us->xs[i]?=some x->∃u,us[i]?=some u/\RelV x u
  | _,_,_,_,.nil,e=>by simp at e
  | _,_,0,_,.cons r _,e=>by simp at e;subst e;exact⟨_,rfl,r⟩
  | _,_,i+1,x,.cons _ t,e=>by
    obtain⟨u,h1,h2⟩:=Vals.get (i:=i) (x:=x) t (by simpa using e)
    exact⟨u,by simpa using h1,h2⟩
theorem Vals.append:∀{xs ys:List V} {us ws:List Value},Vals xs us->Vals ys ws->Vals (xs++ys) (us++ws)
  | _,_,_,_,.nil,s=>s
  | _,_,_,_,.cons r t,s=>.cons r (Vals.append t s)
theorem Vals.take:∀{xs:List V} {us:List Value} (n:Nat),Vals xs us->Vals (xs.take n) (us.take n)
  | _,_,0,_=>.nil
  | _,_,_+1,.nil=>.nil
  | _,_,n+1,.cons r t=>.cons r (Vals.take n t)
theorem Vals.drop:∀{xs:List V} {us:List Value} (n:Nat),Vals xs us->Vals (xs.drop n) (us.drop n)
  | _,_,0,r=>r
  | _,_,_+1,.nil=>.nil
  | _,_,n+1,.cons _ t=>Vals.drop n t
def fJ:Option V->Option Value->Prop
  | some v,some u=>RelV v u
  | none,none=>True
  | _,_=>False
def KV {κ:Type}: List (κ×V)->List (κ×Value)->Prop:=Paired fun (p:κ×V) (q:κ×Value)=>p.1=q.1/\RelV p.2 q.2
def kV:Key->V
  | .inl i=>.int i
  | .inr x=>.str x
inductive HO where
  | lst (xs:List V)
  | tup (xs:List V)
  | dK (kvs:List (Key×V)) | dT (kvs:List (List Key×V))
  | set (S:Int->Bool) (n:Nat)
  | ins (C dx:Addr) (fs:List (Str×V))
  | own (x:Addr)
  | xd (fs:List (Str×V))
  | met (f x:Addr)
  | rng (lo hi:Int)
  | frz (o:Obj) (u:HO)
  | tbl (ps:Array Value)
  | ext (φ:Heap->Prop)
abbrev Hp:=Addr->Option HO
def upd (H:Hp)(a:Addr)(o:HO): Hp:=fun b=>if b=a then some o else H b
theorem aq {H:Hp}{a:Addr}{o:HO}: upd H a o a=some o:=by unfold upd;rw[if_pos rfl]
theorem av {H:Hp}{a b:Addr}{o:HO}(h:b≠a): upd H a o b=H b:=by unfold upd;rw[if_neg h]
theorem ip {H:Hp}{a:Addr}{o u:HO}: upd (upd H a o) a u=upd H a u:=by
  funext b;unfold upd;split<;>rfl
theorem tF {H:Hp}{a b:Addr}{o u:HO}(h:H a=some o)(h':H b=some u)(d:o≠u): a≠b:=by
  intro e;subst e;rw[h] at h';exact d (Option.some.inj h')
theorem az {H:Hp}{a b:Addr}{o:HO}(h:H a=some o)(h':H b=none): a≠b:=by
  intro e;subst e;rw[h] at h';cases h'
section
variable (P:Program)(w:World)
def b4 (H:Hp)(h:Heap)(a:Addr): HO->Prop
  | .lst xs=>xs.length<=sizeLine/\∃(its:List Value) (n:Nat),Vals xs its/\h.get? a=some { cls:=.type "list",data:=.seq its.toArray n }
  | .tup xs=>xs.length<=sizeLine/\∃its:List Value,Vals xs its/\IsTup h a its.toArray
  | .dK kvs=>kvs.length<=sizeLine/\(a==sysModules)=false/\∃vs,KV kvs vs/\h.DictOf (cx P w) a vs
  | .dT kvs=>kvs.length<=sizeLine/\(a==sysModules)=false/\∃xs:List (List Key×Addr×Value),
      Paired (fun (p:List Key×V) (q:List Key×Addr×Value)=>p.1=q.1/\H q.2.1=some (.tup (p.1.map kV))/\RelV p.2 q.2.2) kvs xs ∧
      ∃o es ep,h.get? a=some o/\o.ExactDict/\o.data=.dict es ep/\es.toList=xs.map (entryOfKey (tupleKind (cx P w)))/\(xs.map (·.1)).Nodup
  | .set S n=>h.SetOf (intKind P w) a S n
  | .ins C dx fs=>H dx=some (.own a)/\fs.length<=1000/\dx≠a/\h.get? a=some (PySem.W.instObj C dx) ∧
      ∃mA,h.Ns1 dx mA/\(∀f,fJ (fs.lookup f) (mA f))/\PySem.Within mA (fs.map (·.1))
  | .own _=>∃o,h.get? a=some o
  | .xd fs=>∃mA,h.Ns1 a mA/\∀f,fJ (fs.lookup f) (mA f)
  | .rng lo hi=>∃t u v,h.get? a=some { cls:=.type "range",data:=.fields #[.int lo t,.int hi u,.int 1 v] }
  | .frz o u=>h.get? a=some o/\b4 H h a u
  | .tbl ps=>h.get? a=some { cls:=.none,data:=.fields ps }
  | .met f x=>h.get? a=some (PySem.W.methodObj (.ref f) (.ref x))
  | .ext φ=>φ h/\(∃o,h.get? a=some o)/\∀h1 h2:Heap,φ h1->(∀o,h1.get? a=some o->h2.get? a=some o)->φ h2
def HOk (H:Hp)(h:Heap): Prop:=∀a o,H a=some o->b4 P w H h a o
end
section
variable {P:Program}{w:World}{H H':Hp}{h h':Heap}{a:Addr}{o:HO}
theorem b4.lt (x:b4 P w H h a o): a < h.objs.size:=by
  cases o with
  | lst xs=>obtain⟨_,_,_,_,e⟩:=x;exact Heap.lt_size e
  | tup xs=>obtain⟨_,_,_,p⟩:=x;exact p.lt
  | dK kvs=>obtain⟨_,_,_,_,o,_,_,e,_⟩:=x;exact Heap.lt_size e
  | dT kvs=>obtain⟨_,_,_,_,o,_,_,e,_⟩:=x;exact Heap.lt_size e
  | set S n=>obtain⟨o,_,_,_,e,_⟩:=x;exact Heap.lt_size e
  | ins C dx fs=>obtain⟨_,_,_,e,_⟩:=x;exact Heap.lt_size e
  | own y=>obtain⟨_,e⟩:=x;exact Heap.lt_size e
  | xd fs=>obtain⟨_,⟨_,_,_,e,_⟩,_⟩:=x;exact Heap.lt_size e
  | rng lo hi=>obtain⟨_,_,_,e⟩:=x;exact Heap.lt_size e
  | frz ob u=>obtain⟨e,_⟩:=x;exact Heap.lt_size e
  | tbl ps=>exact Heap.lt_size (show h.get? a=some _ from x)
  | met f y=>exact Heap.lt_size (show h.get? a=some _ from x)
  | ext φ=>obtain⟨_,⟨_,e⟩,_⟩:=x;exact Heap.lt_size e
theorem Paired.Hz {α β:Type}{F G:α->β->Prop}: ∀{l₁:List α} {l₂:List β},Paired F l₁ l₂->(∀a b,F a b->G a b)->Paired G l₁ l₂
  | _,_,.nil,_=>.nil
  | _,_,.cons r t,f=>.cons (f _ _ r) (Paired.Hz t f)
theorem b4.stay (x:b4 P w H h a o)(k:∀b u,(b=a\/H b=some (.own a))->h.get? b=some u->h'.get? b=some u)
    (ho:∀b,H b=some (.own a)->H' b=some (.own a)) (ht:∀b xs,H b=some (.tup xs)->H' b=some (.tup xs)):b4 P w H' h' a o:=by
  induction o with
  | lst xs=>obtain⟨z,its,n,r,e⟩:=x;exact⟨z,its,n,r,k _ _ (.inl rfl) e⟩
  | tup xs=>obtain⟨z,its,r,ob,e,c⟩:=x;exact⟨z,its,r,ob,k _ _ (.inl rfl) e,c⟩
  | dK kvs=>obtain⟨z,y,vs,r,ob,es,ep,e,c⟩:=x;exact⟨z,y,vs,r,ob,es,ep,k _ _ (.inl rfl) e,c⟩
  | dT kvs =>
    obtain⟨z,y,xs,r,ob,es,ep,e,c⟩:=x
    exact⟨z,y,xs,Paired.Hz r fun p q z=>⟨z.1,ht _ _ z.2.1,z.2.2⟩,ob,es,ep,k _ _ (.inl rfl) e,c⟩
  | set S n=>obtain⟨ob,es,ep,t,e,c⟩:=x;exact⟨ob,es,ep,t,k _ _ (.inl rfl) e,c⟩
  | ins C dx fs =>
    obtain⟨d,z,ne,e,mA,⟨od,es,ep,e2,c⟩,r⟩:=x
    exact⟨ho _ d,z,ne,k _ _ (.inl rfl) e,mA,⟨od,es,ep,k _ _ (.inr d) e2,c⟩,r⟩
  | own y=>obtain⟨ob,e⟩:=x;exact⟨ob,k _ _ (.inl rfl) e⟩
  | xd fs=>obtain⟨mA,⟨od,es,ep,e,c⟩,r⟩:=x;exact⟨mA,⟨od,es,ep,k _ _ (.inl rfl) e,c⟩,r⟩
  | rng lo hi=>obtain⟨t,u,v,e⟩:=x;exact⟨t,u,v,k _ _ (.inl rfl) e⟩
  | frz ob u ih=>obtain⟨e,q⟩:=x;exact⟨k _ _ (.inl rfl) e,ih q⟩
  | tbl ps =>
    have e:h.get? a=some { cls:=.none,data:=.fields ps }:=x
    show h'.get? a=some { cls:=.none,data:=.fields ps }
    exact k a _ (.inl rfl) e
  | met f y =>
    have e:h.get? a=some (PySem.W.methodObj (.ref f) (.ref y)):=x
    show h'.get? a=some (PySem.W.methodObj (.ref f) (.ref y))
    exact k a _ (.inl rfl) e
  | ext φ=>obtain⟨p,⟨o,e⟩,st⟩:=x;exact⟨st _ _ p fun o q=>k _ _ (.inl rfl) q,⟨o,k _ _ (.inl rfl) e⟩,st⟩
theorem HOk.lt (x:HOk P w H h)(e:H a=some o): a < h.objs.size:=(x a o e).lt
theorem HOk.fresh (x:HOk P w H h)(e:h.objs.size<=a): H a=none:=by
  cases q:H a with
  | none=>rfl
  | some u=>exact absurd (Nat.lt_of_lt_of_le (x.lt q) e) (Nat.lt_irrefl _)
theorem HOk.kept (x:HOk P w H h)(k:∀b u,h.get? b=some u->h'.get? b=some u): HOk P w H h':=fun a o e =>
  (x a o e).stay (fun b u _ q=>k b u q) (fun _ q=>q) fun _ _ q=>q
theorem HOk.laid (x:HOk P w H h)(k:∀b u,h.get? b=some u->h'.get? b=some u)(hp:h.objs.size<=a)(new:b4 P w (upd H a o) h' a o): HOk P w (upd H a o) h':=fun b u e=>by
  have hn:=x.fresh hp
  by_cases hb:b=a
  · subst hb;rw[aq] at e;cases e;exact new
  · rw[av hb] at e
    exact(x b u e).stay (fun c v _ q=>k c v q) (fun c q=>by rw[av (az q hn)];exact q) fun c xs q=>by rw[av (az q hn)];exact q
end
def Rd (H:Hp)(a:Addr)(u:HO): Prop:=H a=some u\/∃o,H a=some (.frz o u)
theorem Rd.of {H:Hp}{a:Addr}{u:HO}(h:H a=some u): Rd H a u:=.inl h
theorem Rd.ok {P:Program}{w:World}{H:Hp}{h:Heap}{a:Addr}{u:HO}(r:Rd H a u)(x:HOk P w H h): b4 P w H h a u:=by
  rcases r with r | ⟨o,r⟩
  · exact x a u r
  · obtain⟨_,q⟩:=x a _ r
    exact q
def Mut:Option HO->Prop
  | some (.lst _)=>True
  | some (.dK _)=>True
  | some (.dT _)=>True
  | some (.set _ _)=>True
  | some (.ins _ _ _)=>True
  | some (.ext _)=>True
  | _=>False
section
variable {P:Program}{w:World}{H:Hp}{h h':Heap}{x e:Addr}{o':HO}
theorem HOk.write (ok:HOk P w H h)(mu:Mut (H x))(he:e=x\/H e=some (.own x))(k:∀b u,b≠e->h.get? b=some u->h'.get? b=some u)(heo:∃u,h'.get? e=some u)
    (new:b4 P w (upd H x o') h' x o'):HOk P w (upd H x o') h':=fun b u q=>by
  have IV:∀c y,H c=some (.own y)->c≠x:=fun c y r z=>by subst z;rw[r] at mu;exact mu
  have J_:∀c xs,H c=some (.tup xs)->c≠x:=fun c xs r z=>by subst z;rw[r] at mu;exact mu
  by_cases hb:b=x
  · subst hb;rw[aq] at q;cases q;exact new
  · rw[av hb] at q
    by_cases hbe:b=e
    · have q':H b=some (.own x):=by
        rcases he with z | z
        · exact absurd (hbe.trans z) hb
        · rw[hbe];exact z
      rw[q] at q';cases q'
      obtain⟨v,hv⟩:=heo
      exact⟨v,by rw[hbe];exact hv⟩
    · refine(ok b u q).stay (fun c v hc r=>k c v ?_ r) (fun c r=>by rw[av (IV c b r)];exact r) fun c xs r=>by rw[av (J_ c xs r)];exact r
      rcases hc with rfl | hc
      · exact hbe
      · rintro rfl
        rcases he with z | z
        · exact IV c b hc z
        · rw[hc] at z;cases z;exact hb rfl
end
structure Un (fs ex:List Addr)(H H':Hp)(h h':Heap): Prop where
  keep:∀b o,h.get? b=some o->H b=none->b∉fs->b∉ex->h'.get? b=some o
  slot:∀b o,h.get? b=some o->H b=none->b∈fs->b∉ex->∃sl,h'.get? b=some { o with slots:=sl }
  free:∀b o,h.get? b=some o->H b=none->b∉ex->H' b=none
  there:∀b o,h.get? b=some o->b∉ex->∃o',h'.get? b=some o'
  tups:∀b xs,H b=some (.tup xs)->H' b=some (.tup xs)
  nW:∀b o u,H b=some (.frz o u)->H' b=some (.frz o u)
  oN:∀b ps,H b=some (.tbl ps)->∃more,H' b=some (.tbl (ps++more))
section
variable {fs fs' ex ex':List Addr}{H H1 H2:Hp}{h h1 h2 h':Heap}{a x e:Addr}{o:HO}
theorem Un.any (u:Un fs ex H H1 h h1){b:Addr}{ob:Obj}(q:h.get? b=some ob)(n:H b=none)(hx:b∉ex): ∃sl,h1.get? b=some { ob with slots:=sl }:=by
  by_cases hb:b∈fs
  · exact u.slot b ob q n hb hx
  · exact⟨ob.slots,u.keep b ob q n hb hx⟩
theorem Un.kept (k:∀b u,h.get? b=some u->h'.get? b=some u): Un fs ex H H h h' :=
  ⟨fun b ob q _ _ _=>k b ob q,fun b ob q _ _ _=>⟨ob.slots,k b ob q⟩,fun _ _ _ n _=>n,fun b ob q _=>⟨ob,k b ob q⟩,fun _ _ q=>q,fun _ _ _ q=>q,fun _ ps q=>⟨#[],by rw[q];simp⟩⟩
theorem Un.refl:Un fs ex H H h h:=Un.kept fun _ _ q=>q
theorem Un.laid (k:∀b u,h.get? b=some u->h'.get? b=some u)(hp:h.objs.size<=a)(hn:H a=none): Un fs ex H (upd H a o) h h' where
  keep:=fun b u q _ _ _=>k b u q
  slot:=fun b u q _ _ _=>⟨u.slots,k b u q⟩
  free:=fun b u q n _=>by rw[av (Nat.ne_of_lt (Nat.lt_of_lt_of_le (Heap.lt_size q) hp))];exact n
  there:=fun b u q _=>⟨u,k b u q⟩
  tups:=fun b xs q=>by rw[av (az q hn)];exact q
  nW:=fun b u xs q=>by rw[av (az q hn)];exact q
  oN:=fun b ps q=>⟨#[],by rw[av (az q hn),q];simp⟩
theorem Un.write (mu:Mut (H x))(he:e=x\/H e=some (.own x))(k:∀b u,b≠e->h.get? b=some u->h'.get? b=some u)(heo:∃u,h'.get? e=some u): Un fs ex H (upd H x o) h h':=by
  have hx:∀b,H b=none->b≠x:=fun b n z=>by subst z;rw[n] at mu;exact mu
  have hb:∀b,H b=none->b≠e:=fun b n z=>by
    subst z
    rcases he with r | r
    · exact hx b n r
    · rw[n] at r;cases r
  have hm:∀b u,H b=some u->¬Mut (some u)->b≠x:=fun b u q nm z=>by subst z;rw[q] at mu;exact nm mu
  refine⟨fun b u q n _ _=>k b u (hb b n) q,fun b u q n _ _=>⟨u.slots,k b u (hb b n) q⟩,fun b u q n _=>by rw[av (hx b n)];exact n,fun b u q _=>?_,
    fun b xs q=>by rw[av (hm b _ q fun z=>z)];exact q,fun b u xs q=>by rw[av (hm b _ q fun z=>z)];exact q,fun b ps q=>⟨#[],by rw[av (hm b _ q fun z=>z),q];simp⟩⟩
  by_cases hbe:b=e
  · subst hbe;exact heo
  · exact⟨u,k b u hbe q⟩
end
def trk (h:Heap)(H:Hp): List Addr:=(List.range h.objs.size).filter fun a=>(H a).isSome
def xx (h:Heap)(H:Hp): Heap:=PySem.W.hideAll h (trk h H)
theorem CP (h:Heap)(H:Hp): (xx h H).objs.size=h.objs.size:=PySem.W.hideAll_size _ _
theorem D_ {h:Heap}{H:Hp}{b:Addr}{o:Obj}(e:h.get? b=some o)(n:H b=none): (xx h H).get? b=some o :=
  PySem.W.hideAll_get _ e fun hm=>by
    have q:(H b).isSome=true:=(List.mem_filter.mp hm).2
    rw[n] at q;simp at q
theorem Gb {h:Heap}{H:Hp}{b:Addr}{o:Obj}(e:(xx h H).get? b=some o): h.get? b=some o/\H b=none:=by
  have e':h.get? b=some o:=PySem.W.of_hideAll (trk h H) e
  refine⟨e',?_⟩
  cases q:H b with
  | none=>rfl
  | some x =>
    have hm:b∈trk h H:=List.mem_filter.mpr ⟨List.mem_range.mpr (Heap.lt_size e'),by simp[q]⟩
    have z:(xx h H).get? b=none:=PySem.W.hideAll_none (trk h H) hm
    rw[z] at e;cases e
end L2
namespace L2
open PySem PySem.Spec PyProof.Rows
structure Mod (K:PySem.W.Frag)(mg:Str->Option Value)(base:Heap): Prop where
  kin:K.In base
  glob:base.Ns mainGlobals mg
  blt:∃mb,base.Ns builtinsNs mb/\∀x:Str,x ≠ "__name__" -> mb x=bootBuiltins x
  nolimit:base.NoLimit
structure Cx where
  prog:Program
  w:World
  K:PySem.W.Frag
  mg:Str->Option Value
  base:Heap
  A:Around
  N:List Str
  s₀:Shared
  H₀:Hp
  env:Env
  outer:List Env
  stack:List Env
  ex:List Addr
  fn:Str->Bool
  calm:Bool
  pn:List (Addr×Obj)
  xe:Value->Shared->Prop
def frs (l:List Env): List Addr:=l.filterMap (·.frame)
abbrev Cx.fs (X:Cx): List Addr:=frs X.outer
def Vis (sc:Scope)(x:Str): Prop:=sc.names.lookup x=some .local\/sc.names.lookup x=some .cell\/sc.names.lookup x=some .free
def Loc (sc:Scope)(x:Str): Prop:=sc.names.lookup x=some .local\/sc.names.lookup x=some .cell
def Look (env:Env)(h:Heap)(m:Str->Option Value)(x:Str)(u:Value): Prop :=
  (env.kindOf x=some .local/\m x=some u)\/((env.kindOf x=some .cell\/env.kindOf x=some .free)/\∃c,env.cells.lookup x=some c/\h.IsCell c (some u))
structure Cx.Ok (X:Cx): Prop where
  mod:Mod X.K X.mg X.base
  kind:X.env.scope.kind=.function
  glob:X.env.globals=mainGlobals
  blt:X.env.builtins=builtinsNs
  above:X.s₀.heap.objs.size<=X.env.locals
  inj:∀x y c,X.env.cells.lookup x=some c->X.env.cells.lookup y=some c->x=y
  has:∀x,(X.env.kindOf x=some .cell\/X.env.kindOf x=some .free)->∃c,X.env.cells.lookup x=some c
  cab:∀x c,X.fn x=true->X.env.cells.lookup x=some c->X.s₀.heap.objs.size<=c
  hd:X.calm=true->X.A.handled=none
  frames:X.A.frames=some X.stack
  stk:X.stack=X.outer\/(X.stack=X.env::X.outer/\X.env.frame=some X.env.locals)
  exf:∀b∈X.ex,b≠X.env.locals/\∀x c,X.env.cells.lookup x=some c->c≠b
  bs:∀b o,X.base.get? b=some o->X.s₀.heap.get? b=some o/\X.H₀ b=none
  bsz:X.base.objs.size<=X.s₀.heap.objs.size
  nX:∀b o,X.base.get? b=some o->b∉X.ex
  Gc:∀b∈X.ex,b∉X.fs
  rR:X.s₀.heap.FunFrames X.base X.outer
  frf:∀b∈X.fs,X.H₀ b=none
structure Inv (X:Cx)(pins:List (Addr×Obj))(σ:List (Option V))(H:Hp)(s:Shared): Prop where
  ok:X.Ok
  os:s.os=X.s₀.os
  bare:AllBare s.gens
  base:Un X.fs X.ex X.H₀ H X.s₀.heap s.heap
  loc:∃m,s.heap.Ns X.env.locals m/\∀(i:Nat) (x:Str) (v:V),X.N[i]?=some x->σ[i]?=some (some v)->Vis X.env.scope x->∃u,RelV v u/\Look X.env s.heap m x u
  cell:∀x c,X.env.cells.lookup x=some c->∃v,s.heap.IsCell c v
  free:H X.env.locals=none
  j5:∀x c,X.env.cells.lookup x=some c->H c=none
  pin:∀p∈X.pn++pins,s.heap.get? p.1=some p.2/\H p.1=none/\p.1≠X.env.locals/\p.1∉X.fs/\∀v,p.2.data≠.cell v
  hok:HOk X.prog X.w H s.heap
  len:σ.length=X.N.length
section
variable {X:Cx}{pins:List (Addr×Obj)}{σ:List (Option V)}{H H':Hp}{s:Shared}{h':Heap}
theorem Cx.Ok.Ka (ok:X.Ok){b:Addr}{o:Obj}(e:X.base.get? b=some o): b∉X.fs:=fun hb=>by
  have:=(ok.rR.mem hb).1
  rw[e] at this;cases this
theorem Inv.bs (I:Inv X pins σ H s): ∀b o,X.base.get? b=some o->s.heap.get? b=some o/\H b=none:=fun b o e =>
  ⟨I.base.keep b o (I.ok.bs b o e).1 (I.ok.bs b o e).2 (I.ok.Ka e) (I.ok.nX b o e),I.base.free b o (I.ok.bs b o e).1 (I.ok.bs b o e).2 (I.ok.nX b o e)⟩
theorem Inv.bk (I:Inv X pins σ H s): ∀b o,X.base.get? b=some o->s.heap.get? b=some o:=fun b o e=>(I.bs b o e).1
theorem Inv.mod (I:Inv X pins σ H s): Mod X.K X.mg X.base:=I.ok.mod
theorem Inv.kIn (I:Inv X pins σ H s): X.K.In s.heap:=I.ok.mod.kin.keeps I.bk
theorem Inv.lt (I:Inv X pins σ H s): X.env.locals < s.heap.objs.size:=let ⟨_,hn,_⟩:=I.loc;hn.lt
theorem Inv.sz (I:Inv X pins σ H s): X.s₀.heap.objs.size<=s.heap.objs.size:=Nat.le_trans I.ok.above (Nat.le_of_lt I.lt)
theorem Inv.Kb (I:Inv X pins σ H s){a:Addr}(h:s.heap.objs.size<=a): a∉X.fs:=fun hb=>by
  obtain⟨_,o,ho,_⟩:=I.ok.rR.mem hb
  exact absurd (Nat.lt_of_lt_of_le (Heap.lt_size ho) (Nat.le_trans I.sz h)) (Nat.lt_irrefl _)
theorem Inv.cne (I:Inv X pins σ H s): ∀x c,X.env.cells.lookup x=some c->c≠X.env.locals:=fun x c e z=>by
  obtain⟨v,o,ho,hd⟩:=I.cell x c e
  obtain⟨m,⟨o',es,ep,ho',hd',_⟩,_⟩:=I.loc
  rw[z,ho'] at ho;cases ho;rw[hd'] at hd;cases hd
theorem Inv.rR (I:Inv X pins σ H s): s.heap.FunFrames X.base X.outer:=by
  have all:∀(l:List Env),(∀b∈frs l,b∈X.fs)->X.s₀.heap.FunFrames X.base l->s.heap.FunFrames X.base l:=by
    intro l
    induction l with
    | nil=>intro _ _;trivial
    | cons env r ih =>
      intro hs hl
      obtain⟨hk,⟨L,o,hf,hn,ho,hd⟩,hr⟩:=hl
      have hL:L∈X.fs:=hs L (by unfold frs;rw[List.filterMap_cons,hf];exact List.mem_cons_self)
      obtain⟨sl,e⟩:=I.base.slot L o ho (I.ok.frf L hL) hL fun z=>I.ok.Gc L z hL
      exact⟨hk,⟨L,_,hf,hn,e,hd⟩,ih (fun b hb=>hs b (by unfold frs;rw[List.filterMap_cons,hf];exact List.mem_cons_of_mem _ hb)) hr⟩
  exact all X.outer (fun _ hb=>hb) I.ok.rR
theorem Inv.stack (I:Inv X pins σ H s): s.heap.FunFrames X.base X.stack:=by
  rcases I.ok.stk with e | ⟨e,hf⟩
  · rw[e];exact I.rR
  · rw[e]
    obtain⟨m,hn,_⟩:=I.loc
    refine .cons (by rw[I.ok.kind];decide) hf hn ?_ I.rR
    exact Heap.get?_none_of_le (Nat.le_trans I.ok.bsz I.ok.above)
theorem Inv.iK (I:Inv X pins σ H s): ∀b∈frs X.stack,b∈X.env.locals::X.fs:=fun b hb=>by
  rcases I.ok.stk with e | ⟨e,hf⟩
  · rw[e] at hb;exact List.mem_cons_of_mem _ hb
  · rw[e] at hb
    unfold frs at hb
    rw[List.filterMap_cons,hf] at hb
    exact hb
theorem Inv.xA (I:Inv X pins σ H s): ∀b∈frs X.stack,H b=none:=fun b hb=>by
  rcases List.mem_cons.mp (I.iK b hb) with e | hb
  · rw[e];exact I.free
  · obtain⟨_,o,ho,_⟩:=I.ok.rR.mem hb
    exact I.base.free b o ho (I.ok.frf b hb) fun z=>I.ok.Gc b z hb
theorem Inv.step {g':Array GenState}{t':Nat}{d':Drawn}{ch:List Addr}(I:Inv X pins σ H s)
    (hch:∀b∈ch,(b∈X.ex\/X.s₀.heap.objs.size<=b)/\b≠X.env.locals/\(∀x c,X.env.cells.lookup x=some c->c≠b)/\∀p∈X.pn++pins,p.1≠b)
    (keep:∀b o,b≠X.env.locals->b∉X.fs->b∉ch->s.heap.get? b=some o->H b=none->h'.get? b=some o)
    (slot:∀b o,b≠X.env.locals->b∈X.fs->b∉ch->s.heap.get? b=some o->H b=none->∃sl,h'.get? b=some { o with slots:=sl }) (free:∀b o,b∉ch->s.heap.get? b=some o->H b=none->H' b=none)
    (there:∀b o,b∉ch->s.heap.get? b=some o->∃o',h'.get? b=some o')
    (tups:∀b xs,H b=some (.tup xs)->H' b=some (.tup xs)) (nW:∀b o u,H b=some (.frz o u)->H' b=some (.frz o u)) (oN:∀b ps,H b=some (.tbl ps)->∃more,H' b=some (.tbl (ps++more)))
    (ns:∀m,s.heap.Ns X.env.locals m->h'.Ns X.env.locals m) (hok:HOk X.prog X.w H' h') (hg:AllBare g') :
    Inv X pins σ H' { s with heap:=h',gens:=g',drawn:=d',toks:=t' }:=by
  have neL:∀b o,X.s₀.heap.get? b=some o->b≠X.env.locals:=fun b o e=>Nat.ne_of_lt (Nat.lt_of_lt_of_le (Heap.lt_size e) I.ok.above)
  have neC:∀b o,X.s₀.heap.get? b=some o->b∉X.ex->b∉ch:=fun b o e hx hb=>by
    rcases (hch b hb).1 with z | z
    · exact hx z
    · exact absurd (Nat.lt_of_lt_of_le (Heap.lt_size e) z) (Nat.lt_irrefl _)
  have cellK:∀x c,X.env.cells.lookup x=some c->∀v,s.heap.IsCell c v->h'.IsCell c v:=fun x c e v ⟨o,ho,hd⟩=>by
    have nch:c∉ch:=fun z=>(hch c z).2.2.1 x c e rfl
    by_cases hc:c∈X.fs
    · obtain⟨sl,q⟩:=slot c o (I.cne x c e) hc nch ho (I.j5 x c e)
      exact⟨_,q,hd⟩
    · exact⟨o,keep c o (I.cne x c e) hc nch ho (I.j5 x c e),hd⟩
  refine⟨I.ok,I.os,hg,⟨fun b o e n hb hx=>?_,fun b o e n hb hx=>?_,fun b o e n hx=>?_,fun b o e hx=>?_,fun b xs e=>tups b xs (I.base.tups b xs e),fun b o xs e=>nW b o xs (I.base.nW b o xs e),fun b ps e=>?_⟩,?_,fun x c e=>?_,?_,fun x c e=>?_,fun p hp=>?_,hok,I.len⟩
  · exact keep b o (neL b o e) hb (neC b o e hx) (I.base.keep b o e n hb hx) (I.base.free b o e n hx)
  · obtain⟨sl,e1⟩:=I.base.slot b o e n hb hx
    obtain⟨sl',e2⟩:=slot b _ (neL b o e) hb (neC b o e hx) e1 (I.base.free b o e n hx)
    exact⟨sl',e2⟩
  · obtain⟨o',e1⟩:=I.base.there b o e hx
    exact free b o' (neC b o e hx) e1 (I.base.free b o e n hx)
  · obtain⟨o',e1⟩:=I.base.there b o e hx
    exact there b o' (neC b o e hx) e1
  · obtain⟨m1,e1⟩:=I.base.oN b ps e
    obtain⟨m2,e2⟩:=oN b _ e1
    exact⟨m1++m2,by rw[e2,Array.append_assoc]⟩
  · obtain⟨m,hn,hl⟩:=I.loc
    refine⟨m,ns m hn,fun i x v e1 e2 e3=>?_⟩
    obtain⟨u,r,l⟩:=hl i x v e1 e2 e3
    refine⟨u,r,?_⟩
    rcases l with l | ⟨k,c,e,z⟩
    · exact .inl l
    · exact .inr ⟨k,c,e,cellK x c e _ z⟩
  · obtain⟨v,z⟩:=I.cell x c e
    exact⟨v,cellK x c e v z⟩
  · obtain⟨m,⟨o,_,_,ho,_⟩,_⟩:=I.loc
    exact free _ o (fun z=>(hch _ z).2.1 rfl) ho I.free
  · obtain⟨v,o,ho,hd⟩:=I.cell x c e
    exact free c o (fun z=>(hch c z).2.2.1 x c e rfl) ho (I.j5 x c e)
  · obtain⟨e,n,ne,nf,d⟩:=I.pin p hp
    have nch:p.1∉ch:=fun z=>(hch p.1 z).2.2.2 p hp rfl
    exact⟨keep p.1 p.2 ne nf nch e n,free p.1 p.2 nch e n,ne,nf,d⟩
theorem Inv.un {t':Nat}(I:Inv X pins σ H s)(u:Un X.fs [] H H' s.heap h')(hok:HOk X.prog X.w H' h'): Inv X pins σ H' { s with heap:=h',toks:=t' }:=by
  obtain⟨m,⟨o,es,ep,ho,r⟩,_⟩:=id I.loc
  obtain⟨sl,hL⟩:=u.any ho I.free (by simp)
  exact I.step (g':=s.gens) (d':=s.drawn) (ch:=[]) (fun _ z=>nomatch z) (fun b o _ hb _ e n=>u.keep b o e n hb (by simp)) (fun b o _ hb _ e n=>u.slot b o e n hb (by simp)) (fun b o _ e n=>u.free b o e n (by simp)) (fun b o _ e=>u.there b o e (by simp)) u.tups u.nW u.oN (fun m' hm=>by
    obtain⟨o',es',ep',ho',r'⟩:=hm
    rw[ho] at ho';cases ho'
    exact⟨_,es',ep',hL,r'⟩) hok I.bare
theorem Inv.call {g':Array GenState}{t':Nat}{d':Drawn}{ch:List Addr}(I:Inv X pins σ H s)(u:Un (frs X.stack) ch H H' s.heap h')(hok:HOk X.prog X.w H' h')(hg:AllBare g')
    (hch:∀b∈ch,(b∈X.ex\/X.s₀.heap.objs.size<=b)/\b≠X.env.locals/\(∀x c,X.env.cells.lookup x=some c->c≠b)/\∀p∈X.pn++pins,p.1≠b) :
    Inv X pins σ H' { s with heap:=h',gens:=g',drawn:=d',toks:=t' }:=by
  obtain⟨m,⟨o,es,ep,ho,r⟩,_⟩:=id I.loc
  obtain⟨sl,hL⟩:=u.any ho I.free fun z=>(hch _ z).2.1 rfl
  exact I.step (ch:=ch) hch (fun b o hL hb hc e n=>u.keep b o e n (fun z=>(List.mem_cons.mp (I.iK b z)).elim hL hb) hc) (fun b o _ _ hc e n=>u.any e n hc) (fun b o hc e n=>u.free b o e n hc) (fun b o hc e=>u.there b o e hc) u.tups u.nW u.oN (fun m' hm=>by
    obtain⟨o',es',ep',ho',r'⟩:=hm
    rw[ho] at ho';cases ho'
    exact⟨_,es',ep',hL,r'⟩) hok hg
theorem Inv.turned {t':Nat}{it:Addr}(I:Inv X pins σ H s)(k:∀b o,b≠it->s.heap.get? b=some o->h'.get? b=some o)(hn:H it=none)(hL:it≠X.env.locals)
    (h1:it∈X.ex\/X.s₀.heap.objs.size<=it) (h2:∀x c,X.env.cells.lookup x=some c->c≠it) (h3:∀p∈X.pn++pins,p.1≠it):Inv X pins σ H { s with heap:=h',toks:=t' }:=by
  have nit:∀b u,H b=some u->b≠it:=fun b u e z=>by rw[z,hn] at e;cases e
  refine I.step (g':=s.gens) (d':=s.drawn) (ch:=[it]) (fun b hb=>?_) (fun b o _ _ hc e _=>k b o (fun z=>hc (by simp[z])) e) (fun b o _ _ hc e _=>⟨o.slots,k b o (fun z=>hc (by simp[z])) e⟩) (fun _ _ _ _ n=>n)
    (fun b o hc e=>⟨o,k b o (fun z=>hc (by simp[z])) e⟩) (fun _ _ e=>e) (fun _ _ _ e=>e) (fun b ps e=>⟨#[],by rw[e];simp⟩) (fun m hm=>?_) (fun b u e=>?_) I.bare
  · have e:b=it:=by simpa using hb
    subst e
    exact⟨h1,hL,h2,h3⟩
  · obtain⟨o,es,ep,ho,r⟩:=hm
    exact⟨o,es,ep,k _ o (Ne.symm hL) ho,r⟩
  · refine(I.hok b u e).stay (fun c v hc q=>k c v ?_ q) (fun _ q=>q) fun _ _ q=>q
    rcases hc with z | z
    · rw[z];exact nit b u e
    · exact nit c _ z
theorem Inv.tok (I:Inv X pins σ H s)(t:Nat): Inv X pins σ H { s with toks:=t }:=I.un (h':=s.heap) (t':=t) Un.refl I.hok
theorem Inv.kept {t':Nat}(I:Inv X pins σ H s)(k:∀b u,s.heap.get? b=some u->h'.get? b=some u): Inv X pins σ H { s with heap:=h',toks:=t' }:=I.un (Un.kept k) (I.hok.kept k)
theorem Inv.laid {a:Addr}{o:HO}{t':Nat}(I:Inv X pins σ H s)(k:∀b u,s.heap.get? b=some u->h'.get? b=some u)(hp:s.heap.objs.size<=a)(new:b4 X.prog X.w (upd H a o) h' a o):
    Inv X pins σ (upd H a o) { s with heap:=h',toks:=t' }:=I.un (Un.laid k hp (I.hok.fresh hp)) (I.hok.laid k hp new)
theorem Inv.write {x e:Addr}{o:HO}{t':Nat}(I:Inv X pins σ H s)(mu:Mut (H x))(he:e=x\/H e=some (.own x))(k:∀b u,b≠e->s.heap.get? b=some u->h'.get? b=some u)(heo:∃u,h'.get? e=some u)
    (new:b4 X.prog X.w (upd H x o) h' x o):Inv X pins σ (upd H x o) { s with heap:=h',toks:=t' }:=I.un (Un.write mu he k heo) (I.hok.write mu he k heo new)
theorem Inv.BL {iL:List (Addr×Obj)}(I:Inv X pins σ H s)(h:∀p∈iL,s.heap.get? p.1=some p.2/\H p.1=none/\p.1≠X.env.locals/\p.1∉X.fs/\∀v,p.2.data≠.cell v): Inv X iL σ H s :=
  ⟨I.ok,I.os,I.bare,I.base,I.loc,I.cell,I.free,I.j5,fun p hp=>(List.mem_append.mp hp).elim (fun z=>I.pin p (List.mem_append_left _ z)) (h p),I.hok,I.len⟩
theorem tG {N:List Str}(hN:N.Nodup){i j:Nat}{x:Str}(a:N[i]?=some x)(b:N[j]?=some x): i=j:=by
  obtain⟨h1,e1⟩:=List.getElem?_eq_some_iff.mp a
  obtain⟨h2,e2⟩:=List.getElem?_eq_some_iff.mp b
  exact(List.getElem_inj hN).mp (e1.trans e2.symm)
theorem CQ {M:Model}{A:Around}{E:Value->Shared->Prop}{i:Nat}{x:Str}{v:V}{u:Value}{Q:Unit->Shared->Prop}(I:Inv X pins σ H s)(hN:X.N.Nodup)(hi:X.N[i]?=some x)(hx:Loc X.env.scope x)(r:RelV v u)
    (h:∀s',Inv X pins (σ.set i (some v)) H s'->(∃a,Heap.SameBut a s.heap s'.heap/\(a=X.env.locals\/X.env.cells.lookup x=some a))->Q () s') (hf:X.fn x=true\/X.env.scope.names.lookup x=some .local:=by first | exact .inl rfl | exact .inr rfl | assumption):wpAny M A (storeName X.env x u) Q E s:=by
  obtain⟨m,hn,hl⟩:=id I.loc
  have hcls:(X.env.scope.kind==.class || (X.env.scope.kind==.module&&X.env.locals != X.env.globals))=false:=by rw[I.ok.kind];rfl
  have hiσ:i < σ.length:=by rw[I.len];exact(List.getElem?_eq_some_iff.mp hi).1
  have cne:=I.cne
  have tracked:∀{a:Addr} {h':Heap},(∃o,s.heap.get? a=some o/\H a=none)->Heap.SameBut a s.heap h'->HOk X.prog X.w H h':=fun {a h'} ha hs b ob e=>by
    obtain⟨_,_,hfree⟩:=ha
    refine(I.hok b ob e).stay (fun c w' hc q=>(hs.2 c ?_).trans q) (fun _ q=>q) fun _ _ q=>q
    rintro rfl
    rcases hc with rfl | hc
    · rw[hfree] at e;cases e
    · rw[hfree] at hc;cases hc
  rcases hx with hk | hk
  · refine wpAny_storeName_local hk hn (fun h' hn' hs=>?_) hcls
    obtain⟨oL,_,_,hoL,_⟩:=id hn
    refine h _ ⟨I.ok,I.os,I.bare,⟨fun b o e n hb hx=>?_,fun b o e n hb hx=>?_,I.base.free,fun b o e hx=>?_,I.base.tups,I.base.nW,I.base.oN⟩,⟨_,hn',fun j y v' e1 e2 e3=>?_⟩,fun y c e=>?_,I.free,I.j5,fun p hp=>?_,tracked ⟨oL,hoL,I.free⟩ hs,by simpa using I.len⟩ ⟨_,hs,.inl rfl⟩
    · exact(hs.2 b (Nat.ne_of_lt (Nat.lt_of_lt_of_le (Heap.lt_size e) I.ok.above))).trans (I.base.keep b o e n hb hx)
    · obtain⟨sl,e1⟩:=I.base.slot b o e n hb hx
      exact⟨sl,(hs.2 b (Nat.ne_of_lt (Nat.lt_of_lt_of_le (Heap.lt_size e) I.ok.above))).trans e1⟩
    · obtain⟨o',e1⟩:=I.base.there b o e hx
      exact⟨o',(hs.2 b (Nat.ne_of_lt (Nat.lt_of_lt_of_le (Heap.lt_size e) I.ok.above))).trans e1⟩
    · by_cases hj:j=i
      · subst hj
        rw[hi] at e1;cases e1
        rw[List.getElem?_set_self hiσ] at e2
        cases e2
        exact⟨u,r,.inl ⟨hk,by simp⟩⟩
      · rw[List.getElem?_set_ne (Ne.symm hj)] at e2
        obtain⟨u',r',q⟩:=hl j y v' e1 e2 e3
        refine⟨u',r',?_⟩
        rcases q with ⟨k,e⟩ | ⟨k,c,e,z⟩
        · refine .inl ⟨k,?_⟩
          have:y≠x:=fun e=>hj (tG hN e1 (e ▸ hi))
          simp[this,e]
        · exact .inr ⟨k,c,e,z.sameBut hs (cne y c e)⟩
    · obtain⟨w',z⟩:=I.cell y c e
      exact⟨w',z.sameBut hs (cne y c e)⟩
    · obtain⟨e,n,ne,nf,d⟩:=I.pin p hp
      exact⟨(hs.2 p.1 ne).trans e,n,ne,nf,d⟩
  · have hfn:X.fn x=true:=by
      rcases hf with z | z
      · exact z
      · rw[z] at hk;cases hk
    obtain⟨c,hc⟩:=I.ok.has x (.inl hk)
    obtain⟨w',z⟩:=I.cell x c hc
    refine wpAny_storeName_cell I.ok.kind hk hc z (fun h' hc' hs=>?_)
    obtain⟨oc,hoc,Kc⟩:=id z
    refine h { s with heap:=h' } ⟨I.ok,I.os,I.bare,⟨fun b o e n hb hx=>?_,fun b o e n hb hx=>?_,I.base.free,fun b o e hx=>?_,I.base.tups,I.base.nW,I.base.oN⟩,⟨m,hn.sameBut hs (Ne.symm (cne x c hc)),fun j y v' e1 e2 e3=>?_⟩,fun y c' e=>?_,I.free,I.j5,fun p hp=>?_,tracked ⟨oc,hoc,I.j5 x c hc⟩ hs,by simpa using I.len⟩ ⟨c,hs,.inr hc⟩
    · exact(hs.2 b (Nat.ne_of_lt (Nat.lt_of_lt_of_le (Heap.lt_size e) (I.ok.cab x c hfn hc)))).trans (I.base.keep b o e n hb hx)
    · obtain⟨sl,e1⟩:=I.base.slot b o e n hb hx
      exact⟨sl,(hs.2 b (Nat.ne_of_lt (Nat.lt_of_lt_of_le (Heap.lt_size e) (I.ok.cab x c hfn hc)))).trans e1⟩
    · obtain⟨o',e1⟩:=I.base.there b o e hx
      exact⟨o',(hs.2 b (Nat.ne_of_lt (Nat.lt_of_lt_of_le (Heap.lt_size e) (I.ok.cab x c hfn hc)))).trans e1⟩
    · by_cases hj:j=i
      · subst hj
        rw[hi] at e1;cases e1
        rw[List.getElem?_set_self hiσ] at e2
        cases e2
        exact⟨u,r,.inr ⟨.inl hk,c,hc,hc'⟩⟩
      · rw[List.getElem?_set_ne (Ne.symm hj)] at e2
        obtain⟨u',r',q⟩:=hl j y v' e1 e2 e3
        refine⟨u',r',?_⟩
        rcases q with q | ⟨k,c',e,z'⟩
        · exact .inl q
        · refine .inr ⟨k,c',e,z'.sameBut hs ?_⟩
          rintro rfl
          exact hj (tG hN e1 (I.ok.inj _ _ _ e hc ▸ hi))
    · by_cases hcc:c'=c
      · subst hcc;exact⟨_,hc'⟩
      · obtain⟨w2,z2⟩:=I.cell y c' e
        exact⟨w2,z2.sameBut hs hcc⟩
    · obtain⟨e,n,ne,nf,d⟩:=I.pin p hp
      refine⟨(hs.2 p.1 ?_).trans e,n,ne,nf,d⟩
      intro q
      rw[q,hoc] at e
      have q':oc=p.2:=Option.some.inj e
      exact d w' (by rw[<-q'];exact Kc)
theorem tH {M:Model}{A:Around}{E:Value->Shared->Prop}{i:Nat}{x:Str}{v:V}{u:Value}{Q:Unit->Shared->Prop}(I:Inv X pins σ H s)(hN:X.N.Nodup)(hi:X.N[i]?=some x)(hx:Loc X.env.scope x)(r:RelV v u)
    (h:∀s',Inv X pins (σ.set i (some v)) H s'->Q () s') (hf:X.fn x=true\/X.env.scope.names.lookup x=some .local:=by first | exact .inl rfl | exact .inr rfl | assumption):wpAny M A (storeName X.env x u) Q E s :=
  CQ I hN hi hx r (fun s' I' _=>h s' I') hf
theorem Inv.call' {s':Shared}{ch:List Addr}(I:Inv X pins σ H s)(ho:s'.os=s.os)(u:Un (frs X.stack) ch H H' s.heap s'.heap)(hok:HOk X.prog X.w H' s'.heap)(hg:AllBare s'.gens)
    (hch:∀b∈ch,(b∈X.ex\/X.s₀.heap.objs.size<=b)/\b≠X.env.locals/\(∀x c,X.env.cells.lookup x=some c->c≠b)/\∀p∈X.pn++pins,p.1≠b):Inv X pins σ H' s':=by
  obtain⟨h',g',d',t',o'⟩:=s'
  have e:o'=s.os:=ho
  subst e
  exact I.call (g':=g') (t':=t') (d':=d') u hok hg hch
end
abbrev XK:=Value->Option Addr->Hp->Prop
abbrev St:=List (Option V)
abbrev VK:=V->Hp->Prop
abbrev TE:=St->Hp->VK->Prop
abbrev TT:=St->Hp->(Bool->Hp->Prop)->Prop
abbrev TA:=St->Hp->(List V->Hp->Prop)->Prop
structure Ends where
  nx:St->Hp->Prop
  rt:VK
  bk:St->Hp->Prop:=fun _ _=>False
  ct:St->Hp->Prop:=fun _ _=>False
abbrev TS:=Ends->St->Hp->Prop
def EP (X:Cx)(pins:List (Addr×Obj))(σ:St)(Q:VK)(u:Value)(s':Shared): Prop:=∃v H',Inv X pins σ H' s'/\RelV v u/\Q v H'
def TP (X:Cx)(pins:List (Addr×Obj))(σ:St)(Q:Bool->Hp->Prop)(b:Bool)(s':Shared): Prop:=∃H',Inv X pins σ H' s'/\Q b H'
def AP (X:Cx)(pins:List (Addr×Obj))(σ:St)(Q:List V->Hp->Prop)(us:List Value)(s':Shared): Prop:=∃vs H',Inv X pins σ H' s'/\Vals vs us/\Q vs H'
def SP (X:Cx)(pins:List (Addr×Obj))(D:Ends)(f:Flow)(s':Shared): Prop :=
  match f with
  | .next=>∃σ' H',Inv X pins σ' H' s'/\D.nx σ' H'
  | .brk=>∃σ' H',Inv X pins σ' H' s'/\D.bk σ' H'
  | .cont=>∃σ' H',Inv X pins σ' H' s'/\D.ct σ' H'
  | .ret u=>∃v σ' H',Inv X pins σ' H' s'/\RelV v u/\D.rt v H'
def PE (X:Cx)(e:Expr)(t:TE): Prop :=
  ∀(pins:List (Addr×Obj)) (s:Shared) (σ:St) (H:Hp) (Q:VK),Inv X pins σ H s->t σ H Q->wpAny (model X.prog X.w) X.A (eval e X.env) (EP X pins σ Q) X.xe s
def PT (X:Cx)(e:Expr)(t:TT): Prop :=
  ∀(pins:List (Addr×Obj)) (s:Shared) (σ:St) (H:Hp) (Q:Bool->Hp->Prop),Inv X pins σ H s->t σ H Q->wpAny (model X.prog X.w) X.A (isTrue e X.env (eval e X.env)) (TP X pins σ Q) X.xe s
def PW (X:Cx)(e:Expr)(t:TT): Prop :=
  ∀(whole:Sem Value) (pins:List (Addr×Obj)) (s:Shared) (σ:St) (H:Hp) (Q:Bool->Hp->Prop),Inv X pins σ H s->t σ H Q->wpAny (model X.prog X.w) X.A (isTrue e X.env whole) (TP X pins σ Q) X.xe s
theorem PW.pt {X:Cx}{e:Expr}{t:TT}(h:PW X e t): PT X e t:=h _
def PA (X:Cx)(es:List Expr)(t:TA): Prop :=
  ∀(pos:Pos) (pins:List (Addr×Obj)) (s:Shared) (σ:St) (H:Hp) (Q:List V->Hp->Prop),Inv X pins σ H s->t σ H Q->wpAny (model X.prog X.w) X.A (spliced (backTo pos (starEach es X.env))) (AP X pins σ Q) X.xe s
def PS (X:Cx)(st:Stmt)(t:TS): Prop :=
  ∀(pins:List (Addr×Obj)) (s:Shared) (σ:St) (H:Hp) (D:Ends),Inv X pins σ H s->t D σ H->wpAny (model X.prog X.w) X.A (exec st X.env) (SP X pins D) X.xe s
def PSs (X:Cx)(st:List Stmt)(t:TS): Prop :=
  ∀(pins:List (Addr×Obj)) (s:Shared) (σ:St) (H:Hp) (D:Ends),Inv X pins σ H s->t D σ H->wpAny (model X.prog X.w) X.A (execs st X.env) (SP X pins D) X.xe s
theorem thn {α:Type}{t:Sem α}{Q Q':α->Shared->Prop}{M:Model}{A:Around}{E:Value->Shared->Prop}{s:Shared}(h:wpAny M A t Q E s)(hQ:∀a s,Q a s->Q' a s): wpAny M A t Q' E s:=wpAny_mono h hQ fun _ _ x=>x
end L2
namespace L2
open PySem PySem.Spec PyProof.Rows
section
variable {X:Cx}
def IW (i:Nat): TE:=fun σ H Q=>∃v,σ[i]?=some (some v)/\Q v H
def tC (v:V): TE:=fun _ H Q=>Q v H
theorem HE {i:Nat} {x:Str} {pos:Pos} (hN:X.N[i]?=some x) (hv:Vis X.env.scope x) (hd:(x==("__debug__" : Str))=false:=by decide) (hcd:(x==("__classdict__" : Str))=false:=by decide):PE X (.Name x pos) (IW i):=by
  intro pins s σ H Q I h
  obtain⟨v,e,h⟩:=h
  obtain⟨m,hn,hl⟩:=I.loc
  obtain⟨u,r,l⟩:=hl i x v hN e hv
  have fin:EP X pins σ Q u s:=⟨v,H,I,r,h⟩
  rcases l with ⟨hk,hm⟩ | ⟨hk,c,hc,hcell⟩
  · exact wpAny_Name (wpAny_loadName_local I.ok.kind hk hn hm fin) hd
  · rcases hk with hk | hk
    · exact wpAny_Name (wpAny_loadName_cell I.ok.kind hk hc hcell fin) hd
    · exact wpAny_Name (wpAny_loadName_free I.ok.kind hk hc hcell fin hcd) hd
theorem au {i j pos}: PE X (.Constant (.int i) j pos) (tC (.int i)):=fun _ _ _ H _ I h=>wpAny_Constant_int ⟨.int i,H,I.tok _,⟨_,rfl⟩,h⟩
theorem BM {b j pos}: PE X (.Constant (.bool b) j pos) (tC (.bl b)):=fun _ _ _ H _ I h=>Constant_bool ⟨.bl b,H,I,rfl,h⟩
theorem gG {j pos}: PE X (.Constant .none j pos) (tC .non):=fun _ _ _ H _ I h=>Constant_none ⟨.non,H,I,rfl,h⟩
theorem bd {x j pos}: PE X (.Constant (.str x) j pos) (tC (.str x)):=fun _ _ _ H _ I h=>Calls.Constant_str ⟨.str x,H,I.tok _,⟨_,rfl⟩,h⟩
def Gl (X:Cx)(x:Str): Prop:=X.env.kindOf x=some .globalImplicit
theorem eP {E:Value->Shared->Prop}{pins:List (Addr×Obj)}{s:Shared}{σ:St}{H:Hp}{x:Str}{u:Value}{pos:Pos}{Q:Value->Shared->Prop}(I:Inv X pins σ H s)(hg:Gl X x)(hm:X.mg x=some u)(h:Q u s)
    (hd:(x==("__debug__" : Str))=false:=by decide):wpAny (model X.prog X.w) X.A (eval (.Name x pos) X.env) Q E s :=
  Calls.Name_function_global I.ok.kind hg (Calls.loadGlobal_global (by rw[I.ok.glob];exact I.mod.glob.keeps I.bk) hm h) hd
theorem iM {E:Value->Shared->Prop}{pins:List (Addr×Obj)}{s:Shared}{σ:St}{H:Hp}{x:Str}{u:Value}{pos:Pos}{Q:Value->Shared->Prop}(I:Inv X pins σ H s)(hg:Gl X x)(hm:X.mg x=none)(hv:bootBuiltins x=some u)(h:Q u s)
    (hn:x ≠ "__name__" := by decide) (hd:(x==("__debug__" : Str))=false:=by decide):wpAny (model X.prog X.w) X.A (eval (.Name x pos) X.env) Q E s:=by
  obtain⟨mb,h1,h2⟩:=I.mod.blt
  exact Calls.Name_function_global I.ok.kind hg (Calls.loadGlobal_builtin (by rw[I.ok.glob];exact I.mod.glob.keeps I.bk) hm (by rw[I.ok.blt];exact h1.keeps I.bk) ((h2 x hn).trans hv) h) hd
theorem jn {x:Str} {v:V} {u:Value} {pos:Pos} (hg:Gl X x) (hm:X.mg x=some u) (r:RelV v u) (hd:(x==("__debug__" : Str))=false:=by decide):PE X (.Name x pos) (tC v) :=
  fun _ _ _ H _ I h=>eP I hg hm ⟨v,H,I,r,h⟩ hd
theorem BO {x:Str} {v:V} {u:Value} {pos:Pos} (hg:Gl X x) (hm:X.mg x=none) (hv:bootBuiltins x=some u) (r:RelV v u) (hn:x ≠ "__name__" := by decide) (hd:(x==("__debug__" : Str))=false:=by decide):PE X (.Name x pos) (tC v) :=
  fun _ _ _ H _ I h=>iM I hg hm hv ⟨v,H,I,r,h⟩ hn hd
variable {a b:Expr}{ta tb:TE}{pos:Pos}
def tB (t:TE): TT:=fun σ H Q=>t σ H fun x H1=>∃c,x=.bl c/\Q c H1
theorem kA {e:Expr}{t:TE}(h:PE X e t)(he:∀whole,isTrue e X.env whole=(do let v <-whole;standAt e.pos;holding [v] (truthy v)):=by intro _;rfl): PT X e (tB t):=by
  intro pins s σ H Q I hw
  refine isTrue_plain (thn (h pins s σ H _ I hw) fun v s1 ⟨x,H1,I1,r1,q1⟩=>?_) (he _)
  obtain⟨d,rfl,q⟩:=q1
  cases r1
  exact wpAny_truthy_bool ⟨H1,I1,q⟩
variable {tA tB':TT}{rest:List Expr}
def Kd (t u:TT): TT:=fun σ H Q=>t σ H fun c H1=>if c=true then u σ H1 Q else Q false H1
def tOr (t u:TT): TT:=fun σ H Q=>t σ H fun c H1=>if c=true then Q true H1 else u σ H1 Q
def Ke (t:TT): TT:=fun σ H Q=>t σ H fun c H1=>Q (!c) H1
theorem oO (ha:PT X a tA): PW X (.BoolOp .And [a] pos) tA:=by
  intro wh pins s σ H Q I h
  refine isTrue_and (thn (ha pins s σ H Q I h) fun c s1 e=>?_)
  cases c with
  | true=>exact isTrue_and_nil e
  | false=>exact e
theorem xB (ha:PT X a tA): PW X (.BoolOp .Or [a] pos) tA:=by
  intro wh pins s σ H Q I h
  refine isTrue_or (thn (ha pins s σ H Q I h) fun c s1 e=>?_)
  cases c with
  | false=>exact isTrue_or_nil e
  | true=>exact e
theorem tI (ha:PT X a tA)(hb:PW X (.BoolOp .And (b::rest) pos) tB'): PW X (.BoolOp .And (a::b::rest) pos) (Kd tA tB'):=by
  intro wh pins s σ H Q I h
  refine isTrue_and (thn (ha pins s σ H _ I h) fun c s1 ⟨H1,I1,q1⟩=>?_)
  cases c with
  | true=>exact hb wh pins s1 σ H1 Q I1 q1
  | false=>exact⟨H1,I1,q1⟩
theorem y7 (ha:PT X a tA)(hb:PW X (.BoolOp .Or (b::rest) pos) tB'): PW X (.BoolOp .Or (a::b::rest) pos) (tOr tA tB'):=by
  intro wh pins s σ H Q I h
  refine isTrue_or (thn (ha pins s σ H _ I h) fun c s1 ⟨H1,I1,q1⟩=>?_)
  cases c with
  | true=>exact⟨H1,I1,q1⟩
  | false=>exact hb wh pins s1 σ H1 Q I1 q1
theorem gH (ha:PT X a tA): PT X (.UnaryOp .Not a pos) (Ke tA):=by
  intro pins s σ H Q I h
  exact isTrue_not (ha pins s σ H (fun c H1=>Q (!c) H1) I h)
def IX (ta tb:TE): TE:=fun σ H Q=>ta σ H fun x H1=>∃c,x=.bl c/\if c=true then tb σ H1 Q else Q (.bl false) H1
def IY (ta:TE): TE:=fun σ H Q=>ta σ H fun x H1=>∃c,x=.bl c/\Q (.bl (!c)) H1
theorem HF {op}{t:TE}(h:PE X a t): PE X (.BoolOp op [a] pos) t:=fun pins s σ H Q I hw=>BoolOp_one (h pins s σ H Q I hw)
theorem HG (ha:PE X a ta)(hb:PE X (.BoolOp .And (b::rest) pos) tb): PE X (.BoolOp .And (a::b::rest) pos) (IX ta tb):=by
  intro pins s σ H Q I h
  refine BoolOp_and (thn (ha pins s σ H _ I h) fun v s1 ⟨x,H1,I1,r1,q1⟩=>?_)
  obtain⟨c,rfl,q1⟩:=q1
  cases r1
  refine wpAny_truthy_bool ?_
  cases c with
  | true=>exact hb pins s1 σ H1 Q I1 q1
  | false=>exact⟨.bl false,H1,I1,rfl,q1⟩
theorem HH (ha:PE X a ta): PE X (.UnaryOp .Not a pos) (IY ta):=by
  intro pins s σ H Q I h
  refine UnaryOp_ (thn (ha pins s σ H _ I h) fun v s1 ⟨x,H1,I1,r1,q1⟩=>?_)
  obtain⟨c,rfl,q1⟩:=q1
  cases r1
  exact not_of (wpAny_truthy_bool ⟨.bl (!c),H1,I1,rfl,q1⟩)
end
end L2
namespace L2
open PySem PySem.Spec PyProof.Rows
def SqL (K:PySem.W.Frag)(H:Hp)(a:Addr)(xs:List V): Prop :=
  Rd H a (.lst xs) ∨
    ∃(o:Obj) (its:Array Value) (n:Nat),K.lookup a=some o/\o.cls=.type "list" ∧ o.dict=none/\o.data=.seq its n/\its.size<=sizeLine/\Vals xs its.toList
def SqT (K:PySem.W.Frag)(H:Hp)(a:Addr)(xs:List V): Prop :=
  Rd H a (.tup xs) ∨
    ∃(o:Obj) (its:Array Value) (n:Nat),K.lookup a=some o/\o.cls=.type "tuple" ∧ o.data=.seq its n/\its.size<=sizeLine/\Vals xs its.toList
def Kf:Value->Option V
  | .none=>some .non
  | .bool b=>some (.bl b)
  | .int i _=>some (.int i)
  | .str x _=>some (.str x)
  | .bytes b _=>some (.byt b)
  | .float b _=>some (.flt b)
  | .ref a=>some (.ref a)
  | .type n=>some (.ty n)
  | _=>none
theorem RelV.abs {x:V}{u:Value}(r:RelV x u): Kf u=some x:=by
  cases x with
  | non=>cases r;rfl
  | bl _=>cases r;rfl
  | int _=>obtain⟨t,rfl⟩:=r;rfl
  | str _=>obtain⟨t,rfl⟩:=r;rfl
  | byt _=>obtain⟨t,rfl⟩:=r;rfl
  | flt _=>obtain⟨t,rfl⟩:=r;rfl
  | ref _=>cases r;rfl
  | ty _=>cases r;rfl
theorem RelV.inj {x y:V}{u:Value}(r:RelV x u)(q:RelV y u): x=y:=Option.some.inj (r.abs.symm.trans q.abs)
theorem Vals.inj:∀{xs ys:List V} {us:List Value},Vals xs us->Vals ys us->xs=ys
  | _,_,_,.nil,.nil=>rfl
  | _,_,_,.cons r t,.cons r' t'=>by rw[r.inj r',Vals.inj t t']
section
variable {X:Cx}{pins:List (Addr×Obj)}{σ:St}{H:Hp}{s:Shared}{a:Addr}{xs ys:List V}
theorem SqL.of {K:PySem.W.Frag}(h:H a=some (.lst xs)): SqL K H a xs:=.inl (.inl h)
theorem SqT.of {K:PySem.W.Frag}(h:H a=some (.tup xs)): SqT K H a xs:=.inl (.inl h)
theorem Inv.list (I:Inv X pins σ H s)(h:SqL X.K H a xs): ∃its:List Value,Vals xs its/\PlainL s.heap a its.toArray/\xs.length<=sizeLine:=by
  rcases h with h | ⟨o,its,n,hk,hc,hd,hs,hz,r⟩
  · obtain⟨z,its,n,r,e⟩:=h.ok I.hok
    exact⟨its,r,⟨_,n,e,rfl,rfl,rfl⟩,z⟩
  · refine⟨its.toList,r,⟨o,n,I.kIn a o hk,hc,hd,by simpa using hs⟩,?_⟩
    have e:=r.length
    simp only [Array.length_toList] at e
    omega
theorem Inv.tuple (I:Inv X pins σ H s)(h:SqT X.K H a xs): ∃its:List Value,Vals xs its/\IsTup s.heap a its.toArray/\xs.length<=sizeLine:=by
  rcases h with h | ⟨o,its,n,hk,hc,hs,hz,r⟩
  · obtain⟨z,its,r,p⟩:=h.ok I.hok
    exact⟨its,r,p,z⟩
  · refine⟨its.toList,r,⟨o,I.kIn a o hk,hc,n,by simpa using hs⟩,?_⟩
    have e:=r.length
    simp only [Array.length_toList] at e
    omega
theorem Inv.y9 (I:Inv X pins σ H s)(h:SqL X.K H a xs)(h':SqL X.K H a ys): xs=ys:=by
  obtain⟨its,r,⟨o,n,e,_,_,d⟩,_⟩:=I.list h
  obtain⟨its',r',⟨o',n',e',_,_,d'⟩,_⟩:=I.list h'
  rw[e] at e';cases e'
  rw[d] at d'
  injection d' with d1 _
  have:its=its':=by simpa using congrArg Array.toList d1
  subst this
  exact r.inj r'
theorem Inv.p6 (I:Inv X pins σ H s)(h:SqT X.K H a xs)(h':SqT X.K H a ys): xs=ys:=by
  obtain⟨its,r,⟨o,e,_,n,d⟩,_⟩:=I.tuple h
  obtain⟨its',r',⟨o',e',_,n',d'⟩,_⟩:=I.tuple h'
  rw[e] at e';cases e'
  rw[d] at d'
  injection d' with d1 _
  have:its=its':=by simpa using congrArg Array.toList d1
  subst this
  exact r.inj r'
end
section
variable {X:Cx}{pins:List (Addr×Obj)}{σ:St}{H:Hp}{s:Shared}{E:Value->Shared->Prop}
end
section
variable {X:Cx}{st:Stmt}{rest:List Stmt}{t u:TS}{e:Expr}{te:TE}{pos:Pos}
def IZ:TS:=fun D σ H=>D.nx σ H
def HI (t u:TS): TS:=fun D σ H=>t { D with nx:=u D } σ H
theorem aS:PSs X [] IZ:=fun _ _ σ H _ I h=>wpAny_execs_nil ⟨σ,H,I,h⟩
theorem ah (h1:PS X st t)(h2:PSs X rest u): PSs X (st::rest) (HI t u):=by
  intro pins s σ H D I h
  refine wpAny_execs_cons (thn (h1 pins s σ H { D with nx:=u D } I h) fun f s1 q=>?_)
  cases f with
  | next =>
    obtain⟨σ',H',I',q⟩:=q
    exact h2 pins s1 σ' H' D I' q
  | ret v=>exact q
  | brk=>exact q
  | cont=>exact q
theorem ao (h1:PS X st t): PSs X [st] t:=by
  intro pins s σ H D I h
  refine wpAny_execs_cons (thn (h1 pins s σ H D I h) fun f s1 q=>?_)
  cases f with
  | next=>exact wpAny_execs_nil q
  | ret v=>exact q
  | brk=>exact q
  | cont=>exact q
def HJ:TS:=fun D σ H=>D.bk σ H
theorem Ea:PS X (.Break pos) HJ:=fun _ _ σ H _ I h=>wpAny_Break ⟨σ,H,I,h⟩
theorem Inv.quiet {pins:List (Addr×Obj)}{σ:St}{H:Hp}{s:Shared}(I:Inv X pins σ H s): interactive X.env=false:=by simp[interactive,I.ok.kind]
def I8 (te:TE): TS:=fun D σ H=>te σ H fun _ H1=>D.nx σ H1
theorem aT (he:PE X e te)(hs:swapsWith e none pos.line X.env=pure false:=by rfl): PS X (.Expr e pos) (I8 te):=by
  intro pins s σ H D I h
  exact wpAny_Expr_any (thn (he pins s σ H _ I h) fun v s1 ⟨x,H1,I1,r1,q1⟩=>⟨σ,H1,I1,q1⟩) I.quiet hs
def Kg (te:TE): TS:=fun D σ H=>te σ H D.rt
theorem aI (he:PE X e te): PS X (.Return (some e) pos) (Kg te):=by
  intro pins s σ H D I h
  exact wpAny_Return_some (thn (he pins s σ H _ I h) fun v s1 ⟨x,H1,I1,r1,q1⟩=>⟨x,σ,H1,I1,r1,q1⟩)
def Kh (c:TT)(t u:TS): TS:=fun D σ H=>c σ H fun b H1=>if b=true then t D σ H1 else u D σ H1
theorem bx {c:Expr}{a b:List Stmt}{tc:TT}(hc:PT X c tc)(ha:PSs X a t)(hb:PSs X b u): PS X (.If c a b pos) (Kh tc t u):=by
  intro pins s σ H D I h
  refine wpAny_If (thn (hc pins s σ H _ I h) fun d s1 ⟨H1,I1,q1⟩=>?_)
  cases d with
  | true=>exact ha pins s1 σ H1 D I1 q1
  | false=>exact hb pins s1 σ H1 D I1 q1
end
abbrev TG:=V->St->Hp->(St->Hp->Prop)->Prop
abbrev TGs:=List V->St->Hp->(St->Hp->Prop)->Prop
def PG (X:Cx)(target:Expr)(t:TG): Prop :=
  ∀(pins:List (Addr×Obj)) (s:Shared) (σ:St) (H:Hp) (v:V) (u:Value) (Q:St->Hp->Prop),Inv X pins σ H s->RelV v u->t v σ H Q ->
    wpAny (model X.prog X.w) X.A (assign target X.env u) (fun _ s'=>∃σ' H',Inv X pins σ' H' s'/\Q σ' H') X.xe s
def PGs (X:Cx)(ts:List Expr)(t:TGs): Prop :=
  ∀(pins:List (Addr×Obj)) (s:Shared) (σ:St) (H:Hp) (vs:List V) (us:List Value) (Q:St->Hp->Prop),Inv X pins σ H s->Vals vs us->t vs σ H Q ->
    wpAny (model X.prog X.w) X.A (assignInOrder ((assignEach ts X.env).map (·.2)) us) (fun _ s'=>∃σ' H',Inv X pins σ' H' s'/\Q σ' H') X.xe s
section
variable {X:Cx}{pos:Pos}
def wG (i:Nat): TG:=fun v σ H Q=>Q (σ.set i (some v)) H
theorem b5 {i:Nat}{x:Str}(hN:X.N.Nodup)(hi:X.N[i]?=some x)(hx:Loc X.env.scope x)(hf:X.fn x=true\/X.env.scope.names.lookup x=some .local:=by first | exact .inl rfl | exact .inr rfl | assumption): PG X (.Name x pos) (wG i):=by
  intro pins s σ H v u Q I r h
  exact wpAny_assign_Name (tH I hN hi hx r (fun s' I'=>⟨_,H,I',h⟩) hf)
def Ki:TGs:=fun vs σ H Q=>vs=[]/\Q σ H
def I9 (t:TG)(u:TGs): TGs:=fun vs σ H Q=>∃v r,vs=v::r/\t v σ H fun σ' H'=>u r σ' H' Q
theorem Gd:PGs X [] Ki:=by
  intro pins s σ H vs us Q I r h
  obtain⟨e,h⟩:=h
  subst e
  cases r
  exact assignInOrder_nil ⟨σ,H,I,h⟩
theorem y_ {e:Expr}{es:List Expr}{t:TG}{u:TGs}(h1:PG X e t)(h2:PGs X es u)
    (hs:(assignEach (e::es) X.env).map (·.2)=assign e X.env::(assignEach es X.env).map (·.2):=by rfl):PGs X (e::es) (I9 t u):=by
  intro pins s σ H vs us Q I r h
  obtain⟨v,vr,e1,h⟩:=h
  subst e1
  cases r with
  | cons r rr =>
    rw[hs]
    refine assignInOrder_cons (thn (h1 pins s σ H _ _ _ I r h) fun _ s1 ⟨σ1,H1,I1,q1⟩=>?_)
    exact h2 pins s1 σ1 H1 _ _ Q I1 rr q1
def Kj (K:PySem.W.Frag)(n:Nat)(t:TGs): TG:=fun v σ H Q=>∃a xs,v=.ref a/\SqT K H a xs/\xs.length=n/\t xs σ H Q
theorem HK {es:List Expr}{k:Nat}{t:TGs}{n:Nat}(hc:X.calm=true)(h:PGs X es t)
    (hn:(assignEach es X.env).length=n:=by rfl) (hst:(assignEach es X.env).findIdx? (·.1)=none:=by rfl):PG X (.Tuple es k pos) (Kj X.K n t):=by
  intro pins s σ H v u Q I r hw
  obtain⟨a,xs,e1,hq,hl,hw⟩:=hw
  subst e1
  cases r
  obtain⟨its,rv,ht,hz⟩:=I.tuple hq
  refine assign_Tuple_tuple (I.ok.hd hc) ht (by simp[hn,<-hl,rv.length]) hst fun h' hx=>?_
  have I1:Inv X pins σ H { s with heap:=h' }:=I.kept (t':=s.toks) fun b o e=>hx b o (Nat.ne_of_lt (Heap.lt_size e)) e
  exact h pins _ σ H xs _ Q I1 (by simpa using rv) hw
def Kk (te:TE)(g:TG): TS:=fun D σ H=>te σ H fun x H1=>g x σ H1 D.nx
theorem aN {i:Nat}{x:Str}{e:Expr}{te:TE}{pos':Pos}(hN:X.N.Nodup)(hi:X.N[i]?=some x)(hx:Loc X.env.scope x)(he:PE X e te)(hs:swapsWith e (some (.Name x pos')) pos.line X.env=pure false:=by rfl)(hf:X.fn x=true\/X.env.scope.names.lookup x=some .local:=by first | exact .inl rfl | exact .inr rfl | assumption):
    PS X (.Assign [.Name x pos'] e pos) (Kk te (wG i)):=by
  intro pins s σ H D I h
  refine wpAny_Assign_Name (thn (he pins s σ H _ I h) fun v s1 ⟨y,H1,I1,r1,q1⟩=>?_) hs
  exact tH I1 hN hi hx r1 (fun s2 I2=>⟨_,H1,I2,q1⟩) hf
end
section
variable {X:Cx}{pos:Pos}
def HL (c:TT)(tb:TS): TS:=fun D σ H=>∃W:Nat->St->Hp->Prop,(∃m,W m σ H)/\∀m σ H,W m σ H ->
  c σ H fun b H1=>if b=true then ∃N:St->Hp->Prop,(∀σ' H',N σ' H'->∃m',m' < m/\W m' σ' H')/\tb { D with nx:=N,ct:=N,bk:=D.nx } σ H1 else D.nx σ H1
theorem Eb {c:Expr}{body:List Stmt}{tc:TT}{tb:TS}(hp:PassesOwn (model X.prog X.w) X.A X.env X.xe)(hc:PT X c tc)(hb:PSs X body tb): PS X (.While c body [] pos) (HL tc tb):=by
  intro pins s σ H D I h
  obtain⟨W,⟨m0,w0⟩,turn⟩:=h
  refine wpAny_While (codeAny_whileLoop (fun n s'=>∃σ' H',Inv X pins σ' H' s'/\W n σ' H') ?_ m0 ⟨σ,H,I,w0⟩)
  rintro n s1 ⟨σ1,H1,I1,w1⟩
  refine wpAny_passesOwn hp (thn (hc pins s1 σ1 H1 _ I1 (turn n σ1 H1 w1)) fun b s2 ⟨H2,I2,q2⟩=>?_)
  cases b with
  | true =>
    obtain⟨N,hN,q2⟩:=q2
    rw[if_pos rfl]
    refine wpAny_passesOwn hp (thn (hb pins s2 σ1 H2 _ I2 q2) fun f s3 q3=>?_)
    cases f with
    | next =>
      obtain⟨σ3,H3,I3,n3⟩:=q3
      obtain⟨m',hm,w3⟩:=hN σ3 H3 n3
      exact⟨m',hm,σ3,H3,I3,w3⟩
    | cont =>
      obtain⟨σ3,H3,I3,n3⟩:=q3
      obtain⟨m',hm,w3⟩:=hN σ3 H3 n3
      exact⟨m',hm,σ3,H3,I3,w3⟩
    | brk=>exact q3
    | ret v=>exact q3
  | false =>
    rw[if_neg Bool.false_ne_true]
    exact wpAny_execs_nil ⟨σ1,H2,I2,q2⟩
end
structure It where
  go:Nat->Hp->Prop
  yld:Nat->Hp->V->Hp->Prop
  stop:Nat->Hp->Prop
def lV (X:Cx)(pins:List (Addr×Obj))(H:Hp)(b:Addr): Prop :=
  H b=none/\b≠X.env.locals/\b∉X.fs/\(b∈X.ex\/X.s₀.heap.objs.size<=b)/\(∀x c,X.env.cells.lookup x=some c->c≠b)/\∀p∈X.pn++pins,p.1≠b
theorem Inv.rS {X:Cx}{pins:List (Addr×Obj)}{σ:St}{H H':Hp}{s:Shared}{b:Addr}(I:Inv X pins σ H s)(hb:s.heap.objs.size<=b)(hn:H' b=none): lV X pins H' b:=by
  refine⟨hn,Nat.ne_of_gt (Nat.lt_of_lt_of_le I.lt hb),I.Kb hb,.inr (Nat.le_trans I.sz hb),fun x c e z=>?_,fun p hp z=>?_⟩
  · obtain⟨v,q⟩:=I.cell x c e
    exact absurd (Nat.lt_of_lt_of_le q.lt (by rw[z];exact hb)) (Nat.lt_irrefl _)
  · exact absurd (Nat.lt_of_lt_of_le (Heap.lt_size (I.pin p hp).1) (by rw[z];exact hb)) (Nat.lt_irrefl _)
structure Turn (P:Program)(w:World)(K:PySem.W.Frag)(tg:Expr)(J:It)(fp:List Addr)(it:Addr)(tn:Nat->Heap->Prop): Prop where
  mem:it∈fp
  obj:∀i h,tn i h->∀b∈fp,∃o,h.get? b=some o/\∀v,o.data≠.cell v
  keep:∀i h h',tn i h->(∀b∈fp,∀o,h.get? b=some o->h'.get? b=some o)->tn i h'
  item:∀(X:Cx),X.prog=P->X.w=w->X.K=K->X.calm=true->∀(i:Nat) (pins:List (Addr×Obj)) (s:Shared) (σ:St) (H:Hp) (E:Value->Shared->Prop),Inv X pins σ H s->(∀b∈fp,lV X pins H b)->tn i s.heap->J.go i H ->
    wpAny (model P w) X.A (pyNext (.ref it)) (fun r s1=>∃u,r=some u ∧
      wpAny (model P w) X.A (letOwnedTupleGo tg (.ref it) u) (fun _ s2=>∃x H',Inv X pins σ H' s2/\RelV x u/\J.yld i H x H'/\tn (i+1) s2.heap/\∀b∈fp,H' b=none) E s1) E s
  done:∀(X:Cx),X.prog=P->X.w=w->X.K=K->X.calm=true->∀(i:Nat) (pins:List (Addr×Obj)) (s:Shared) (σ:St) (H:Hp) (E:Value->Shared->Prop),Inv X pins σ H s->(∀b∈fp,lV X pins H b)->tn i s.heap->J.stop i H ->
    wpAny (model P w) X.A (pyNext (.ref it)) (fun r s1=>r=none/\Inv X pins σ H s1) E s
  self:∀(A:Around) (i:Nat) (s:Shared) (Q:Value->Shared->Prop) (E:Value->Shared->Prop),tn i s.heap->Q (.ref it) s->wpAny (model P w) A (pyIter (.ref it)) Q E s
abbrev TI:=St->Hp->(It->Hp->Prop)->Prop
def PIE (X:Cx)(pins:List (Addr×Obj))(σ:St)(tg:Expr)(R:It->Hp->Prop)(itv:Value)(s2:Shared): Prop :=
  ∃(it:Addr) (fp:List Addr) (tn:Nat->Heap->Prop) (J:It) (H':Hp),itv=.ref it/\Inv X pins σ H' s2/\Turn X.prog X.w X.K tg J fp it tn/\tn 0 s2.heap/\(∀b∈fp,lV X pins H' b)/\R J H'
def PI (X:Cx)(tg iter:Expr)(wi:TI): Prop :=
  ∀(pins:List (Addr×Obj)) (s:Shared) (σ:St) (H:Hp) (R:It->Hp->Prop),Inv X pins σ H s->wi σ H R ->
    wpAny (model X.prog X.w) X.A (eval iter X.env) (fun v s1=>wpAny (model X.prog X.w) X.A (pyIter v) (PIE X pins σ tg R) X.xe s1) X.xe s
theorem wH {M:Model}{A:Around}{E:Value->Shared->Prop}{s:Shared}{tg:Expr}{it:Addr}{u:Value}{o:Obj}{n:String}{vs:Array Value}{Q:Unit->Shared->Prop}(ho:s.heap.get? it=some o)(hc:o.cls=.type n)(hd:o.data=.fields vs)
    (hn:["enumerate", "zip", "dict_itemiterator", "dict_reverseitemiterator", "odict_iterator", "itertools.zip_longest", "itertools.pairwise"].contains n=false) (hQ:Q () s):wpAny M A (letOwnedTupleGo tg (.ref it) u) Q E s:=by
  unfold letOwnedTupleGo
  cases tg<;>first
    | exact wpAny_pure hQ
    | (cases u<;>first
        | exact wpAny_pure hQ
        | (refine wpAny_bind (wpAny_load ho ?_)
           rw[hc,hd]
           show wpAny M A (if (["enumerate", "zip", "dict_itemiterator", "dict_reverseitemiterator", "odict_iterator", "itertools.zip_longest", "itertools.pairwise"].contains n&&vs[0]?==some (rawInt _))=true then _ else _) Q E s
           rw[if_neg (by intro h;rw[hn,Bool.false_and] at h;cases h)]
           exact wpAny_pure hQ))
def Itl (K:PySem.W.Frag)(a:Addr): It :=
  ⟨fun i H=>∃xs x,SqL K H a xs/\xs[i]?=some x,fun i H x H'=>H'=H/\∀xs,SqL K H a xs->xs[i]?=some x,fun i H=>∃xs,SqL K H a xs/\xs.length<=i⟩
def Itt (K:PySem.W.Frag)(a:Addr): It :=
  ⟨fun i H=>∃xs x,SqT K H a xs/\xs[i]?=some x,fun i H x H'=>H'=H/\∀xs,SqT K H a xs->xs[i]?=some x,fun i H=>∃xs,SqT K H a xs/\xs.length<=i⟩
def Itr (lo:Int)(n:Nat): It:=⟨fun i _=>i < n,fun i H x H'=>H'=H/\x=.int (lo+i),fun i _=>n<=i⟩
theorem CT {P:Program}{w:World}{K:PySem.W.Frag}{tg:Expr}(a it:Addr): Turn P w K tg (Itl K a) [it] it (fun i h=>h.IsListIter it a i) where
  mem:=by simp
  obj:=fun i h st b hb=>by
    have e:b=it:=by simpa using hb
    subst e
    obtain⟨o,e,c,d⟩:=st
    exact⟨o,e,fun v z=>by rw[d] at z;cases z⟩
  keep:=fun i h h' st k=>st.at fun o e=>k it (by simp) o e
  item:=by
    intro X hP hw hK hc i pins s σ H E I hf st hg
    subst hP hw hK
    obtain⟨xs,x,hq,hx⟩:=hg
    obtain⟨its,rv,p,hz⟩:=I.list hq
    obtain⟨u,hu,ru⟩:=rv.get hx
    obtain⟨f0,f1,f2,f3,f4,f5⟩:=hf it (by simp)
    refine wpAny_pyNext_list_item st p.isList (x:=u) (by simpa using hu) fun h' st' sb=>?_
    have I1:Inv X pins σ H { s with heap:=h' }:=I.turned (t':=s.toks) (fun b o hb e=>(sb.2 b hb).trans e) f0 f1 f3 f4 f5
    obtain⟨o,e,c,d⟩:=id st'
    exact⟨u,rfl,wH (s:={ s with heap:=h' }) e c d (by decide) ⟨x,H,I1,ru,⟨rfl,fun ys hy=>by rw[I.y9 hy hq];exact hx⟩,st',fun b hb=>(hf b hb).1⟩⟩
  done:=by
    intro X hP hw hK hc i pins s σ H E I hf st hg
    subst hP hw hK
    obtain⟨xs,hq,hx⟩:=hg
    obtain⟨its,rv,p,hz⟩:=I.list hq
    obtain⟨f0,f1,f2,f3,f4,f5⟩:=hf it (by simp)
    have hl:=rv.length
    exact wpAny_pyNext_list_end (I.ok.hd hc) st p.isList (by simp;omega) fun h' eb=>⟨rfl,I.turned (t':=s.toks) (fun b o hb e=>eb b o hb e) f0 f1 f3 f4 f5⟩
  self:=fun _ _ _ _ _ st h=>wpAny_pyIter_listiter st h
theorem Aq {P:Program}{w:World}{K:PySem.W.Frag}{tg:Expr}(a it:Addr): Turn P w K tg (Itt K a) [it] it (fun i h=>h.IsTupleIter it a i) where
  mem:=by simp
  obj:=fun i h st b hb=>by
    have e:b=it:=by simpa using hb
    subst e
    obtain⟨o,e,c,d⟩:=st
    exact⟨o,e,fun v z=>by rw[d] at z;cases z⟩
  keep:=fun i h h' st k=>st.at fun o e=>k it (by simp) o e
  item:=by
    intro X hP hw hK hc i pins s σ H E I hf st hg
    subst hP hw hK
    obtain⟨xs,x,hq,hx⟩:=hg
    obtain⟨its,rv,p,hz⟩:=I.tuple hq
    obtain⟨u,hu,ru⟩:=rv.get hx
    obtain⟨f0,f1,f2,f3,f4,f5⟩:=hf it (by simp)
    refine wpAny_pyNext_tuple_item st (show s.heap.IsTuple a its.toArray from p) (x:=u) (by simpa using hu) fun h' st' sb=>?_
    have I1:Inv X pins σ H { s with heap:=h' }:=I.turned (t':=s.toks) (fun b o hb e=>(sb.2 b hb).trans e) f0 f1 f3 f4 f5
    obtain⟨o,e,c,d⟩:=id st'
    exact⟨u,rfl,wH (s:={ s with heap:=h' }) e c d (by decide) ⟨x,H,I1,ru,⟨rfl,fun ys hy=>by rw[I.p6 hy hq];exact hx⟩,st',fun b hb=>(hf b hb).1⟩⟩
  done:=by
    intro X hP hw hK hc i pins s σ H E I hf st hg
    subst hP hw hK
    obtain⟨xs,hq,hx⟩:=hg
    obtain⟨its,rv,p,hz⟩:=I.tuple hq
    obtain⟨f0,f1,f2,f3,f4,f5⟩:=hf it (by simp)
    have hl:=rv.length
    exact wpAny_pyNext_tuple_end (I.ok.hd hc) st (show s.heap.IsTuple a its.toArray from p) (by simp;omega) fun h' eb=>⟨rfl,I.turned (t':=s.toks) (fun b o hb e=>eb b o hb e) f0 f1 f3 f4 f5⟩
  self:=fun _ _ _ _ _ st h=>wpAny_pyIter_tupleiter st h
theorem tJ {P:Program}{w:World}{K:PySem.W.Frag}{tg:Expr}(it:Addr)(lo:Int)(n:Nat): Turn P w K tg (Itr lo n) [it] it (fun i h=>IsRangeIter h it (lo+(i:Nat)*1) ((n:Int)-(i:Nat)) 1) where
  mem:=by simp
  obj:=fun i h st b hb=>by
    have e:b=it:=by simpa using hb
    subst e
    exact⟨_,st,fun v z=>by
      have z':Data.fields _=Data.cell v:=z
      cases z'⟩
  keep:=fun i h h' st k=>k it (by simp) _ st
  item:=by
    intro X hP hw hK hc i pins s σ H E I hf st hg
    subst hP hw hK
    obtain⟨f0,f1,f2,f3,f4,f5⟩:=hf it (by simp)
    have W:=Walks.range (prog:=X.prog) (w:=X.w) (I.ok.hd hc) it lo 1 n
    refine W.item i s _ _ hg st fun v h' tk hv st' kk=>?_
    obtain⟨t,rfl⟩:=hv
    have I1:Inv X pins σ H { s with heap:=h',toks:=tk }:=I.turned (fun b o hb e=>kk b o (by simpa using hb) e) f0 f1 f3 f4 f5
    refine⟨_,rfl,wH (s:={ s with heap:=h',toks:=tk }) (n := "range_iterator") st' rfl rfl (by decide) ⟨.int (lo+i),H,I1,⟨t,?_⟩,⟨rfl,rfl⟩,st',fun b hb=>(hf b hb).1⟩⟩
    rw[Int.mul_one]
  done:=by
    intro X hP hw hK hc i pins s σ H E I hf st hg
    subst hP hw hK
    obtain⟨f0,f1,f2,f3,f4,f5⟩:=hf it (by simp)
    exact wpAny_pyNext_range_end (I.ok.hd hc) st (by have:n<=i:=hg;omega) fun h' eb=>⟨rfl,I.turned (t':=s.toks) (fun b o hb e=>eb b o hb e) f0 f1 f3 f4 f5⟩
  self:=fun _ _ _ _ _ st h=>wpAny_pyIter_rangeiter st h
end L2
namespace L2
open PySem PySem.Spec PyProof.Rows
section
variable {X:Cx}{tg:Expr}
def I_ (K:PySem.W.Frag)(tl:TE): TI:=fun σ H R=>tl σ H fun x H1=>∃a,x=.ref a/\(∃xs,SqL K H1 a xs)/\R (Itl K a) H1
def Kl (K:PySem.W.Frag)(tl:TE): TI:=fun σ H R=>tl σ H fun x H1=>∃a,x=.ref a/\(∃xs,SqT K H1 a xs)/\R (Itt K a) H1
theorem gk {l:Expr}{tl:TE}(hl:PE X l tl): PI X tg l (I_ X.K tl):=by
  intro pins s σ H R I h
  refine thn (hl pins s σ H _ I h) fun v s1 ⟨x,H1,I1,r1,q1⟩=>?_
  obtain⟨a,e,⟨xs,hq⟩,q⟩:=q1
  subst e
  cases r1
  obtain⟨its,rv,p,hz⟩:=I1.list hq
  refine wpAny_pyIter_list p.isList ?_
  refine⟨s1.heap.objs.size,[s1.heap.objs.size],_,_,H1,rfl,I1.kept (t':=s1.toks) fun b o e=>Heap.get?_push_of_some _ e,CT a _,⟨_,Heap.get?_push_size _ rfl,rfl,rfl⟩,fun b hb=>?_,q⟩
  have e:b=s1.heap.objs.size:=by simpa using hb
  subst e
  exact I1.rS (Nat.le_refl _) (I1.hok.fresh (Nat.le_refl _))
theorem Ar {l:Expr}{tl:TE}(hl:PE X l tl): PI X tg l (Kl X.K tl):=by
  intro pins s σ H R I h
  refine thn (hl pins s σ H _ I h) fun v s1 ⟨x,H1,I1,r1,q1⟩=>?_
  obtain⟨a,e,⟨xs,hq⟩,q⟩:=q1
  subst e
  cases r1
  obtain⟨its,rv,p,hz⟩:=I1.tuple hq
  refine wpAny_pyIter_tuple (show s1.heap.IsTuple a its.toArray from p) ?_
  refine⟨s1.heap.objs.size,[s1.heap.objs.size],_,_,H1,rfl,I1.kept (t':=s1.toks) fun b o e=>Heap.get?_push_of_some _ e,Aq a _,⟨_,Heap.get?_push_size _ rfl,rfl,rfl⟩,fun b hb=>?_,q⟩
  have e:b=s1.heap.objs.size:=by simpa using hb
  subst e
  exact I1.rS (Nat.le_refl _) (I1.hok.fresh (Nat.le_refl _))
theorem Ec {pins:List (Addr×Obj)}{σ:St}{H:Hp}{s:Shared}{R:It->Hp->Prop}{E:Value->Shared->Prop}{lo hi:Int}{t u v:Tok}{tk:Nat}(I:Inv X pins σ H s)(h1:-(2^62)<=lo)(h2:lo < 2^62)(h3:-(2^62)<=hi)(h4:hi < 2^62)
    (q:R (Itr lo (hi-lo).toNat) H):wpAny (model X.prog X.w) X.A (pyIter (.ref s.heap.objs.size)) (PIE X pins σ tg R) E { s with heap:=s.heap.push { cls:=.type "range",data:=.fields #[.int lo t,.int hi u,.int 1 v] },toks:=tk }:=by
  refine wpAny_pyIter_range (IsRange.new ..) (small_one h1 h2 h3 h4) ?_
  have I1:Inv X pins σ H { s with heap:=s.heap.push { cls:=.type "range",data:=.fields #[.int lo t,.int hi u,.int 1 v] },toks:=tk }:=I.kept fun b o e=>Heap.get?_push_of_some _ e
  refine⟨(s.heap.push { cls:=.type "range",data:=.fields #[.int lo t,.int hi u,.int 1 v] }).objs.size,[(s.heap.push { cls:=.type "range",data:=.fields #[.int lo t,.int hi u,.int 1 v] }).objs.size],_,_,H,rfl,
    I1.kept (t':=tk) fun b o e=>Heap.get?_push_of_some _ e,tJ _ lo (hi-lo).toNat,?_,fun b hb=>?_,q⟩
  · have e1:lo+((0:Nat):Int)*1=lo:=by simp
    have e2:(((hi-lo).toNat:Nat):Int)-((0:Nat):Int)=Builtin.Range.rangeSize lo hi 1:=by rw[rangeSize_one];split<;>omega
    show IsRangeIter _ _ (lo+((0:Nat):Int)*1) ((((hi-lo).toNat:Nat):Int)-((0:Nat):Int)) 1
    rw[e1,e2]
    exact Heap.get?_push_size _ rfl
  · have e:b=(s.heap.push { cls:=.type "range",data:=.fields #[.int lo t,.int hi u,.int 1 v] }).objs.size:=by simpa using hb
    subst e
    exact I1.rS (Nat.le_refl _) (I1.hok.fresh (Nat.le_refl _))
def Ja (ta:TA): TI:=fun σ H R=>ta σ H fun vs H1=>∃i j:Int,vs=[.int i,.int j]/\(-(2^62)<=i/\i < 2^62/\-(2^62)<=j/\j < 2^62)/\R (Itr i (j-i).toNat) H1
theorem CU {a b:Expr} {ta:TA} {p pos:Pos} (hg:Gl X "range") (hm:X.mg "range" = none) (ha:PA X [a,b] ta) (hs:starEach [a,b] X.env=[(false,eval a X.env),(false,eval b X.env)]:=by rfl) (hs2:starEach [b] X.env=[(false,eval b X.env)]:=by rfl) :
    PI X tg (.Call (.Name "range" p) [a,b] [] pos) (Ja ta):=by
  intro pins s σ H R I h
  refine Call_ (iM I hg hm boot_range (PyProof.Rows.callWith_type1 (thn (ha pos pins s σ H _ I h) fun us s1 ⟨vs,H1,I1,r1,q1⟩=>?_) (by rw[hs,hs2]) (by rw[hs2];rfl)))
  obtain⟨i,j,e,⟨q1,q2,q3,q4⟩,q⟩:=q1
  subst e
  cases r1 with
  | cons r rr =>
    cases rr with
    | cons r' rr =>
      cases rr
      obtain⟨t,rfl⟩:=r
      obtain⟨t',rfl⟩:=r'
      exact call_range_2 (Ec I1 q1 q2 q3 q4 q)
def Km (wi:TI)(g:TG)(tb:TS): TS:=fun D σ H=>wi σ H fun J H1=>∃W:Nat->Nat->St->Hp->Prop,(∃m,W 0 m σ H1)/\∀i m σ H,W i m σ H ->
  (J.stop i H/\D.nx σ H)\/(J.go i H/\∃N:St->Hp->Prop,(∀σ' H',N σ' H'->∃m',m' < m/\W (i+1) m' σ' H')/\∀x H',J.yld i H x H'->g x σ H' fun σ2 H2=>tb { D with nx:=N,ct:=N,bk:=D.nx } σ2 H2)
def p7 (fp:List Addr)(h:Heap): List (Addr×Obj):=fp.filterMap fun b=>(h.get? b).map fun o=>(b,o)
theorem fL {fp:List Addr}{h:Heap}{b:Addr}{o:Obj}(hb:b∈fp)(e:h.get? b=some o): (b,o)∈p7 fp h:=List.mem_filterMap.mpr ⟨b,hb,by rw[e];rfl⟩
theorem CV {fp:List Addr}{h:Heap}{p:Addr×Obj}(hp:p∈p7 fp h): p.1∈fp/\h.get? p.1=some p.2:=by
  obtain⟨b,hb,e⟩:=List.mem_filterMap.mp hp
  cases q:h.get? b with
  | none=>rw[q] at e;cases e
  | some o =>
    rw[q] at e
    have e':(b,o)=p:=Option.some.inj e
    subst e'
    exact⟨hb,q⟩
theorem Inv.pinned {pins:List (Addr×Obj)}{σ:St}{H:Hp}{s:Shared}{fp:List Addr}(I:Inv X pins σ H s)(hf:∀b∈fp,lV X pins H b)(ho:∀b∈fp,∃o,s.heap.get? b=some o/\∀v,o.data≠.cell v): Inv X (pins++p7 fp s.heap) σ H s :=
  I.BL fun p hp=>(List.mem_append.mp hp).elim (fun z=>I.pin p (List.mem_append_right _ z)) fun z=>by
    obtain⟨hb,e⟩:=CV z
    obtain⟨f0,f1,f2,_⟩:=hf p.1 hb
    obtain⟨o,e',d⟩:=ho p.1 hb
    rw[e] at e';cases e'
    exact⟨e,f0,f1,f2,d⟩
theorem Inv.l5 {pins pl:List (Addr×Obj)}{σ:St}{H:Hp}{s:Shared}(I:Inv X (pins++pl) σ H s): Inv X pins σ H s:=I.BL fun p hp=>I.pin p (List.mem_append_right _ (List.mem_append_left _ hp))
theorem dW {iter:Expr}{body:List Stmt}{wi:TI}{g:TG}{tb:TS}{pos:Pos}(hp:PassesOwn (model X.prog X.w) X.A X.env X.xe)(hc:X.calm=true)(hi:PI X tg iter wi)(hg:PG X tg g)(hb:PSs X body tb)
    (hs:∀x,foldedSetIterable iter X.env x=pure x:=by intro _;rfl):PS X (.For tg iter body [] pos) (Km wi g tb):=by
  intro pins s σ H D I h
  refine wpAny_For (thn (hi pins s σ H _ I h) fun v s1 h1=>thn h1 fun itv s2 h2=>?_) hs
  obtain⟨it,fp,tn,J,H2,e,I2,T,st2,f2,W,⟨m0,w0⟩,turn⟩:=h2
  subst e
  have stat:∀{H':Hp},(∀b∈fp,H' b=none)->∀b∈fp,lV X pins H' b:=fun hn b hb=>⟨hn b hb,(f2 b hb).2⟩
  refine codeAny_forLoop_any (fun n s'=>∃i σ' H',Inv X pins σ' H' s'/\tn i s'.heap/\(∀b∈fp,H' b=none)/\W i n σ' H') ?_ m0 ⟨0,σ,H2,I2,st2,fun b hb=>(f2 b hb).1,w0⟩
  rintro n s3 ⟨i,σ3,H3,I3,st3,fr3,w3⟩
  rcases turn i n σ3 H3 w3 with ⟨stop,qn⟩ | ⟨go,N,hN,step⟩
  · refine wpAny_passesOwn hp (thn (T.done X rfl rfl rfl hc i pins s3 σ3 H3 X.xe I3 (stat fr3) st3 stop) fun r s4 ⟨hr,I4⟩=>?_)
    subst hr
    exact wpAny_execs_nil ⟨σ3,H3,I4,qn⟩
  · refine wpAny_passesOwn hp (thn (T.item X rfl rfl rfl hc i pins s3 σ3 H3 X.xe I3 (stat fr3) st3 go) fun r s4 ⟨u,hr,h4⟩=>?_)
    subst hr
    refine wpAny_passesOwn hp (thn h4 fun _ s5 ⟨x,H5,I5,r5,y5,st5,fr5⟩=>?_)
    have I5':=I5.pinned (stat fr5) (T.obj _ _ st5)
    refine wpAny_passesOwn hp (thn (hg _ s5 σ3 H5 x u _ I5' r5 (step x H5 y5)) fun _ s6 ⟨σ6,H6,I6,q6⟩=>?_)
    refine wpAny_passesOwn hp (thn (hb _ s6 σ6 H6 _ I6 q6) fun f s7 q7=>?_)
    have again:∀{σ7:St} {H7:Hp},Inv X (pins++p7 fp s5.heap) σ7 H7 s7->N σ7 H7->∃m,m < n/\∃i σ' H',Inv X pins σ' H' s7/\tn i s7.heap/\(∀b∈fp,H' b=none)/\W i m σ' H':=fun {σ7 H7} I7 n7=>by
      obtain⟨m',hm,w7⟩:=hN σ7 H7 n7
      refine⟨m',hm,i+1,σ7,H7,I7.l5,T.keep _ _ _ st5 fun b hb o e=>(I7.pin (b,o) (List.mem_append_right _ (List.mem_append_right _ (fL hb e)))).1,fun b hb=>?_,w7⟩
      obtain⟨o,e,d⟩:=T.obj _ _ st5 b hb
      exact(I7.pin (b,o) (List.mem_append_right _ (List.mem_append_right _ (fL hb e)))).2.1
    cases f with
    | next=>obtain⟨σ7,H7,I7,n7⟩:=q7;exact again I7 n7
    | cont=>obtain⟨σ7,H7,I7,n7⟩:=q7;exact again I7 n7
    | brk=>obtain⟨σ7,H7,I7,q7⟩:=q7;exact⟨σ7,H7,I7.l5,q7⟩
    | ret v=>obtain⟨x7,σ7,H7,I7,r7,q7⟩:=q7;exact⟨x7,σ7,H7,I7.l5,r7,q7⟩
end
theorem iN {K:PySem.W.Frag}{a:Addr}{xs:List V}{g:TG}{tb:TS}{D:Ends}{σ:St}{H:Hp}(Pv:Nat->St->Hp->Prop)(h0:Pv 0 σ H)(hl:∀i σ H,i<=xs.length->Pv i σ H->SqL K H a xs)
    (hs:∀i x σ H,xs[i]?=some x->Pv i σ H->g x σ H fun σ2 H2=>tb { D with nx:=Pv (i+1),ct:=Pv (i+1),bk:=D.nx } σ2 H2) (hd:∀σ H,Pv xs.length σ H->D.nx σ H) :
    ∃W:Nat->Nat->St->Hp->Prop,(∃m,W 0 m σ H)/\∀i m σ H,W i m σ H ->
      ((Itl K a).stop i H/\D.nx σ H)\/((Itl K a).go i H/\∃N:St->Hp->Prop,(∀σ' H',N σ' H'->∃m',m' < m/\W (i+1) m' σ' H')/\∀x H',(Itl K a).yld i H x H'->g x σ H' fun σ2 H2=>tb { D with nx:=N,ct:=N,bk:=D.nx } σ2 H2):=by
  refine⟨fun i m σ H=>m=xs.length-i/\i<=xs.length/\Pv i σ H,⟨xs.length,by simp,Nat.zero_le _,h0⟩,?_⟩
  rintro i m σ H ⟨rfl,hi,p⟩
  have q:=hl i σ H hi p
  by_cases hlt:i < xs.length
  · refine .inr ⟨⟨xs,xs[i],q,by simp[hlt]⟩,Pv (i+1),fun σ' H' p'=>⟨xs.length-(i+1),by omega,rfl,hlt,p'⟩,fun x H' y=>?_⟩
    obtain⟨e,y⟩:=y
    subst e
    exact hs i x σ _ (y xs q) p
  · have e:i=xs.length:=by omega
    subst e
    exact .inl ⟨⟨xs,q,Nat.le_refl _⟩,hd σ H p⟩
theorem xC {K:PySem.W.Frag}{a:Addr}{xs:List V}{g:TG}{tb:TS}{D:Ends}{σ:St}{H:Hp}(Pv:Nat->St->Hp->Prop)(h0:Pv 0 σ H)(hl:∀i σ H,i<=xs.length->Pv i σ H->SqT K H a xs)
    (hs:∀i x σ H,xs[i]?=some x->Pv i σ H->g x σ H fun σ2 H2=>tb { D with nx:=Pv (i+1),ct:=Pv (i+1),bk:=D.nx } σ2 H2) (hd:∀σ H,Pv xs.length σ H->D.nx σ H) :
    ∃W:Nat->Nat->St->Hp->Prop,(∃m,W 0 m σ H)/\∀i m σ H,W i m σ H ->
      ((Itt K a).stop i H/\D.nx σ H)\/((Itt K a).go i H/\∃N:St->Hp->Prop,(∀σ' H',N σ' H'->∃m',m' < m/\W (i+1) m' σ' H')/\∀x H',(Itt K a).yld i H x H'->g x σ H' fun σ2 H2=>tb { D with nx:=N,ct:=N,bk:=D.nx } σ2 H2):=by
  refine⟨fun i m σ H=>m=xs.length-i/\i<=xs.length/\Pv i σ H,⟨xs.length,by simp,Nat.zero_le _,h0⟩,?_⟩
  rintro i m σ H ⟨rfl,hi,p⟩
  have q:=hl i σ H hi p
  by_cases hlt:i < xs.length
  · refine .inr ⟨⟨xs,xs[i],q,by simp[hlt]⟩,Pv (i+1),fun σ' H' p'=>⟨xs.length-(i+1),by omega,rfl,hlt,p'⟩,fun x H' y=>?_⟩
    obtain⟨e,y⟩:=y
    subst e
    exact hs i x σ _ (y xs q) p
  · have e:i=xs.length:=by omega
    subst e
    exact .inl ⟨⟨xs,q,Nat.le_refl _⟩,hd σ H p⟩
theorem wI {lo:Int}{n:Nat}{g:TG}{tb:TS}{D:Ends}{σ:St}{H:Hp}(Pv:Nat->St->Hp->Prop)(h0:Pv 0 σ H)
    (hs:∀i σ H,i < n->Pv i σ H->g (.int (lo+i)) σ H fun σ2 H2=>tb { D with nx:=Pv (i+1),ct:=Pv (i+1),bk:=D.nx } σ2 H2) (hd:∀σ H,Pv n σ H->D.nx σ H) :
    ∃W:Nat->Nat->St->Hp->Prop,(∃m,W 0 m σ H)/\∀i m σ H,W i m σ H ->
      ((Itr lo n).stop i H/\D.nx σ H)\/((Itr lo n).go i H/\∃N:St->Hp->Prop,(∀σ' H',N σ' H'->∃m',m' < m/\W (i+1) m' σ' H')/\∀x H',(Itr lo n).yld i H x H'->g x σ H' fun σ2 H2=>tb { D with nx:=N,ct:=N,bk:=D.nx } σ2 H2):=by
  refine⟨fun i m σ H=>m=n-i/\i<=n/\Pv i σ H,⟨n,by simp,Nat.zero_le _,h0⟩,?_⟩
  rintro i m σ H ⟨rfl,hi,p⟩
  by_cases hlt:i < n
  · refine .inr ⟨hlt,Pv (i+1),fun σ' H' p'=>⟨n-(i+1),by omega,rfl,hlt,p'⟩,fun x H' y=>?_⟩
    obtain⟨e,y⟩:=y
    subst e y
    exact hs i σ _ hlt p
  · have e:i=n:=by omega
    subst e
    exact .inl ⟨Nat.le_refl _,hd σ H p⟩
end L2
namespace L2
open PySem PySem.Spec PyProof.Rows
abbrev R2:=V->V->Hp->VK->Prop
def OpR (X:Cx)(f:Value->Value->Sem Value)(r:R2): Prop :=
  ∀(pins:List (Addr×Obj)) (s:Shared) (σ:St) (H:Hp) (x y:V) (v u:Value) (Q:VK),Inv X pins σ H s->RelV x v->RelV y u->r x y H Q ->
    wpAny (model X.prog X.w) X.A (f v u) (EP X pins σ Q) X.xe s
def UnR (X:Cx)(f:Value->Sem Value)(r:V->Hp->VK->Prop): Prop :=
  ∀(pins:List (Addr×Obj)) (s:Shared) (σ:St) (H:Hp) (x:V) (v:Value) (Q:VK),Inv X pins σ H s->RelV x v->r x H Q ->
    wpAny (model X.prog X.w) X.A (f v) (EP X pins σ Q) X.xe s
def lP (X:Cx)(f:Value)(r:List V->Hp->VK->Prop): Prop :=
  ∀(pins:List (Addr×Obj)) (s:Shared) (σ:St) (H:Hp) (xs:List V) (us:List Value) (Q:VK),Inv X pins σ H s->Vals xs us->r xs H Q ->
    wpAny (model X.prog X.w) X.A (call f us) (EP X pins σ Q) X.xe s
def tOp (r:R2)(ta tb:TE): TE:=fun σ H Q=>ta σ H fun x H1=>tb σ H1 fun y H2=>r x y H2 Q
def tUn (r:V->Hp->VK->Prop)(ta:TE): TE:=fun σ H Q=>ta σ H fun x H1=>r x H1 Q
def rI (C:Int->Int->Prop)(g:Int->Int->V): R2:=fun x y H Q=>∃i j,x=.int i/\y=.int j/\C i j/\Q (g i j) H
def rI0 (g:Int->Int->V): R2:=fun x y H Q=>∃i j,x=.int i/\y=.int j/\Q (g i j) H
def rU (g:Int->V): V->Hp->VK->Prop:=fun x H Q=>∃i,x=.int i/\Q (g i) H
section
variable {X:Cx}{a b c:Expr}{ta tb tc:TE}{pos:Pos}
theorem HM (ha:PE X a ta)(hb:PE X b tb){pins:List (Addr×Obj)}{s:Shared}{σ:St}{H:Hp}{R:V->V->Hp->Prop}(I:Inv X pins σ H s)
    (h:ta σ H fun x H1=>tb σ H1 fun y H2=>R x y H2) {Q:Value->Shared->Prop} {f:Value->Value->Sem Value}
    (hf:∀v u s2 x y H2,Inv X pins σ H2 s2->RelV x v->RelV y u->R x y H2->wpAny (model X.prog X.w) X.A (f v u) Q X.xe s2) :
    wpAny (model X.prog X.w) X.A (eval a X.env) (fun v s₁=>wpAny (model X.prog X.w) X.A (eval b X.env) (fun u s₂=>wpAny (model X.prog X.w) X.A (f v u) Q X.xe s₂) X.xe s₁) X.xe s:=by
  refine thn (ha pins s σ H _ I h) fun v s1 ⟨x,H1,I1,r1,q1⟩=>?_
  refine thn (hb pins s1 σ H1 _ I1 q1) fun u s2 ⟨y,H2,I2,r2,q2⟩=>?_
  exact hf v u s2 x y H2 I2 r1 r2 q2
theorem aK {op:Operator}{r:R2}(ho:OpR X (binaryOp op) r)(ha:PE X a ta)(hb:PE X b tb): PE X (.BinOp a op b pos) (tOp r ta tb):=by
  intro pins s σ H Q I h
  exact wpAny_BinOp (HM ha hb I h fun v u s2 x y H2 I2 rx ry q=>ho pins s2 σ H2 x y v u Q I2 rx ry q)
theorem nI {op:UnaryOp}{r:V->Hp->VK->Prop}(ho:UnR X (unaryOp op) r)(ha:PE X a ta): PE X (.UnaryOp op a pos) (tUn r ta):=by
  intro pins s σ H Q I h
  exact UnaryOp_ (thn (ha pins s σ H _ I h) fun v s1 ⟨x,H1,I1,r1,q1⟩=>ho pins s1 σ H1 x v Q I1 r1 q1)
theorem opI {f:Value->Value->Sem Value}{C:Int->Int->Prop}{g:Int->Int->Int}
    (rule:∀(i j:Int) (t u:Tok) (s:Shared) (Q:Value->Shared->Prop) (E:Value->Shared->Prop),C i j->Q (.int (g i j) s.toks) { s with toks:=s.toks+1 }->wpAny (model X.prog X.w) X.A (f (.int i t) (.int j u)) Q E s) :
    OpR X f (rI C fun i j=>.int (g i j)):=by
  intro pins s σ H x y v u Q I rx ry h
  obtain⟨i,j,rfl,rfl,hc,q⟩:=h
  obtain⟨t,rfl⟩:=rx
  obtain⟨t',rfl⟩:=ry
  exact rule i j t t' s _ _ hc ⟨.int (g i j),H,I.tok _,⟨_,rfl⟩,q⟩
theorem Ed {f:Value->Value->Sem Value}{g:Int->Int->Int}
    (rule:∀(i j:Int) (t u:Tok) (s:Shared) (Q:Value->Shared->Prop) (E:Value->Shared->Prop),Q (.int (g i j) s.toks) { s with toks:=s.toks+1 }->wpAny (model X.prog X.w) X.A (f (.int i t) (.int j u)) Q E s) :
    OpR X f (rI0 fun i j=>.int (g i j)):=by
  intro pins s σ H x y v u Q I rx ry h
  obtain⟨i,j,rfl,rfl,q⟩:=h
  obtain⟨t,rfl⟩:=rx
  obtain⟨t',rfl⟩:=ry
  exact rule i j t t' s _ _ ⟨.int (g i j),H,I.tok _,⟨_,rfl⟩,q⟩
theorem Ge {f:Value->Value->Sem Value}{g:Int->Int->Bool}
    (rule:∀(i j:Int) (t u:Tok) (s:Shared) (Q:Value->Shared->Prop) (E:Value->Shared->Prop),Q (.bool (g i j)) s->wpAny (model X.prog X.w) X.A (f (.int i t) (.int j u)) Q E s) :
    OpR X f (rI0 fun i j=>.bl (g i j)):=by
  intro pins s σ H x y v u Q I rx ry h
  obtain⟨i,j,rfl,rfl,q⟩:=h
  obtain⟨t,rfl⟩:=rx
  obtain⟨t',rfl⟩:=ry
  exact rule i j t t' s _ _ ⟨.bl (g i j),H,I,rfl,q⟩
def Kn (i j:Int): Prop:=0 < j/\j < 1073741824
def Gf (i j:Int): Prop:=0<=j/\j<=1000000/\i.natAbs < 2^64
def Ee (i j:Int): Prop:=(-(2^64) < i/\i < 2^64)\/(-(2^64) < j/\j < 2^64)
theorem Ee.ok {i j:Int}(h:Ee i j): IntMulOk i j:=by
  rcases h with ⟨h1,h2⟩ | ⟨h1,h2⟩
  · exact .of_left (intBits_le_64 h1 h2)
  · exact .of_right (intBits_le_64 h1 h2)
theorem As (k:Nat): (0:Int)<=2^k:=by
  rw[two_pow_cast]
  exact Int.natCast_nonneg _
theorem dj:OpR X (binaryOp .Add) (rI0 fun i j=>.int (i+j)):=Ed fun _ _ _ _ _ _ _ q=>add_int q
theorem l7:OpR X (binaryOp .Sub) (rI0 fun i j=>.int (i-j)):=Ed fun _ _ _ _ _ _ _ q=>sub_int q
theorem xD:OpR X (binaryOp .Mult) (rI Ee fun i j=>.int (i*j)):=opI fun _ _ _ _ _ _ _ hc q=>mul_int q hc.ok
theorem dM:OpR X (binaryOp .FloorDiv) (rI Kn fun i j=>.int (i / j)):=opI fun i j _ _ _ _ _ hc q=>by
  have h1:(0:Int) < j:=hc.1
  have h2:j < 1073741824:=hc.2
  exact floordiv_int (by omega) (by rw[Int.fdiv_eq_ediv_of_nonneg i (by omega)];exact q) (.inl (PyProof.noPylong_small (by omega)))
theorem cJ:OpR X (binaryOp .Mod) (rI (fun _ j=>0 < j) fun i j=>.int (i%j)):=opI fun i j _ _ _ _ _ hc q=>by
  have h1:(0:Int) < j:=hc
  exact mod_int' (by omega) (by rw[Int.fmod_eq_emod_of_nonneg i (by omega)];exact q)
theorem Au:OpR X (binaryOp .Pow) (rI Gf fun i j=>.int (i^j.toNat)):=opI fun _ _ _ _ _ _ _ hc q=>pow_int_small hc.1 hc.2.1 hc.2.2 q
theorem tK:OpR X (binaryOp .LShift) (rI Gf fun i j=>.int (i*2^j.toNat)):=opI fun _ _ _ _ _ _ _ hc q=>lshift_int_small hc.1 hc.2.1 hc.2.2 q
theorem Av:OpR X (binaryOp .RShift) (rI (fun _ j=>0<=j) fun i j=>.int (i / 2^j.toNat)):=opI fun i j _ _ _ _ _ hc q =>
  rshift_int hc (by rw[Int.fdiv_eq_ediv_of_nonneg i (As _)];exact q)
theorem xE:OpR X (binaryOp .BitAnd) (rI0 fun i j=>.int (Builtin.bitAnd i j)):=Ed fun _ _ _ _ _ _ _ q=>and_int q
theorem Jb:OpR X (binaryOp .BitOr) (rI0 fun i j=>.int (Builtin.bitOr i j)):=Ed fun _ _ _ _ _ _ _ q=>or_int q
theorem HN:OpR X (binaryOp .BitXor) (rI0 fun i j=>.int (Builtin.bitXor i j)):=Ed fun _ _ _ _ _ _ _ q=>xor_int q
theorem unI {f:Value->Sem Value}{g:Int->Int}
    (rule:∀(i:Int) (t:Tok) (s:Shared) (Q:Value->Shared->Prop) (E:Value->Shared->Prop),Q (.int (g i) s.toks) { s with toks:=s.toks+1 }->wpAny (model X.prog X.w) X.A (f (.int i t)) Q E s) :
    UnR X f (rU fun i=>.int (g i)):=by
  intro pins s σ H x v Q I rx h
  obtain⟨i,rfl,q⟩:=h
  obtain⟨t,rfl⟩:=rx
  exact rule i t s _ _ ⟨.int (g i),H,I.tok _,⟨_,rfl⟩,q⟩
theorem jx:UnR X (unaryOp .USub) (rU fun i=>.int (-i)):=unI fun _ _ _ _ _ q=>neg_int q
end
def Jc:V->V->Bool
  | .non,.non=>true | .non,.int _=>true | .int _,.non=>true | .non,.bl _=>true | .bl _,.non=>true | .non,.str _=>true | .str _,.non=>true
  | .int _,.int _=>true | .bl _,.bl _=>true | .str _,.str _=>true | .byt _,.byt _=>true
  | .int _,.str _=>true | .str _,.int _=>true | .bl _,.str _=>true | .str _,.bl _=>true
  | _,_=>false
def rEq:R2:=fun x y H Q=>Jc x y=true/\Q (.bl (decide (x=y))) H
def rNe:R2:=fun x y H Q=>Jc x y=true/\Q (.bl (!decide (x=y))) H
theorem BP {i j:Int}: decide (V.int i=V.int j)=(i==j):=by
  rw[Bool.eq_iff_iff]
  simp
theorem Ef {i j:Bool}: decide (V.bl i=V.bl j)=(i==j):=by
  rw[Bool.eq_iff_iff]
  simp
theorem BQ {i j:Str}: decide (V.str i=V.str j)=(i==j):=by
  rw[Bool.eq_iff_iff]
  simp
theorem BR {i j:Array UInt8}: decide (V.byt i=V.byt j)=(i.toList==j.toList):=by
  rw[Bool.eq_iff_iff]
  cases i
  cases j
  simp
section
variable {X:Cx}{a b c:Expr}{ta tb tc:TE}{pos:Pos}
theorem bG {pins:List (Addr×Obj)}{σ:St}{H:Hp}{s:Shared}{Q:VK}{k k':Bool}(I:Inv X pins σ H s)(q:Q (.bl k) H)(e:k=k'): EP X pins σ Q (.bool k') s:=by
  subst e
  exact⟨.bl k,H,I,rfl,q⟩
theorem oP:OpR X (compareOp .Eq) rEq:=by
  intro pins s σ H x y v u Q I rx ry h
  obtain⟨hs,q⟩:=h
  cases x with
  | non =>
    cases rx
    cases y with
    | non=>cases ry;exact PySem.EqNone.eq_none_none (bG I q (by simp))
    | bl j=>cases ry;exact PySem.EqNone.eq_none_bool (bG I q (by simp))
    | int j=>obtain⟨t',rfl⟩:=ry;exact PySem.EqNone.eq_none_int (bG I q (by simp))
    | str j=>obtain⟨t',rfl⟩:=ry;exact PySem.EqNone.eq_none_str (bG I q (by simp))
    | _=>exact absurd (show false=true from hs) Bool.false_ne_true
  | bl i =>
    cases rx
    cases y with
    | non=>cases ry;exact PySem.EqNone.eq_bool_none (bG I q (by simp))
    | bl j=>cases ry;exact eq_bool (bG I q Ef)
    | str j=>obtain⟨t',rfl⟩:=ry;exact PySem.EqMixed.eq_bool_str (bG I q (by simp))
    | _=>exact absurd (show false=true from hs) Bool.false_ne_true
  | int i =>
    obtain⟨t,rfl⟩:=rx
    cases y with
    | non=>cases ry;exact PySem.EqNone.eq_int_none (bG I q (by simp))
    | int j=>obtain⟨t',rfl⟩:=ry;exact eq_int (bG I q BP)
    | str j=>obtain⟨t',rfl⟩:=ry;exact PySem.EqMixed.eq_int_str (bG I q (by simp))
    | _=>exact absurd (show false=true from hs) Bool.false_ne_true
  | str i =>
    obtain⟨t,rfl⟩:=rx
    cases y with
    | non=>cases ry;exact PySem.EqNone.eq_str_none (bG I q (by simp))
    | bl j=>cases ry;exact PySem.EqMixed.eq_str_bool (bG I q (by simp))
    | int j=>obtain⟨t',rfl⟩:=ry;exact PySem.EqMixed.eq_str_int (bG I q (by simp))
    | str j=>obtain⟨t',rfl⟩:=ry;exact eq_str (bG I q BQ)
    | _=>exact absurd (show false=true from hs) Bool.false_ne_true
  | byt i =>
    obtain⟨t,rfl⟩:=rx
    cases y with
    | byt j=>obtain⟨t',rfl⟩:=ry;exact PySem.W.eq_bytes (bG I q BR)
    | _=>exact absurd (show false=true from hs) Bool.false_ne_true
  | _=>cases y<;>exact absurd (show false=true from hs) Bool.false_ne_true
theorem G_:OpR X (compareOp .NotEq) rNe:=by
  intro pins s σ H x y v u Q I rx ry h
  obtain⟨hs,q⟩:=h
  cases x with
  | non =>
    cases rx
    cases y with
    | non=>cases ry;exact PySem.EqNone.ne_none_none (bG I q (by simp))
    | bl j=>cases ry;exact PySem.EqNone.ne_none_bool (bG I q (by simp))
    | int j=>obtain⟨t',rfl⟩:=ry;exact PySem.EqNone.ne_none_int (bG I q (by simp))
    | str j=>obtain⟨t',rfl⟩:=ry;exact PySem.EqNone.ne_none_str (bG I q (by simp))
    | _=>exact absurd (show false=true from hs) Bool.false_ne_true
  | bl i =>
    cases rx
    cases y with
    | non=>cases ry;exact PySem.EqNone.ne_bool_none (bG I q (by simp))
    | bl j=>cases ry;exact ne_bool (bG I q (congrArg not Ef))
    | str j=>obtain⟨t',rfl⟩:=ry;exact PySem.EqMixed.ne_bool_str (bG I q (by simp))
    | _=>exact absurd (show false=true from hs) Bool.false_ne_true
  | int i =>
    obtain⟨t,rfl⟩:=rx
    cases y with
    | non=>cases ry;exact PySem.EqNone.ne_int_none (bG I q (by simp))
    | int j=>obtain⟨t',rfl⟩:=ry;exact ne_int (bG I q (congrArg not BP))
    | str j=>obtain⟨t',rfl⟩:=ry;exact PySem.EqMixed.ne_int_str (bG I q (by simp))
    | _=>exact absurd (show false=true from hs) Bool.false_ne_true
  | str i =>
    obtain⟨t,rfl⟩:=rx
    cases y with
    | non=>cases ry;exact PySem.EqNone.ne_str_none (bG I q (by simp))
    | bl j=>cases ry;exact PySem.EqMixed.ne_str_bool (bG I q (by simp))
    | int j=>obtain⟨t',rfl⟩:=ry;exact PySem.EqMixed.ne_str_int (bG I q (by simp))
    | str j=>obtain⟨t',rfl⟩:=ry;exact ne_str (bG I q (congrArg not BQ))
    | _=>exact absurd (show false=true from hs) Bool.false_ne_true
  | byt i =>
    obtain⟨t,rfl⟩:=rx
    cases y with
    | byt j=>obtain⟨t',rfl⟩:=ry;exact PySem.W.ne_bytes (bG I q (congrArg not BR))
    | _=>exact absurd (show false=true from hs) Bool.false_ne_true
  | _=>cases y<;>exact absurd (show false=true from hs) Bool.false_ne_true
theorem wJ:OpR X (compareOp .Lt) (rI0 fun i j=>.bl (decide (i < j))):=Ge fun _ _ _ _ _ _ _ q=>lt_int q
theorem gq:OpR X (compareOp .LtE) (rI0 fun i j=>.bl (decide (i<=j))):=Ge fun _ _ _ _ _ _ _ q=>le_int q
theorem zb:OpR X (compareOp .Gt) (rI0 fun i j=>.bl (decide (j < i))):=Ge fun _ _ _ _ _ _ _ q=>gt_int q
theorem Jd:OpR X (compareOp .GtE) (rI0 fun i j=>.bl (decide (j<=i))):=Ge fun _ _ _ _ _ _ _ q=>ge_int q
theorem xF:OpR X (compareOp .Is) (fun x y H Q=>y=.non/\Q (.bl (decide (x=.non))) H):=by
  intro pins s σ H x y v u Q I rx ry h
  obtain⟨rfl,q⟩:=h
  cases ry
  refine is_none_gen (bG I q ?_)
  cases x<;>first
    | (cases rx;rfl)
    | (obtain⟨t,rfl⟩:=rx;rfl)
theorem xG:OpR X (compareOp .IsNot) (fun x y H Q=>y=.non/\Q (.bl (!decide (x=.non))) H):=by
  intro pins s σ H x y v u Q I rx ry h
  obtain⟨rfl,q⟩:=h
  cases ry
  refine isnot_none_gen (bG I q ?_)
  cases x<;>first
    | (cases rx;rfl)
    | (obtain⟨t,rfl⟩:=rx;rfl)
theorem bH (b:Expr){op:CmpOp}(h:op≠.In:=by decide)(h2:op≠.NotIn:=by decide): behindInMarks op b=false:=by
  have e1:(op==CmpOp.In)=false:=by cases op<;>first | rfl | exact absurd rfl h
  have e2:(op==CmpOp.NotIn)=false:=by cases op<;>first | rfl | exact absurd rfl h2
  cases b<;>simp[behindInMarks,e1,e2]
theorem xH {op:CmpOp}{r:R2}(ho:OpR X (compareOp op) r)(ha:PE X a ta)(hb:PE X b tb)(hm:behindInMarks op b=false): PE X (.Compare a [op] [b] pos) (tOp r ta tb):=by
  intro pins s σ H Q I h
  exact wpAny_Compare1 (HM ha hb I h fun v u s2 x y H2 I2 rx ry q=>ho pins s2 σ H2 x y v u Q I2 rx ry q) hm
def Hc (t:TE): TT:=fun σ H Q=>t σ H fun x H'=>∃k,x=.bl k/\Q k H'
theorem aV {op:CmpOp}{r:R2}(ho:OpR X (compareOp op) r)(ha:PE X a ta)(hb:PE X b tb)(hm:behindInMarks op b=false): PT X (.Compare a [op] [b] pos) (Hc (tOp r ta tb)):=by
  intro pins s σ H Q I h
  refine wpAny_isTrue_Compare1 (thn (ha pins s σ H _ I h) fun v s1 ⟨x,H1,I1,r1,q1⟩=>thn (hb pins s1 σ H1 _ I1 q1) fun u s2 ⟨y,H2,I2,r2,q2⟩ =>
    thn (ho pins s2 σ H2 x y v u _ I2 r1 r2 q2) fun c s3 ⟨z,H3,I3,r3,k,e,q3⟩=>?_) hm
  subst e
  cases r3
  exact wpAny_truthy_bool ⟨H3,I3,q3⟩
def HP (r r':R2)(ta tb tc:TE): TE:=fun σ H Q=>ta σ H fun x H1=>tb σ H1 fun y H2=>r x y H2 fun z H3=>∃k,z=.bl k ∧
  (if k=true then tc σ H3 fun w' H4=>r' y w' H4 Q else Q (.bl false) H3)
theorem eQ {op op':CmpOp}{r r':R2}(ho:OpR X (compareOp op) r)(ho':OpR X (compareOp op') r')(ha:PE X a ta)(hb:PE X b tb)(hc:PE X c tc)
    (hm:lastMarks [op,op'] [b,c]=false:=by with_unfolding_all rfl):PT X (.Compare a [op,op'] [b,c] pos) (Hc (HP r r' ta tb tc)):=by
  intro pins s σ H Q I h
  refine isTrue_chain (thn (ha pins s σ H _ I h) fun v s1 ⟨x,H1,I1,r1,q1⟩=>test_link (thn (hb pins s1 σ H1 _ I1 q1) fun u s2 ⟨y,H2,I2,r2,q2⟩ =>
    thn (ho pins s2 σ H2 x y v u _ I2 r1 r2 q2) fun d s3 ⟨z,H3,I3,r3,k,e,q3⟩=>?_)) hm
  subst e
  cases r3
  refine wpAny_truthy_bool ?_
  cases k with
  | false =>
    obtain⟨k',e',q'⟩:=q3
    cases e'
    exact ite_ff ⟨H3,I3,q'⟩
  | true =>
    refine ite_tt (test_last (thn (hc pins s3 σ H3 _ I3 q3) fun w' s4 ⟨z',H4,I4,r4,q4⟩=>thn (ho' pins s4 σ H4 y z' u w' _ I4 r2 r4 q4) fun d' s5 ⟨z2,H5,I5,r5,k2,e2,q5⟩=>?_))
    subst e2
    cases r5
    exact wpAny_truthy_bool ⟨H5,I5,q5⟩
theorem Aw:(sizeLine:Nat) < 2^63:=by rw[sizeLine_eq];decide
theorem vals1 {x:V}{us:List Value}(r:Vals [x] us): ∃u,us=[u]/\RelV x u:=by
  cases r with
  | cons r1 r2=>cases r2;exact⟨_,rfl,r1⟩
theorem vals2 {x y:V}{us:List Value}(r:Vals [x,y] us): ∃u w',us=[u,w']/\RelV x u/\RelV y w':=by
  cases r with
  | cons r1 r2 =>
    cases r2 with
    | cons r3 r4=>cases r4;exact⟨_,_,rfl,r1,r3⟩
theorem CW (hc:X.calm=true): lP X (.builtin "min") (fun xs H Q=>∃i j,xs=[.int i,.int j]/\Q (.int (if j < i then j else i)) H):=by
  intro pins s σ H xs us Q I r h
  obtain⟨i,j,rfl,q⟩:=h
  obtain⟨u,w',rfl,⟨t,rfl⟩,⟨t',rfl⟩⟩:=vals2 r
  refine min_two_ints (I.ok.hd hc) fun h' tk k=>⟨_,H,I.kept k,?_,q⟩
  by_cases hj:j < i
  · rw[if_pos hj,if_pos hj];exact⟨_,rfl⟩
  · rw[if_neg hj,if_neg hj];exact⟨_,rfl⟩
theorem CY:lP X (.type "int") (fun xs H Q=>(∃i,xs=[.int i]/\Q (.int i) H)\/∃k,xs=[.bl k]/\Q (.int (if k then 1 else 0)) H):=by
  intro pins s σ H xs us Q I r h
  rcases h with ⟨i,rfl,q⟩ | ⟨k,rfl,q⟩
  · obtain⟨u,rfl,t,rfl⟩:=vals1 r
    exact call_int_int ⟨.int i,H,I,⟨_,rfl⟩,q⟩
  · obtain⟨u,rfl,r1⟩:=vals1 r
    cases r1
    exact call_int_bool ⟨.int (if k then 1 else 0),H,I.tok _,⟨_,rfl⟩,q⟩
end
end L2
namespace L2
open PySem PySem.Spec PyProof.Rows
structure Ax (h:Heap)(x dx C:Addr)(mA:Str->Option Value): Prop where
  obj:h.get? x=some (PySem.W.instObj C dx)
  ns:h.Ns1 dx mA
  ne:dx≠x
theorem CZ {h:Heap}{dx:Addr}{mA:Str->Option Value}(n:h.Ns1 dx mA): ∃od,h.get? dx=some od/\∀name,PySem.W.lookIn name od=some (mA name):=by
  obtain⟨o,es,ep,ho,hd,hk,_,hm⟩:=n
  refine⟨o,ho,fun name=>?_⟩
  have e:=hm name
  unfold nsFind findBy at e
  rw[<-Array.find?_toList] at e
  unfold PySem.W.lookIn
  rw[hd]
  dsimp only
  split
  · rename_i y q
    rw[q] at e
    exact congrArg some e
  · rename_i q
    rw[q] at e
    have a:es.toList.any (·.refKey)=false:=by
      rw[List.any_eq_false]
      intro y hy
      obtain⟨z,t,hkey⟩:=hk y (Array.mem_toList_iff.mp hy)
      simp[DictEntry.refKey,hkey]
    have a':¬es.toList.any (·.refKey)=true:=by rw[a];exact Bool.false_ne_true
    rw[if_neg a']
    exact congrArg some e
theorem Ax.look {h:Heap}{x dx C:Addr}{mA:Str->Option Value}(I:Ax h x dx C mA): ∃od,PySem.W.InstAt h x (PySem.W.instObj C dx) C (some od)/\∀name,PySem.W.lookIn name od=some (mA name) :=
  let ⟨od,ho,hl⟩:=CZ I.ns
  ⟨od,⟨I.obj,rfl,rfl,ho⟩,hl⟩
section
variable {prog:Program}{w:World}{A:Around}{E:Value->Shared->Prop}{s:Shared}{K:PySem.W.Frag}{x dx C f:Addr}{mA:Str->Option Value}{name:Str}{v:Value}
theorem get_map {expr:Bool}{Q:Value->Shared->Prop}(X:K.In s.heap)(I:Ax s.heap x dx C mA)(hg:PySem.W.plainGet K C name=true)(hh:PySem.W.hasDictIn K C=true)
    (ha:PySem.W.findIn K (.ref C) name=some none) (hv:mA name=some v) (hv':PySem.W.handedIn v=true) (h:Q v { s with toks:=s.toks+1 }) :
    wpAny (model prog w) A (getAttr (.ref x) name expr) Q E s:=by
  obtain⟨od,J,hl⟩:=I.look
  exact PySem.W.get_value X J (PySem.W.plainGet_of hg).1 (PySem.W.findObj_own hh ha rfl (by rw[hl,hv])) hv' h
theorem Eg {pl:Sem Bool}{Q:Value×List Value->Shared->Prop}(X:K.In s.heap)(I:Ax s.heap x dx C mA)(hg:PySem.W.plainGet K C name=true)
    (hf:PySem.W.findIn K (.ref C) name=some (some (.ref f))) (ht:PySem.W.isFn K (.ref f)=true) (hv:mA name=none) (h:Q (.ref f,[.ref x]) s) :
    wpAny (model prog w) A (getMethod (.ref x) name pl) Q E s:=by
  obtain⟨od,J,hl⟩:=I.look
  exact PySem.W.method_fn X J (PySem.W.plainGet_of hg).1 (PySem.W.plainGet_of hg).2 hf (beq_iff_eq.mp ht) (by show (PySem.W.lookIn name od).map (·.isSome)=some false;rw[hl,hv];rfl) h
theorem Gg {ns:List Str}{Q:Unit->Shared->Prop}(X:K.In s.heap)(I:Ax s.heap x dx C mA)
    (hs:PySem.W.findIn K (.ref C) "__setattr__" = some (some (.builtin "object.__setattr__"))) (hp:PySem.W.plainOver K C=true) (ht:PySem.W.takerIn K C name=some none) (hh:PySem.W.hasDictIn K C=true)
    (hw:PySem.Within mA ns) (hsz:ns.length<=sizeLine)
    (h:∀h',Ax h' x dx C (fun y=>if y=name then some v else mA y)->Heap.SameBut dx s.heap h'->Q () { s with heap:=h',toks:=s.toks+2 }) :
    wpAny (model prog w) A (setAttr (.ref x) name v) Q E s:=by
  obtain⟨od,J,hl⟩:=I.look
  refine PySem.W.set_plain X J hs (PySem.W.osa_open (s:={ s with toks:=s.toks+1 }) (r:=none) X J hp ht fun b=>?_)
  obtain⟨cd,hc,hd'⟩:=PySem.W.any_some hh
  have hx:s.heap.get? x=some ⟨.ref C,some dx,.plain,#[]⟩:=I.obj
  refine wpAny_bind (wpAny_pure (wpAny_bind (wpAny_bind (wpAny_loadPart hx (wpAny_bind (PySem.W.Looks.here (s:={ s with toks:=s.toks+1 }) (PySem.W.looks_clsIn X hc) ?_))))))
  rw[hd']
  refine wpAny_pure (a:=some dx) (wpAny_bind (wpAny_pure (wpAny_bind ?_)))
  refine wpAny_nsSet1 (s:={ s with toks:=s.toks+1 }) I.ns fun h' hn2 hs2=>?_
  obtain⟨oD,esD,epD,hoD,hdD,hcD⟩:=hn2.count (PySem.Within.cons name v hw)
  refine wpAny_bind (wpAny_lookBehind hoD (by rw[hdD];exact pastItsLine_dict (Nat.le_trans hcD (by rw[List.length_cons];omega))) ?_)
  exact wpAny_pure (h _ ⟨(hs2.2 _ (Ne.symm I.ne)).trans I.obj,hn2,I.ne⟩ hs2)
theorem Eh {R:Result->Shared->Prop}{vs:List Value}{kw:List (Str×Value)}(X:K.In s.heap)(hm:PySem.W.makesIn K C=true)
    (hi:PySem.W.findIn K (.ref C) "__init__" = some (some (.ref f))) (hf:PySem.W.typeIn K (.ref f)=some (.type "function"))
    (h:codeAny (model prog w) (A.under (.builtin "type.__call__" ⟨.ref C::vs,kw⟩)) (.call (.ref f) ⟨.ref (s.heap.objs.size+1)::vs,kw⟩) (PySem.W.InitBack (s.heap.objs.size+1) R)
      { s with heap:=(s.heap.push PySem.W.emptyDict).push (PySem.W.instObj C s.heap.objs.size) }) :
    codeAny (model prog w) A (.call (.ref C) ⟨vs,kw⟩) R s:=by
  obtain⟨hh,g,d,t,os⟩:=s
  exact PySem.W.make_core (PySem.W.makes_of X hm) (PySem.W.looks_findIn X hi) (fun self=>PySem.W.bind_fn X self hf) (.inl rfl) h
end
def gu (f:Str)(v:V): List (Str×V)->List (Str×V)
  | []=>[(f,v)]
  | (g,x)::r=>if g=f then (g,v)::r else (g,x)::gu f v r
theorem cS (f g:Str)(v:V): ∀fs:List (Str×V),(gu f v fs).lookup g=if g=f then some v else fs.lookup g
  | []=>by
    show List.lookup g [(f,v)]=_
    by_cases h:g=f
    · have hb:(g==f)=true:=beq_iff_eq.mpr h
      simp only [List.lookup,hb,if_pos h]
    · have hb:(g==f)=false:=beq_eq_false_iff_ne.mpr h
      simp only [List.lookup,hb,if_neg h]
  | (k,x)::r=>by
    have ih:=cS f g v r
    rw[show gu f v ((k,x)::r)=(if k=f then (k,v)::r else (k,x)::gu f v r) from rfl]
    by_cases hk:k=f
    · rw[if_pos hk]
      by_cases h:g=k
      · have hb:(g==k)=true:=beq_iff_eq.mpr h
        simp only [List.lookup,hb,if_pos (h.trans hk)]
      · have hb:(g==k)=false:=beq_eq_false_iff_ne.mpr h
        simp only [List.lookup,hb,if_neg (fun e:g=f=>h (e.trans hk.symm))]
    · rw[if_neg hk]
      by_cases h:g=k
      · have hb:(g==k)=true:=beq_iff_eq.mpr h
        simp only [List.lookup,hb,if_neg (fun e:g=f=>hk (h.symm.trans e))]
      · have hb:(g==k)=false:=beq_eq_false_iff_ne.mpr h
        simp only [List.lookup,hb]
        exact ih
theorem j6 (f:Str)(v:V): ∀fs:List (Str×V),f∈(gu f v fs).map (·.1)/\∀g,g∈fs.map (·.1)->g∈(gu f v fs).map (·.1)
  | []=>⟨by simp[gu],fun g h=>by simp at h⟩
  | (k,x)::r=>by
    obtain⟨i1,i2⟩:=j6 f v r
    rw[show gu f v ((k,x)::r)=(if k=f then (k,v)::r else (k,x)::gu f v r) from rfl]
    by_cases hk:k=f
    · rw[if_pos hk]
      subst hk
      exact⟨by simp,fun g h=>by simpa using h⟩
    · rw[if_neg hk]
      refine⟨?_,fun g h=>?_⟩
      · rw[List.map_cons]
        exact List.mem_cons_of_mem _ i1
      · rw[List.map_cons] at h ⊢
        rcases List.mem_cons.mp h with e | e
        · exact List.mem_cons.mpr (.inl e)
        · exact List.mem_cons_of_mem _ (i2 g e)
theorem qY (f:Str)(v:V): ∀fs:List (Str×V),(gu f v fs).length<=fs.length+1
  | []=>by simp[gu]
  | (k,x)::r=>by
    have ih:=qY f v r
    rw[show gu f v ((k,x)::r)=(if k=f then (k,v)::r else (k,x)::gu f v r) from rfl]
    by_cases hk:k=f
    · rw[if_pos hk,List.length_cons,List.length_cons];omega
    · rw[if_neg hk,List.length_cons,List.length_cons];omega
theorem fJ.some_of {v:V}{o:Option Value}(r:fJ (some v) o): ∃u,o=some u/\RelV v u:=by
  cases o with
  | none=>exact(show False from r).elim
  | some u=>exact⟨u,rfl,r⟩
theorem fJ.none_of {o:Option Value}(r:fJ none o): o=none:=by
  cases o with
  | none=>rfl
  | some u=>exact(show False from r).elim
theorem wK {v:V}{u:Value}(r:RelV v u): PySem.W.handedIn u=true:=by
  cases v with
  | non=>cases (show u=Value.none from r);rfl
  | bl b=>cases (show u=Value.bool b from r);rfl
  | int i=>obtain⟨t,e⟩:=(show ∃t,u=Value.int i t from r);cases e;rfl
  | str x=>obtain⟨t,e⟩:=(show ∃t,u=Value.str x t from r);cases e;rfl
  | byt b=>obtain⟨t,e⟩:=(show ∃t,u=Value.bytes b t from r);cases e;rfl
  | flt b=>obtain⟨t,e⟩:=(show ∃t,u=Value.float b t from r);cases e;rfl
  | ref a=>cases (show u=Value.ref a from r);rfl
  | ty n=>cases (show u=Value.type n from r);rfl
section
variable {P:Program}{w:World}{H H':Hp}{h h':Heap}{a C dx:Addr}{fs fs':List (Str×V)}
theorem sX (hok:HOk P w H h)(e:H a=some (.ins C dx fs)): ∃mA,Ax h a dx C mA/\(∀f,fJ (fs.lookup f) (mA f))/\PySem.Within mA (fs.map (·.1))/\fs.length<=1000/\H dx=some (.own a):=by
  obtain⟨d,z,ne,ob,mA,n,r,q⟩:=(show b4 P w H h a (.ins C dx fs) from hok a _ e)
  exact⟨mA,⟨ob,n,ne⟩,r,q,z,d⟩
end
structure Cls (K:PySem.W.Frag)(C:Addr): Prop where
  pg:PySem.W.plainGet K C Str.empty=true
  hd:PySem.W.hasDictIn K C=true
  po:PySem.W.plainOver K C=true
  sa:PySem.W.findIn K (.ref C) "__setattr__" = some (some (.builtin "object.__setattr__"))
theorem Cls.get {K:PySem.W.Frag}{C:Addr}(c:Cls K C)(f:Str): PySem.W.plainGet K C f=true:=c.pg
def aQ (K:PySem.W.Frag)(C:Addr)(f:Str): Prop:=PySem.W.findIn K (.ref C) f=some none
theorem aQ.taker {K:PySem.W.Frag}{C:Addr}{f:Str}(n:aQ K C f): PySem.W.takerIn K C f=some none:=by
  unfold PySem.W.takerIn
  rw[show PySem.W.findIn K (.ref C) f=some none from n]
  rfl
structure Meth (K:PySem.W.Frag)(C:Addr)(m:Str)(f:Addr): Prop where
  at_:PySem.W.findIn K (.ref C) m=some (some (.ref f))
  fn:PySem.W.isFn K (.ref f)=true
  kp:PySem.W.keepIn K (.ref f)=true
section
variable {X:Cx}{pins:List (Addr×Obj)}{σ:St}{H:Hp}{s:Shared}{a C dx:Addr}{fs:List (Str×V)}{f:Str}{v:V}{A:Around}{E:Value->Shared->Prop}
theorem Ay {b:Bool}{Q:Value->Shared->Prop}(I:Inv X pins σ H s)(e:H a=some (.ins C dx fs))(c:Cls X.K C)(n:aQ X.K C f)(l:fs.lookup f=some v)
    (h:∀u s',Inv X pins σ H s'->RelV v u->Q u s'):wpAny (model X.prog X.w) A (getAttr (.ref a) f b) Q E s:=by
  obtain⟨mA,O,r,_,_,_⟩:=sX I.hok e
  obtain⟨u,hu,ru⟩:=fJ.some_of (v:=v) (o:=mA f) (by rw[<-l];exact r f)
  exact get_map I.kIn O (c.get f) c.hd n hu (wK ru) (h u _ (I.tok _) ru)
theorem nY {m:Str}{g:Addr}{pl:Sem Bool}{Q:Value×List Value->Shared->Prop}(I:Inv X pins σ H s)(e:H a=some (.ins C dx fs))(c:Cls X.K C)(k:Meth X.K C m g)(l:fs.lookup m=none)
    (h:Q (.ref g,[.ref a]) s):wpAny (model X.prog X.w) A (getMethod (.ref a) m pl) Q E s:=by
  obtain⟨mA,O,r,_,_,_⟩:=sX I.hok e
  have hn:mA m=none:=fJ.none_of (by rw[<-l];exact r m)
  exact Eg I.kIn O (c.get m) k.at_ k.fn hn h
theorem Az {y:V}{u:Value}{Q:Unit->Shared->Prop}(I:Inv X pins σ H s)(e:H a=some (.ins C dx fs))(c:Cls X.K C)(n:aQ X.K C f)(hl:fs.length < 1000)(ry:RelV y u)
    (h:∀s',Inv X pins σ (upd H a (.ins C dx (gu f y fs))) s'->Q () s'):wpAny (model X.prog X.w) A (setAttr (.ref a) f u) Q E s:=by
  obtain⟨mA,O,r,wi,_,ho⟩:=sX I.hok e
  have hz:(fs.map (·.1)).length<=sizeLine:=by rw[List.length_map,sizeLine_eq];omega
  refine Gg I.kIn O c.sa c.po n.taker c.hd wi hz fun h' O' sb=>h _ ?_
  have hd:∃o,h'.get? dx=some o:=let ⟨o,_,_,e',_⟩:=O'.ns;⟨o,e'⟩
  refine I.write (x:=a) (e:=dx) (by rw[e];exact True.intro) (.inr ho) (fun b q hb z=>(sb.2 b hb).trans z) hd ?_
  refine⟨by rw[av O.ne];exact ho,?_,O.ne,O'.obj,_,O'.ns,fun g=>?_,fun g hg=>?_⟩
  · have:=qY f y fs;omega
  · show fJ ((gu f y fs).lookup g) (if g=f then some u else mA g)
    rw[cS]
    by_cases q:g=f
    · rw[if_pos q,if_pos q];exact ry
    · rw[if_neg q,if_neg q];exact r g
  · by_cases q:g=f
    · rw[q];exact(j6 f y fs).1
    · refine(j6 f y fs).2 g (wi g fun z=>hg ?_)
      show (if g=f then some u else mA g)=none
      rw[if_neg q];exact z
theorem Inv.made (I:Inv X pins σ H s): Inv X pins σ (upd (upd H s.heap.objs.size (.own (s.heap.objs.size+1))) (s.heap.objs.size+1) (.ins C s.heap.objs.size []))
    { s with heap:=(s.heap.push PySem.W.emptyDict).push (PySem.W.instObj C s.heap.objs.size) }:=by
  have e1:(s.heap.push PySem.W.emptyDict).get? s.heap.objs.size=some PySem.W.emptyDict:=Heap.get?_push_size s.heap rfl
  have e2:((s.heap.push PySem.W.emptyDict).push (PySem.W.instObj C s.heap.objs.size)).get? (s.heap.objs.size+1)=some (PySem.W.instObj C s.heap.objs.size):=by
    have:=Heap.get?_push_size (s.heap.push PySem.W.emptyDict) (o:=PySem.W.instObj C s.heap.objs.size) rfl
    rwa [Heap.size_push] at this
  have e3:(s.heap.push PySem.W.emptyDict).Ns s.heap.objs.size (fun _=>none):=⟨PySem.W.emptyDict,#[],_,e1,rfl,(fun e he=>absurd he (by simp)),fun _=>rfl⟩
  have I1:=I.laid (a:=s.heap.objs.size) (o:=.own (s.heap.objs.size+1)) (h':=s.heap.push PySem.W.emptyDict) (t':=s.toks) (fun b u q=>Heap.get?_push_of_some _ q) (Nat.le_refl _) ⟨_,e1⟩
  refine I1.laid (a:=s.heap.objs.size+1) (o:=.ins C s.heap.objs.size []) (t':=s.toks) (fun b u q=>Heap.get?_push_of_some _ q) (Nat.le_of_eq (Heap.size_push _ _)) ?_
  have ne:s.heap.objs.size≠s.heap.objs.size+1:=Nat.ne_of_lt (Nat.lt_succ_self _)
  refine⟨by rw[av ne,aq],Nat.zero_le _,ne,e2,fun _=>none,(Heap.Ns1.of_empty e3).at fun o q=>Heap.get?_push_of_some _ q,fun _=>True.intro,fun y hy=>absurd rfl hy⟩
theorem BU {prog:Program}{w:World}{env:Env}{e:Expr}{f:Str}{pos:Pos}{s:Shared}{Q:Value->Shared->Prop}(hb:attributeBase e f env (eval e env)=eval e env)
    (h:wpAny (model prog w) A (eval e env) (fun o s₁=>wpAny (model prog w) A (getAttr o f true) Q E s₁) E s):wpAny (model prog w) A (eval (.Attribute e f pos) env) Q E s :=
  Attribute_any_ h (by rw[arm_eval_Attribute,hb])
end
def Je (K:PySem.W.Frag)(ta:TE)(f:Str): TE:=fun σ H Q=>ta σ H fun x H1=>∃a C dx fs v,x=.ref a/\H1 a=some (.ins C dx fs)/\Cls K C/\aQ K C f/\fs.lookup f=some v/\Q v H1
def Ko (K:PySem.W.Frag)(ta tv:TE)(f:Str): TS:=fun D σ H=>tv σ H fun y H1=>ta σ H1 fun x H2=>∃a C dx fs,x=.ref a/\H2 a=some (.ins C dx fs)/\Cls K C/\aQ K C f/\fs.length < 1000 ∧
  D.nx σ (upd H2 a (.ins C dx (gu f y fs)))
section
variable {X:Cx}{o e value:Expr}{f:Str}{pos pos' tpos:Pos}{ta tv:TE}
theorem aJ (he:PE X e ta)(hb:attributeBase e f X.env (eval e X.env)=eval e X.env): PE X (.Attribute e f pos) (Je X.K ta f):=by
  intro pins s σ H Q I h
  refine BU hb (thn (he pins s σ H _ I h) fun u s1 ⟨x,H1,I1,rx,a,C,dx,fs,v,ex,ea,c,n,l,q⟩=>?_)
  subst ex
  obtain rfl:u=Value.ref a:=rx
  exact Ay I1 ea c n l fun u' s2 I2 ru=>⟨v,H1,I2,ru,q⟩
theorem bI (ha:PE X o ta)(hv:PE X value tv)(hs:swapsWith value (some (.Attribute o f pos')) pos.line X.env=pure false): PS X (.Assign [.Attribute o f pos'] value pos) (Ko X.K ta tv f):=by
  intro pins s σ H D I h
  refine plainObj_wpAny_Assign_Attribute (thn (hv pins s σ H _ I h) fun u s1 ⟨y,H1,I1,ry,q⟩=>thn (ha pins s1 σ H1 _ I1 q) fun ov s2 ⟨x,H2,I2,rx,a,C,dx,fs,ex,ea,c,n,l,q2⟩=>?_) hs
  subst ex
  obtain rfl:ov=Value.ref a:=rx
  exact Az I2 ea c n l ry fun s3 I3=>⟨σ,_,I3,q2⟩
end
section
variable {X:Cx}{pins:List (Addr×Obj)}{σ:St}{H:Hp}{s:Shared}{A:Around}{E:Value->Shared->Prop}{Q:Value->Shared->Prop}{c:Value}{b:Bool}
inductive aC (K:PySem.W.Frag)(H:Hp): V->Value->Prop where
  | non:aC K H .non (.type "NoneType")
  | bl (x:Bool):aC K H (.bl x) (.type "bool")
  | int (i:Int):aC K H (.int i) (.type "int")
  | str (x:Str):aC K H (.str x) (.type "str")
  | flt (x:UInt64):aC K H (.flt x) (.type "float")
  | lst {a:Addr} {xs:List V} (e:H a=some (.lst xs)):aC K H (.ref a) (.type "list")
  | frz {a:Addr} {o:Obj} {xs:List V} (e:H a=some (.frz o (.lst xs))):aC K H (.ref a) (.type "list")
  | tup {a:Addr} {xs:List V} (e:H a=some (.tup xs)):aC K H (.ref a) (.type "tuple")
  | dK {a:Addr} {kvs:List (Key×V)} (e:H a=some (.dK kvs)):aC K H (.ref a) (.type "dict")
  | dT {a:Addr} {kvs:List (List Key×V)} (e:H a=some (.dT kvs)):aC K H (.ref a) (.type "dict")
  | ins {a C dx:Addr} {fs:List (Str×V)} (e:H a=some (.ins C dx fs)) (cl:Cls K C) (ha:PySem.W.findIn K (.ref C) "__class__" = some (some (.builtin "object.__class__")))
      (hn:PySem.W.specialIn K (.builtin "object.__class__") "__get__" = some (some (.builtin "getset_descriptor.__get__"))) (htk:PySem.W.takesIn K (.builtin "object.__class__")=some true)
      (hm:PySem.W.mroIn K C (.type "object")=some true):aC K H (.ref a) (.ref C)
end
end L2
namespace L2
open PySem PySem.Spec PyProof.Rows
structure c7 (k:Nat)(A:Around): Prop where
  hd:A.handled=none
  dp:A.depth+3*k+5 < recursionLimit
  un:A.units+16*k+200 < cLine
theorem c7.mono {j k:Nat}{A:Around}(r:c7 k A)(h:j<=k): c7 j A:=⟨r.hd,by have:=r.dp;omega,by have:=r.un;omega⟩
theorem c7.deeper {k:Nat}{A:Around}(r:c7 (k+1) A)(env:Env): c7 k (A.deeper env) :=
  ⟨r.hd,by have:=r.dp;show A.depth+1+3*k+5 < _;omega,by have:=r.un;show A.units+3+16*k+200 < _;omega⟩
theorem AA {A:Around}{C:Addr}{us:List Value}{kw:List (Str×Value)}: (A.under (.builtin "type.__call__" ⟨.ref C::us,kw⟩)).depth=A.depth+1:=by
  first | rfl | simp[Around.under,Code.weight,Code.isCreation,Code.isGuard,Code.isCaller,Code.frames,Code.isFrame,guardIds]
theorem AB {A:Around}{C:Addr}{us:List Value}{kw:List (Str×Value)}: (A.under (.builtin "type.__call__" ⟨.ref C::us,kw⟩)).units=A.units+1:=by
  first | rfl | simp[Around.under,Code.cUnits,Code.frames,Code.isFrame]
theorem c7.make {k:Nat}{A:Around}(r:c7 (k+1) A)(C:Addr)(us:List Value)(kw:List (Str×Value)): c7 k (A.under (.builtin "type.__call__" ⟨.ref C::us,kw⟩)) :=
  ⟨r.hd,by have:=r.dp;rw[AA];omega,by have:=r.un;rw[AB];omega⟩
theorem c7.depth {k:Nat}{A:Around}(r:c7 k A): A.depth < recursionLimit:=by have:=r.dp;omega
theorem c7.units {k:Nat}{A:Around}(r:c7 k A): A.units+64 < cLine:=by have:=r.un;omega
def Gh:TA:=fun _ H Q=>Q [] H
def Hf (ta:TE)(tr:TA): TA:=fun σ H Q=>ta σ H fun x H1=>tr σ H1 fun xs H2=>Q (x::xs) H2
section
variable {X:Cx}{e:Expr}{es:List Expr}{te:TE}{t:TA}{pos:Pos}
theorem aj:PA X [] Gh:=fun _ _ _ _ H Q I h=>Calls.spliced_nil ⟨[],H,I,.nil,h⟩
theorem oQ (ha:PE X e te)(hr:PA X es t)(hs:starEach (e::es) X.env=(false,eval e X.env)::starEach es X.env:=by rfl): PA X (e::es) (Hf te t):=by
  intro pos pins s σ H Q I h
  rw[hs]
  show wpAny _ _ (spliced ((false,eval e X.env)::backTo pos (starEach es X.env))) _ _ s
  refine Calls.spliced_cons (thn (ha pins s σ H _ I h) fun u s1 ⟨x,H1,I1,r1,q1⟩=>?_)
  exact thn (hr pos pins s1 σ H1 _ I1 q1) fun us s2 ⟨xs,H2,I2,r2,q2⟩=>⟨x::xs,H2,I2,.cons r1 r2,q2⟩
def Kp (t:TA): TE:=fun σ H Q=>t σ H fun xs H1=>xs.length<=sizeLine/\∀p,H1 p=none->Q (.ref p) (upd H1 p (.tup xs))
def Ks (t:TA): TE:=fun σ H Q=>t σ H fun xs H1=>xs.length<=sizeLine/\∀p,H1 p=none->Q (.ref p) (upd H1 p (.lst xs))
theorem b8 {x1}(h:PA X es t): PE X (.Tuple es x1 pos) (Kp t):=by
  intro pins s σ H Q I hq
  refine wpAny_Tuple_spliced (thn (h pos pins s σ H _ I hq) fun us s1 ⟨xs,H1,I1,r,z,q⟩=>⟨by rw[<-r.length];exact z,?_⟩)
  have hf:H1 s1.heap.objs.size=none:=I1.hok.fresh (Nat.le_refl _)
  refine⟨.ref s1.heap.objs.size,upd H1 s1.heap.objs.size (.tup xs),I1.laid (t':=s1.toks) (fun b u e=>Heap.get?_push_of_some _ e) (Nat.le_refl _) ?_,rfl,q _ hf⟩
  exact⟨z,us,r,⟨_,Heap.get?_push_size _ rfl,rfl,_,rfl⟩⟩
theorem kB (h:PA X es t): PE X (.List es pos) (Ks t):=by
  intro pins s σ H Q I hq
  refine wpAny_List_spliced (thn (h pos pins s σ H _ I hq) fun us s1 ⟨xs,H1,I1,r,z,q⟩=>⟨by rw[<-r.length];exact z,?_⟩)
  have hf:H1 s1.heap.objs.size=none:=I1.hok.fresh (Nat.le_refl _)
  refine⟨.ref s1.heap.objs.size,upd H1 s1.heap.objs.size (.lst xs),I1.laid (t':=s1.toks) (fun b u e=>Heap.get?_push_of_some _ e) (Nat.le_refl _) ?_,rfl,q _ hf⟩
  exact⟨z,us,0,r,Heap.get?_push_size _ rfl⟩
end
abbrev Sp:=List V->Hp->VK->XK->Prop
abbrev CXT:=List Env->Hp->Shared->XK->Value->Shared->Prop
structure AF (P:Program)(w:World)(K:PySem.W.Frag)(mg:Str->Option Value)(base:Heap)(A:Around)(outer:List Env)(s:Shared)(H:Hp): Prop where
  frames:A.frames=some outer
  mod:Mod K mg base
  bs:∀b o,base.get? b=some o->s.heap.get? b=some o/\H b=none
  bsz:base.objs.size<=s.heap.objs.size
  rR:s.heap.FunFrames base outer
  frf:∀b∈frs outer,H b=none
  hok:HOk P w H s.heap
  bare:AllBare s.gens
def CE (outer:List Env)(P:Program)(w:World)(H:Hp)(s:Shared)(Q:VK)(u:Value)(s':Shared): Prop :=
  ∃v H',s'.os=s.os/\AllBare s'.gens/\Un (frs outer) [] H H' s.heap s'.heap/\HOk P w H' s'.heap/\RelV v u/\Q v H'
def CR (CX:CXT)(outer:List Env)(P:Program)(w:World)(H:Hp)(s:Shared)(Q:VK)(E:XK)(r:Result)(s':Shared): Prop :=
  match r with
  | .ok (.ret u)=>CE outer P w H s Q u s'
  | .ok _=>False
  | .error e=>CX outer H s E e s'
structure gv (P:Program)(w:World)(K:PySem.W.Frag)(mg:Str->Option Value)(base:Heap)(CX:CXT)(k:Nat)(f:Addr)(fd:FuncData)(ps:List Str)(sp:Sp): Prop where
  len:∀vs H Q E,sp vs H Q E->vs.length=ps.length
  run:∀(A:Around) (outer:List Env) (s:Shared) (H:Hp) (args:Args) (us:List Value) (vs:List V) (Q:VK) (E:XK),c7 k A->AF P w K mg base A outer s H->BindsTo s fd args (ps.zip us)->Vals vs us->sp vs H Q E ->
    codeAny (model P w) A (.call (.ref f) args) (CR CX outer P w H s Q E) s
theorem AF.make {P:Program}{w:World}{K:PySem.W.Frag}{mg:Str->Option Value}{base:Heap}{A:Around}{outer:List Env}{s:Shared}{H:Hp}(e:AF P w K mg base A outer s H)(C:Addr)(us:List Value)(kw:List (Str×Value)):
    AF P w K mg base (A.under (.builtin "type.__call__" ⟨.ref C::us,kw⟩)) outer s H:=⟨by first | exact e.frames | (simpa [Around.under,Code.envs,Code.isFrame,pushEnvs] using e.frames),e.mod,e.bs,e.bsz,e.rR,e.frf,e.hok,e.bare⟩
section
variable {X:Cx}{pins:List (Addr×Obj)}{σ:St}{H:Hp}{s s':Shared}
theorem Inv.env0 (I:Inv X pins σ H s): AF X.prog X.w X.K X.mg X.base X.A X.stack s H :=
  ⟨I.ok.frames,I.ok.mod,I.bs,Nat.le_trans I.ok.bsz I.sz,I.stack,I.xA,I.hok,I.bare⟩
theorem Inv.after {Q:VK}{u:Value}(I:Inv X pins σ H s)(h:CE X.stack X.prog X.w H s Q u s'): EP X pins σ Q u s':=by
  obtain⟨v,H',os,bare,un,hok,r,q⟩:=h
  obtain⟨hh,g,d,t,os'⟩:=s'
  obtain rfl:os'=s.os:=os
  exact⟨v,H',I.call (h':=hh) (g':=g) (d':=d) (t':=t) (ch:=[]) un hok bare (fun b z=>absurd z (by simp)),r,q⟩
end
def Binds (K:PySem.W.Frag)(fd:FuncData)(ps:List Str)(ds:List Value): Prop :=
  ∀(s:Shared) (us:List Value),K.In s.heap->(us++ds).length=ps.length->BindsTo s fd ⟨us,[]⟩ (ps.zip (us++ds))
theorem Binds.all {K:PySem.W.Frag}{fd:FuncData}{ps:List Str}(h:∀us:List Value,us.length=ps.length->bindArgs fd ⟨us,[]⟩=pure (ps.zip us)): Binds K fd ps []:=fun s us _ hl=>by
  rw[List.append_nil] at hl ⊢
  exact .of_eq (h us hl)
section
variable {X:Cx}{CX:CXT}{k:Nat}{f C:Addr}{fd:FuncData}{ps:List Str}{sp:Sp}{dvs:List V}{ds:List Value}{E:XK}{x m:Str}{p pos apos:Pos}{e o:Expr}{es:List Expr}{ta:TE}{t:TA}
structure Mk (K:PySem.W.Frag)(C f:Addr): Prop where
  makes:PySem.W.makesIn K C=true
  init:PySem.W.findIn K (.ref C) "__init__" = some (some (.ref f))
  fn:PySem.W.isFn K (.ref f)=true
  kp:PySem.W.keepIn K (.ref C)=true
end
section
variable {X:Cx}{CX:CXT}{k:Nat}{f C:Addr}{fd:FuncData}{ps ks:List Str}{sp:Sp}{E:XK}{x m:Str}{p pos apos kpos:Pos}{e o:Expr}{es:List Expr}{kws:List Keyword}{te ta:TE}{t tk:TA}{nm:Option Str}
variable {g:List Value->List Value->List Value}{gV:List V->List V->List V}
end
structure ay (N P:List Str)(sc:Scope): Prop where
  kind:sc.kind=.function
  co:sc.isCoroutine=false
  gen:sc.isGenerator=false
  nd:N.Nodup
  pre:N.take P.length=P
  par:∀x∈P,sc.names.lookup x=some .local\/sc.names.lookup x=some .cell
  HQ:∀y∈sc.names,y.2≠.free
theorem wL {kindOf:Str->Option NameKind}{x:Str}: ∀{binds:List (Str×Value)} {m:Str->Option Value},(∀v,(x,v)∉binds)->bindL kindOf binds m x=m x
  | [],_,_=>rfl
  | (n,v)::r,m,h=>by
    unfold bindL
    rw[wL fun w hw=>h w (List.mem_cons_of_mem _ hw)]
    split
    · have:x≠n:=by rintro rfl;exact h v List.mem_cons_self
      simp[this]
    · rfl
theorem wM {kindOf:Str->Option NameKind}{x:Str}: ∀{binds:List (Str×Value)} {m:Str->Option Value},(∀v,(x,v)∉binds)->bindC kindOf binds m x=m x
  | [],_,_=>rfl
  | (n,v)::r,m,h=>by
    unfold bindC
    rw[wM fun w hw=>h w (List.mem_cons_of_mem _ hw)]
    split
    · rfl
    · have:x≠n:=by rintro rfl;exact h v List.mem_cons_self
      simp[this]
theorem wN {kindOf:Str->Option NameKind}{x:Str}{v:Value}: ∀{P:List Str} {vs:List Value} {i:Nat} {m:Str->Option Value},P.Nodup->P[i]?=some x->vs[i]?=some v->kindOf x=some .local ->
    bindL kindOf (P.zip vs) m x=some v
  | [],_,_,_,_,h,_,_=>by simp at h
  | _::_,[],_,_,_,_,h,_=>by simp at h
  | p::P,w::vs,0,m,nd,h1,h2,hk=>by
    simp at h1 h2;subst h1;subst h2
    show bindL kindOf ((p,w)::P.zip vs) m p=_
    unfold bindL
    rw[wL fun v hv=>(List.nodup_cons.mp nd).1 (List.of_mem_zip hv).1,if_pos hk]
    simp
  | p::P,w::vs,i+1,m,nd,h1,h2,hk=>by
    show bindL kindOf ((p,w)::P.zip vs) m x=_
    unfold bindL
    exact wN (i:=i) (List.nodup_cons.mp nd).2 (by simpa using h1) (by simpa using h2) hk
theorem wO {kindOf:Str->Option NameKind}{x:Str}{v:Value}: ∀{P:List Str} {vs:List Value} {i:Nat} {m:Str->Option Value},P.Nodup->P[i]?=some x->vs[i]?=some v->kindOf x≠some .local ->
    bindC kindOf (P.zip vs) m x=some v
  | [],_,_,_,_,h,_,_=>by simp at h
  | _::_,[],_,_,_,_,h,_=>by simp at h
  | p::P,w::vs,0,m,nd,h1,h2,hk=>by
    simp at h1 h2;subst h1;subst h2
    show bindC kindOf ((p,w)::P.zip vs) m p=_
    unfold bindC
    rw[wM fun v hv=>(List.nodup_cons.mp nd).1 (List.of_mem_zip hv).1,if_neg hk]
    simp
  | p::P,w::vs,i+1,m,nd,h1,h2,hk=>by
    show bindC kindOf ((p,w)::P.zip vs) m x=_
    unfold bindC
    exact wO (i:=i) (List.nodup_cons.mp nd).2 (by simpa using h1) (by simpa using h2) hk
def start (N:List Str)(vs:List V): St:=vs.map some++List.replicate (N.length-vs.length) none
def iq (CX:CXT)(P:Program)(w:World)(K:PySem.W.Frag)(mg:Str->Option Value)(base:Heap)(N:List Str)(qual:Str)(scope:Scope)(f:Addr)(cd:Value)(A:Around)(outer:List Env)(s:Shared)(H:Hp)(E:XK): Cx where
  prog:=P
  w:=w
  K:=K
  mg:=mg
  base:=base
  A:=A.deeper (envOfC qual scope s.heap.objs.size f cd)
  N:=N
  s₀:=s
  H₀:=H
  env:=envOfC qual scope s.heap.objs.size f cd
  outer:=outer
  stack:=envOfC qual scope s.heap.objs.size f cd::outer
  ex:=[]
  calm:=true
  fn:=fun _=>true
  pn:=[]
  xe:=fun e s'=>wpAny (model P w) (A.deeper (envOfC qual scope s.heap.objs.size f cd)) (leaving (envOfC qual scope s.heap.objs.size f cd) e) (fun _ s''=>CX outer H s E e s'') (fun e' s''=>CX outer H s E e' s'') s'
theorem zc {sc:Scope}{n:Nat}{x:Str}(h:sc.names.lookup x=some .cell): ∃c,(cellsFrom n sc.names []).lookup x=some c:=by
  have q:=PySem.W.cellsFrom_some sc.names n [] (.inl h)
  exact Option.isSome_iff_exists.mp q
theorem C0 {CX:CXT}{P:Program}{w:World}{K:PySem.W.Frag}{mg:Str->Option Value}{base:Heap}{N ps:List Str}{qual:Str}{scope:Scope}{f:Addr}{cd:Value}{A:Around}{outer:List Env}{s s1:Shared}{H:Hp}{E:XK}{us:List Value}{vs:List V}
    (S:ay N ps scope) (hd:A.handled=none) (e0:AF P w K mg base A outer s H) (hl:vs.length=ps.length) (r:Vals vs us)
    (x:InCallC s s.heap.objs.size (bindL (envOfC qual scope s.heap.objs.size f cd).kindOf (ps.zip us) fun _=>none) (cellsFrom (s.heap.objs.size+1) scope.names []) (bindC (envOfC qual scope s.heap.objs.size f cd).kindOf (ps.zip us) fun _=>none) s1) :
    Inv (iq CX P w K mg base N qual scope f cd A outer s H E) [] (start N vs) H s1:=by
  have hpl:ps.length<=N.length:=by have:=congrArg List.length S.pre;rw[List.length_take] at this;omega
  obtain⟨h1,tk,rfl,hk⟩:=x.done
  have noA:∀b:Addr,b∉(iq CX P w K mg base N qual scope f cd A outer s H E).ex:=fun b z=>absurd (show b∈([]:List Addr) from z) (by simp)
  refine⟨⟨e0.mod,S.kind,rfl,rfl,Nat.le_refl _,fun y z c h1 h2=>?_,fun y hy=>?_,fun y c _ h=>?_,fun _=>hd,Around.frames_deeper e0.frames,.inr ⟨rfl,rfl⟩,fun b z=>absurd z (noA b),e0.bs,e0.bsz,fun b _ _=>noA b,fun b z=>absurd z (noA b),e0.rR,e0.frf⟩,
    rfl,e0.bare,Un.kept hk,⟨_,x.toInCall.ns,fun i y v h1 h2 h3=>?_⟩,fun y c h=>⟨_,x.cell y c h⟩,e0.hok.fresh (Nat.le_refl _),fun y c h=>?_,fun p hp=>absurd (show p∈([]:List (Addr×Obj)) from hp) (by simp),e0.hok.kept hk,?_⟩
  · exact name_of_addr x.apart (PySem.mem_of_lookup h1) (PySem.mem_of_lookup h2)
  · have hy:scope.names.lookup y=some .cell\/scope.names.lookup y=some .free:=hy
    rcases hy with hy | hy
    · exact zc hy
    · exact absurd rfl (S.HQ _ (PySem.mem_of_lookup hy))
  · exact Nat.le_of_lt (x.above y c (PySem.mem_of_lookup h))
  · have hi:i < vs.length:=by
      unfold start at h2
      by_cases hi:i < vs.length
      · exact hi
      · rw[List.getElem?_append_right (by simpa using hi)] at h2
        rw[List.getElem?_replicate] at h2
        split at h2<;>cases h2
    have ha:vs[i]?=some v:=by
      unfold start at h2
      rw[List.getElem?_append_left (by simpa using hi),List.getElem?_map] at h2
      cases e:vs[i]? with
      | none=>rw[e] at h2;cases h2
      | some a=>rw[e] at h2;cases h2;rfl
    obtain⟨u,hu,rv⟩:=r.get ha
    have hp:ps[i]?=some y:=by
      rw[<-S.pre,List.getElem?_take_of_lt (by omega)];exact h1
    have ndP:ps.Nodup:=by rw[<-S.pre];exact S.nd.sublist (List.take_sublist _ _)
    refine⟨u,rv,?_⟩
    rcases S.par y (List.mem_of_getElem? hp) with k | k
    · exact .inl ⟨k,wN ndP hp hu k⟩
    · obtain⟨c,e⟩:=zc (n:=s.heap.objs.size+1) k
      refine .inr ⟨.inl k,c,e,?_⟩
      have q:=x.cell y c e
      rw[wO ndP hp hu (by show scope.names.lookup y≠_;rw[k];decide)] at q
      exact q
  · exact e0.hok.fresh (Nat.le_of_lt (x.above y c (PySem.mem_of_lookup h)))
  · unfold start
    show _=N.length
    rw[List.length_append,List.length_map,List.length_replicate]
    omega
theorem qZ {CX:CXT}{P:Program}{w:World}{K:PySem.W.Frag}{mg:Str->Option Value}{base:Heap}{k:Nat}{f:Addr}{name qual:Str}{params:Arguments}{body:List Stmt}{scope:Scope}{dV kV doc pm cdv ct oc:Value}{an od:Option Addr}
    {osl:Array (Option Value)} {N ps:List Str} {sp:Sp} (lk:K.lookup f=some ⟨oc,od,.func (PySem.W.fnOf name qual params body scope dV kV doc pm an cdv ct),osl⟩) (hcd:PySem.W.codeIn K cdv qual=true) (S:ay N ps scope)
    (len:∀vs H Q E,sp vs H Q E->vs.length=ps.length)
    (hbody:∀(A:Around) (outer:List Env) (s:Shared) (H:Hp) (vs:List V) (Q:VK) (E:XK),c7 k (A.deeper (envOfC qual scope s.heap.objs.size f cdv))->sp vs H Q E ->
      ∃t,PSs (iq CX P w K mg base N qual scope f cdv A outer s H E) body t/\t { nx:=fun _ H'=>Q .non H',rt:=Q } (start N vs) H) :
    gv P w K mg base CX (k+1) f (PySem.W.fnOf name qual params body scope dV kV doc pm an cdv ct) ps sp:=by
  refine⟨len,fun A outer s H args us vs Q E hr e0 hb r hsp=>?_⟩
  have hl:=len _ _ _ _ hsp
  have KX:K.In s.heap:=e0.mod.kin.keeps fun b o e=>(e0.bs b o e).1
  have lim:s.heap.NoLimit:=e0.mod.nolimit.keeps fun b o e=>(e0.bs b o e).1
  have hkind:∀y∈ps.zip us,scope.names.lookup y.1=some .local\/(scope.names.lookup y.1=some .cell/\((cellsFrom (s.heap.objs.size+1) scope.names []).lookup y.1).isSome=true):=fun ⟨n,v⟩ hy=>by
    rcases S.par n (List.of_mem_zip hy).1 with q | q
    · exact .inl q
    · exact .inr ⟨q,PySem.W.cellsFrom_some _ _ _ (.inl q)⟩
  refine codeAny_call_function hr.depth (KX _ _ lk) rfl S.co S.gen rfl (PySem.W.codeRec_of KX hcd) (hb _ _ _ _ ?_)
  refine wpAny_newFunctionEnv_cells S.kind hkind fun env he s1 x=>?_
  subst he
  refine⟨lim.keeps x.toInCall.keep,codeAny_func ?_⟩
  obtain⟨t,ht,hq⟩:=hbody A outer s H vs Q E (hr.deeper _) hsp
  have I:Inv (iq CX P w K mg base N qual scope f cdv A outer s H E) [] (start N vs) H s1:=C0 S hr.hd e0 hl r x
  refine wpAny_mono (ht [] s1 (start N vs) H _ I hq) (fun fl s' hs=>?_) fun e s' hs=>hs
  have fin:∀{σ':St} {H':Hp} {v:V} {u:Value},Inv (iq CX P w K mg base N qual scope f cdv A outer s H E) [] σ' H' s'->RelV v u->Q v H'->CE outer P w H s Q u s' :=
    fun {σ' H' v u} J rv q=>⟨v,H',J.os,J.bare,J.base,J.hok,rv,q⟩
  cases fl with
  | ret u =>
    obtain⟨v,σ',H',J,rv,q⟩:=hs
    exact fin J rv q
  | next =>
    obtain⟨σ',H',J,q⟩:=hs
    exact fin (v:=V.non) (u:=Value.none) J rfl q
  | brk =>
    obtain⟨_,_,_,q⟩:=hs
    exact False.elim q
  | cont =>
    obtain⟨_,_,_,q⟩:=hs
    exact False.elim q
end L2
namespace L2
open PySem PySem.Spec PyProof.Rows
section
variable {X:Cx}{x:Str}{p pos:Pos}{e:Expr}{es:List Expr}{t:TA}{id T:String}{r:List V->Hp->VK->Prop}
def tCB (r:List V->Hp->VK->Prop)(t:TA): TE:=fun σ H Q=>t σ H fun vs H1=>r vs H1 Q
theorem bU (hc:lP X (.builtin id) r) (hg:Gl X x) (hm:X.mg x=none) (hv:bootBuiltins x=some (.builtin id)) (ha:PA X (e::es) t) (hn:x ≠ "__name__" := by decide) (hdb:(x==("__debug__" : Str))=false:=by decide)
    (he:starEach (e::es) X.env=(false,eval e X.env)::starEach es X.env:=by rfl) (hpl:(backTo pos (starEach es X.env)).any (·.1)=false:=by rfl):PE X (.Call (.Name x p) (e::es) [] pos) (tCB r t):=by
  intro pins s σ H Q I h
  refine wpAny_Call_Name_kw (iM I hg hm hv ?_ hn hdb)
  exact PyProof.Rows.callWith_builtin1 (thn (ha pos pins s σ H _ I h) fun us s1 ⟨vs,H1,I1,r1,q1⟩=>hc pins s1 σ H1 vs us Q I1 r1 q1) he hpl
theorem p8 (hc:lP X (.type T) r) (hg:Gl X x) (hm:X.mg x=none) (hv:bootBuiltins x=some (.type T)) (ha:PA X (e::es) t) (hn:x ≠ "__name__" := by decide) (hdb:(x==("__debug__" : Str))=false:=by decide)
    (he:starEach (e::es) X.env=(false,eval e X.env)::starEach es X.env:=by rfl) (hpl:(backTo pos (starEach es X.env)).any (·.1)=false:=by rfl):PE X (.Call (.Name x p) (e::es) [] pos) (tCB r t):=by
  intro pins s σ H Q I h
  refine wpAny_Call_Name_kw (iM I hg hm hv ?_ hn hdb)
  exact PyProof.Rows.callWith_type1 (thn (ha pos pins s σ H _ I h) fun us s1 ⟨vs,H1,I1,r1,q1⟩=>hc pins s1 σ H1 vs us Q I1 r1 q1) he hpl
end
end L2
namespace HT
open PySem PyProof.Rows
section
open PySem.SeqAt
open PySem.AutoSeq1 (wpAny_loadPart')
open PySem.MeetsSeq PySem.MeetsSeq2 PySem.MeetsSeq3
end
section
variable {prog:Program}{w:World}{A:Around}{E:Value->Shared->Prop}{s:Shared}
theorem Gi {t b:Addr}{vs ws:List Value}{Q:Value->Shared->Prop}(ht:IsTup s.heap t vs.toArray)(hb:IsTup s.heap b ws.toArray)(hv:vs≠[])
    (h1:ws=[]->Q (.ref t) s) (h2:ws≠[]->Q (.ref s.heap.objs.size) { s with heap:=s.heap.push { cls:=.type "tuple",data:=.seq (vs++ws).toArray } })
    (hsz:vs.length+ws.length<=sizeLine):wpAny (model prog w) A (binaryOp .Add (.ref t) (.ref b)) Q E s:=by
  obtain⟨⟨cls,dd,data,sl⟩,ho,hc,n,hd⟩:=id ht
  obtain⟨⟨cls2,dd2,data2,sl2⟩,ho2,hc2,n2,hd2⟩:=id hb
  simp only at hc hd hc2 hd2
  subst hc hd hc2 hd2
  have e:vs.toArray++ws.toArray=(vs++ws).toArray:=by simp
  by_cases hw:ws=[]
  · exact concat_meets ⟨_,ho,rfl⟩ ⟨_,ho2,rfl⟩ noFill_tuple_add seq_tuple_add PySem.F.slot_tuple_add PySem.F.entry_tuple_add (PySem.F.args_tuple_add_2 _ _)
      (tuple_addW1 t b vs.toArray ws.toArray n n2 dd dd2 sl sl2 (by simpa using hv) (by simp[hw])) ⟨ho,ho2,h1 hw⟩
  · refine concat_meets ⟨_,ho,rfl⟩ ⟨_,ho2,rfl⟩ noFill_tuple_add seq_tuple_add PySem.F.slot_tuple_add PySem.F.entry_tuple_add (PySem.F.args_tuple_add_2 _ _)
      (tuple_addW2 t b vs.toArray ws.toArray n n2 dd dd2 sl sl2 (by simpa using hv) (by simpa using hw) (by rw[List.size_toArray,List.size_toArray];exact hsz)) ⟨ho,ho2,?_⟩
    rw[e]
    exact h2 hw
def sIx (n d:Nat): Option Int->Nat
  | none=>d
  | some v=>if v < 0 then (v+(n:Int)).toNat else min v.toNat n
theorem Ei (n d:Nat): sIx n d none=d:=rfl
theorem HR (n d:Nat)(hd:d<=n)(o:Option Int): sIx n d o<=n:=by
  cases o with
  | none=>exact hd
  | some v =>
    show (if v < 0 then (v+(n:Int)).toNat else min v.toNat n)<=n
    by_cases hv:v < 0
    · rw[if_pos hv];omega
    · rw[if_neg hv];exact Nat.min_le_right _ _
theorem BV (v:Int)(n d:Nat): (if v < 0 then max (v+(n:Int)) 0 else min v (n:Int))=((sIx n d (some v):Nat):Int):=by
  show (if v < 0 then max (v+(n:Int)) 0 else min v (n:Int))=(((if v < 0 then (v+(n:Int)).toNat else min v.toNat n):Nat):Int)
  by_cases hv:v < 0
  · simp only [if_pos hv];omega
  · simp only [if_neg hv];omega
theorem AG (lo hi:Option Int)(n:Nat): Builtin.Slice.sliceAdjust lo hi 1 (n:Int)=(((sIx n 0 lo:Nat):Int),((sIx n n hi:Nat):Int)):=by
  have h1:¬((1:Int) < 0):=by omega
  unfold Builtin.Slice.sliceAdjust
  simp only [h1,if_false]
  refine Prod.ext ?_ ?_
  · cases lo with
    | none=>rfl
    | some v=>exact BV v n 0
  · cases hi with
    | none=>rfl
    | some v=>exact BV v n n
theorem AH (i j:Nat): Builtin.Slice.slicePlaces (i:Int) (j:Int) 1=j-i:=by
  unfold Builtin.Slice.slicePlaces
  have h1:(1:Int) > 0:=by omega
  simp only [h1,if_true,Int.ediv_one]
  split<;>omega
theorem tL {v:Value}{o:Option Int}{Q:Option Int->Shared->Prop}(p:IsPart v o)(h:Q o s): wpAny (model prog w) A (Builtin.Slice.slicePartIndex v) Q E s:=by
  cases p with
  | none=>exact slicePart_none h
  | int i t=>exact slicePart_int h
theorem p9 {sl:Addr}{vl vu:Value}{lo hi:Option Int}{n:Nat}{Q:Int×Int×Nat->Shared->Prop}(hs:s.heap.IsSliceOf sl vl vu .none)(pl:IsPart vl lo)(pu:IsPart vu hi)
    (h:Q (((sIx n 0 lo:Nat):Int),1,sIx n n hi-sIx n 0 lo) s):wpAny (model prog w) A (Builtin.Slice.sliceApplied (.ref sl) (pure (n:Int))) Q E s:=by
  obtain⟨os,hos,hcs,hds⟩:=id hs
  unfold Builtin.Slice.sliceApplied Builtin.Slice.sliceFields
  refine wpAny_bind (wpAny_bind (wpAny_field hos hds (x:=vl) rfl (wpAny_bind (wpAny_field hos hds (x:=vu) rfl (wpAny_bind (wpAny_field hos hds (x:=.none) rfl (wpAny_pure ?_)))))))
  refine wpAny_bind (slicePart_none ?_)
  show wpAny _ _ (if ((1:Int)==0)=true then _ else _) _ _ s
  rw[if_neg (by decide)]
  refine wpAny_bind (tL pl (wpAny_bind (tL pu (wpAny_bind (wpAny_pure ?_)))))
  show wpAny _ _ (match Builtin.Slice.sliceAdjust lo hi 1 (n:Int) with | (lo,hi)=>pure (lo,(1:Int),Builtin.Slice.slicePlaces lo hi 1)) _ _ s
  rw[AG lo hi n]
  show wpAny _ _ (pure (((sIx n 0 lo:Nat):Int),(1:Int),Builtin.Slice.slicePlaces ((sIx n 0 lo:Nat):Int) ((sIx n n hi:Nat):Int) 1)) _ _ s
  rw[AH]
  exact wpAny_pure h
theorem Ej (xs:Array Value)(i k:Nat): ((List.range k).filterMap fun (m:Nat)=>xs[((i:Int)+(m:Int)*1).toNat]?).toArray=((xs.toList.drop i).take k).toArray:=by
  have e:(fun (m:Nat)=>xs[((i:Int)+(m:Int)*1).toNat]?)=fun m=>xs[i+m]?:=by
    funext m
    have:((i:Int)+(m:Int)*1).toNat=i+m:=by omega
    rw[this]
  rw[e]
  have:=pick_run xs i k
  rw[List.filterMap_map] at this
  have e2:((fun x=>xs[x]?) ∘ fun x=>i+x)=fun m=>xs[i+m]?:=rfl
  rw[e2] at this
  rw[this]
theorem oR {t sl:Addr}{items:Array Value}{vl vu:Value}{lo hi:Option Int}{Q:Value->Shared->Prop}(ht:IsTup s.heap t items)(hs:s.heap.IsSliceOf sl vl vu .none)(pl:IsPart vl lo)(pu:IsPart vu hi)
    (hw:¬(sIx items.size 0 lo=0/\sIx items.size items.size hi=items.size))
    (h:Q (.ref s.heap.objs.size) { s with heap:=s.heap.push { cls:=.type "tuple",data:=.seq ((items.toList.drop (sIx items.size 0 lo)).take (sIx items.size items.size hi-sIx items.size 0 lo)).toArray } })
    (hsz:items.size<=sizeLine):wpAny (model prog w) A (getItem (.ref t) (.ref sl)) Q E s:=by
  have BW:sizeOk (.seq ((items.toList.drop (sIx items.size 0 lo)).take (sIx items.size items.size hi-sIx items.size 0 lo)).toArray):=by
    show ((items.toList.drop (sIx items.size 0 lo)).take (sIx items.size items.size hi-sIx items.size 0 lo)).toArray.size<=sizeLine
    rw[List.size_toArray,List.length_take,List.length_drop,Array.length_toList]
    omega
  have hj:sIx items.size items.size hi<=items.size:=HR _ _ (Nat.le_refl _) hi
  obtain⟨os,hos,hcs,hds⟩:=id hs
  have hTs:s.TypeIs (.ref sl) "slice" := ⟨os,hos,hcs⟩
  unfold getItem
  try with_reducible refine wpAny_holding ?_
  first | refine wpAny_bind (wpAny_pure ?_) | skip
  refine wpAny_bind (wpAny_sequenceKey ht.typeIs (by decide) ?_)
  refine wpAny_bind (wpAny_callSpecial?_slot (name:=Str.ofString "__getitem__") ht.typeIs PyProof.Rows.slot_tuple_getitem
    (wpAny_call_entry PyProof.Rows.slot_tuple_getitem ht.typeIs entry_tuple_getitem ?_ (args_tuple_getitem _ _)))
  show wpAny _ _ (Builtin.Tuple.tupleItemsOf (.ref t) >>= _) _ _ s
  refine wpAny_bind (tupleItemsOf_ ht ?_)
  refine wpAny_bind (wpAny_typeOf hTs ?_)
  rw[if_pos (by decide)]
  refine wpAny_bind (p9 hs pl pu ?_)
  have hno:¬((((sIx items.size 0 lo:Nat):Int)==0&&(1:Int)==1&&(sIx items.size items.size hi-sIx items.size 0 lo)==items.size)=true):=by
    intro q
    rw[Bool.and_eq_true,Bool.and_eq_true] at q
    have q1:((sIx items.size 0 lo:Nat):Int)=0:=eq_of_beq q.1.1
    have q2:sIx items.size items.size hi-sIx items.size 0 lo=items.size:=eq_of_beq q.2
    exact hw ⟨by omega,by omega⟩
  show wpAny _ _ (if (((sIx items.size 0 lo:Nat):Int)==0&&(1:Int)==1&&(sIx items.size items.size hi-sIx items.size 0 lo)==items.size)=true then _ else _) _ _ s
  rw[if_neg hno,Ej]
  first
    | exact wpAny_bind (m:=Builtin.Tuple.tupleExact _) (wpAny_newObj_type (wpAny_pure ⟨_,rfl,wpAny_pure h⟩) BW)
    | exact wpAny_bind (m:=Builtin.Tuple.tupleExact _) (wpAny_newObj_type (wpAny_bind (wpAny_pure (wpAny_pure ⟨_,rfl,wpAny_pure h⟩))) BW)
    | exact wpAny_bind (wpAny_bind (m:=Builtin.Tuple.tupleExact _) (wpAny_newObj_type (wpAny_pure (wpAny_pure ⟨_,rfl,wpAny_pure h⟩)) BW))
    | exact wpAny_bind (wpAny_bind (m:=Builtin.Tuple.tupleExact _) (wpAny_newObj_type (wpAny_pure ⟨_,rfl,wpAny_pure h⟩) BW))
end
end HT
namespace L2
open PySem PySem.Spec PyProof.Rows
abbrev TO:=St->Hp->(Option Int->Hp->Prop)->Prop
def PO (X:Cx)(e:Option Expr)(t:TO): Prop :=
  ∀(pins:List (Addr×Obj)) (s:Shared) (σ:St) (H:Hp) (Q:Option Int->Hp->Prop),Inv X pins σ H s->t σ H Q ->
    wpAny (model X.prog X.w) X.A (evalPart e X.env) (fun u s'=>∃o H',Inv X pins σ H' s'/\IsPart u o/\Q o H') X.xe s
def Gj:TO:=fun _ H Q=>Q none H
def Jf (t:TE): TO:=fun σ H Q=>t σ H fun x H1=>∃i,x=.int i/\Q (some i) H1
section
variable {X:Cx}{e:Expr}{te:TE}{lo hi:Option Expr}{tl th:TO}{pos p2:Pos}
theorem oS:PO X none Gj:=by
  intro pins s σ H Q I h
  rw[evalPart_none]
  exact wpAny_pure ⟨none,H,I,.none,h⟩
theorem kC (h:PE X e te): PO X (some e) (Jf te):=by
  intro pins s σ H Q I hw
  rw[evalPart_some]
  refine thn (h pins s σ H _ I hw) fun u s1 ⟨x,H1,I1,r1,q1⟩=>?_
  obtain⟨i,rfl,q⟩:=q1
  obtain⟨t,rfl⟩:=r1
  exact⟨some i,H1,I1,.int i t,q⟩
def SlR (X:Cx)(r:V->Option Int->Option Int->Hp->VK->Prop): Prop :=
  ∀(pins:List (Addr×Obj)) (s:Shared) (σ:St) (H:Hp) (x:V) (v vl vu:Value) (lo hi:Option Int) (sl:Addr) (Q:VK),Inv X pins σ H s->RelV x v->s.heap.IsSliceOf sl vl vu .none->IsPart vl lo->IsPart vu hi->r x lo hi H Q ->
    ∃T id,typeLookup (.type T) "__getitem__" = pure (some (.builtin id))/\s.TypeIs v T/\wpAny (model X.prog X.w) X.A (getItem v (.ref sl)) (EP X pins σ Q) X.xe s
def tSl (r:V->Option Int->Option Int->Hp->VK->Prop)(te:TE)(tl th:TO): TE:=fun σ H Q=>te σ H fun x H1=>tl σ H1 fun l H2=>th σ H2 fun u H3=>r x l u H3 Q
theorem j7 {r:V->Option Int->Option Int->Hp->VK->Prop}(hr:SlR X r)(he:PE X e te)(hl:PO X lo tl)(hu:PO X hi th): PE X (.Subscript e (.Slice lo hi none p2) pos) (tSl r te tl th):=by
  intro pins s σ H Q I h
  refine Subscript_ (thn (he pins s σ H _ I h) fun v s1 ⟨x,H1,I1,r1,q1⟩=>?_)
  refine wpAny_Slice (thn (hl pins s1 σ H1 _ I1 q1) fun vl s2 ⟨l,H2,I2,pl,q2⟩=>thn (hu pins s2 σ H2 _ I2 q2) fun vu s3 ⟨u,H3,I3,pu,q3⟩=>?_)
  rw[evalPart_none]
  refine wpAny_pure ?_
  have I4:Inv X pins σ H3 { s3 with heap:=s3.heap.push { cls:=.type "slice",data:=.fields #[vl,vu,.none] } }:=I3.kept (t':=s3.toks) fun b ob q=>Heap.get?_push_of_some _ q
  obtain⟨T,id,hT,ht,hg⟩:=hr pins { s3 with heap:=s3.heap.push { cls:=.type "slice",data:=.fields #[vl,vu,.none] } } σ H3 x v vl vu l u s3.heap.objs.size Q I4 r1 (Heap.IsSliceOf.new ..) pl pu q3
  show wpAny (model X.prog X.w) X.A (subscriptTail e (.Slice lo hi none p2) v (.ref s3.heap.objs.size)) (EP X pins σ Q) X.xe { s3 with heap:=s3.heap.push { cls:=.type "slice",data:=.fields #[vl,vu,.none] } }
  exact tail_any (ops:=[.ref s3.heap.objs.size,v]) ht hT hg (by with_unfolding_all rfl)
def tM (xs:List V)(lo hi:Option Int): List V:=(xs.drop (HT.sIx xs.length 0 lo)).take (HT.sIx xs.length xs.length hi-HT.sIx xs.length 0 lo)
theorem q_ (xs:List V)(lo hi:Option Int): (tM xs lo hi).length<=xs.length:=by
  unfold tM
  rw[List.length_take,List.length_drop]
  omega
def Kt (K:PySem.W.Frag): V->Option Int->Option Int->Hp->VK->Prop:=fun x lo hi H Q=>∃a xs,x=.ref a/\SqT K H a xs ∧
  ¬(HT.sIx xs.length 0 lo=0/\HT.sIx xs.length xs.length hi=xs.length)/\∀p,H p=none->Q (.ref p) (upd H p (.tup (tM xs lo hi)))
theorem tN:SlR X (Kt X.K):=by
  intro pins s σ H x v vl vu lo hi sl Q I rx hs pl pu h
  obtain⟨a,xs,rfl,hx,hw,q⟩:=h
  cases rx
  obtain⟨its,r,ht,hz⟩:=I.tuple hx
  have hlen:its.toArray.size=xs.length:=by rw[List.size_toArray];exact r.length.symm
  refine⟨"tuple",_,PyProof.Rows.slot_tuple_getitem.lookup,ht.typeIs,?_⟩
  refine HT.oR ht hs pl pu (by rw[hlen];exact hw) ?_ (by rw[hlen];exact hz)
  rw[hlen]
  refine⟨.ref s.heap.objs.size,_,I.laid (t':=s.toks) (o:=.tup (tM xs lo hi)) (fun b ob q=>Heap.get?_push_of_some _ q) (Nat.le_refl _) ?_,rfl,q _ (I.hok.fresh (Nat.le_refl _))⟩
  exact⟨Nat.le_trans (q_ xs lo hi) hz,_,(r.drop (HT.sIx xs.length 0 lo)).take (HT.sIx xs.length xs.length hi-HT.sIx xs.length 0 lo),IsTup.new _ _⟩
def Jg (K:PySem.W.Frag): R2:=fun x y H Q=>∃a b xs ys,x=.ref a/\y=.ref b/\SqT K H a xs/\SqT K H b ys/\xs≠[]/\xs.length+ys.length<=sizeLine ∧
  (ys=[]->Q (.ref a) H)/\(ys≠[]->∀p,H p=none->Q (.ref p) (upd H p (.tup (xs++ys))))
theorem Vals.xI {xs:List V}{us:List Value}(r:Vals xs us): us=[]↔xs=[]:=by
  cases r with
  | nil=>simp
  | cons _ _=>simp
theorem Gk:OpR X (binaryOp .Add) (Jg X.K):=by
  intro pins s σ H x y v u Q I rx ry h
  obtain⟨a,b,xs,ys,rfl,rfl,ha,hb,hx,hz,q1,q2⟩:=h
  cases rx
  cases ry
  obtain⟨its,r1,p1,_⟩:=I.tuple ha
  obtain⟨its2,r2,p2,_⟩:=I.tuple hb
  refine HT.Gi p1 p2 (fun z=>hx (r1.xI.mp z)) (fun z=>⟨.ref a,H,I,rfl,q1 (r2.xI.mp z)⟩) (fun z=>?_) (by rw[<-r1.length,<-r2.length];exact hz)
  refine⟨.ref s.heap.objs.size,_,I.laid (t':=s.toks) (o:=.tup (xs++ys)) (fun b ob q=>Heap.get?_push_of_some _ q) (Nat.le_refl _) ?_,rfl,q2 (fun w=>z (r2.xI.mpr w)) _ (I.hok.fresh (Nat.le_refl _))⟩
  exact⟨by rw[List.length_append];exact hz,_,r1.append r2,IsTup.new _ _⟩
end
end L2
namespace L2
open PySem PySem.Spec PyProof.Rows
def ixN (n:Nat)(i:Int): Option Nat:=if 0<=i then (if i < n then some i.toNat else none) else if -(n:Int)<=i then some (i+n).toNat else none
def atI {α:Type}(xs:List α)(i:Int): Option α:=(ixN xs.length i).bind fun j=>xs[j]?
theorem Gm {n:Nat}{i:Int}{j:Nat}(h:ixN n i=some j): seqIndex? i n=some j/\j < n/\-(n:Int)<=i/\i < n:=by
  unfold ixN at h
  by_cases h0:0<=i
  · rw[if_pos h0] at h
    by_cases h1:i < n
    · rw[if_pos h1] at h
      have e:i.toNat=j:=Option.some.inj h
      exact⟨by rw[seqIndex_of h0 h1,e],by omega,by omega,h1⟩
    · rw[if_neg h1] at h;cases h
  · rw[if_neg h0] at h
    by_cases h1:-(n:Int)<=i
    · rw[if_pos h1] at h
      have e:(i+n).toNat=j:=Option.some.inj h
      exact⟨by rw[seqIndex_neg (by omega) h1,e],by omega,h1,by omega⟩
    · rw[if_neg h1] at h;cases h
theorem BX {α:Type}{xs:List α}{i:Int}{v:α}(h:atI xs i=some v): ∃j,seqIndex? i xs.length=some j/\xs[j]?=some v/\j < xs.length/\-(xs.length:Int)<=i/\i < xs.length:=by
  unfold atI at h
  cases e:ixN xs.length i with
  | none=>rw[e] at h;cases h
  | some j =>
    rw[e] at h
    obtain⟨h1,h2,h3,h4⟩:=Gm e
    exact⟨j,h1,h,h2,h3,h4⟩
theorem oU {α:Type}{xs:List α}{j:Nat}{v:α}(h:xs[j]?=some v): atI xs (j:Int)=some v:=by
  have hj:j < xs.length:=(List.getElem?_eq_some_iff.mp h).1
  have e:ixN xs.length (j:Int)=some j:=by
    unfold ixN
    rw[if_pos (by omega),if_pos (by omega)];simp
  unfold atI;rw[e];exact h
def Gn (b:Expr): Prop:=∀o i,subscripted b false o i=operate [o,i] (getItem o i)
def IxR (X:Cx)(r:R2): Prop :=
  ∀(value slice:Expr) (pins:List (Addr×Obj)) (s:Shared) (σ:St) (H:Hp) (x y:V) (v u:Value) (Q:VK),Inv X pins σ H s->RelV x v->RelV y u->r x y H Q ->
    subscripted slice false v u=operate [v,u] (getItem v u)->wpAny (model X.prog X.w) X.A (subscriptTail value slice v u) (EP X pins σ Q) X.xe s
def MtR (X:Cx)(id:String)(r:V->List V->Hp->VK->Prop): Prop :=
  ∀(pins:List (Addr×Obj)) (s:Shared) (σ:St) (H:Hp) (x:V) (xs:List V) (v:Value) (us:List Value) (Q:VK),Inv X pins σ H s->RelV x v->Vals xs us->r x xs H Q ->
    wpAny (model X.prog X.w) X.A (call (.builtin id) (v::us)) (EP X pins σ Q) X.xe s
section
variable {X:Cx}{a b:Expr}{ta tb:TE}{pos:Pos}
theorem cY {r:R2}(hr:IxR X r)(ha:PE X a ta)(hb:PE X b tb)(hs:Gn b): PE X (.Subscript a b pos) (tOp r ta tb):=by
  intro pins s σ H Q I h
  exact Subscript_ (HM ha hb I h fun v u s2 x y H2 I2 rx ry q=>hr a b pins s2 σ H2 x y v u Q I2 rx ry q (hs _ _))
def Ku (K:PySem.W.Frag): R2:=fun x y H Q=>∃p xs i v,x=.ref p/\y=.int i/\SqL K H p xs/\atI xs i=some v/\Q v H
def Kv (K:PySem.W.Frag): R2:=fun x y H Q=>∃p xs i v,x=.ref p/\y=.int i/\SqT K H p xs/\atI xs i=some v/\Q v H
theorem cV:IxR X (Ku X.K):=by
  intro value slice pins s σ H x y v u Q I rx ry h hs
  obtain⟨p,xs,i,z,rfl,rfl,hq,he,q⟩:=h
  cases rx
  obtain⟨t,rfl⟩:=ry
  obtain⟨its,r,pl,hz⟩:=I.list hq
  obtain⟨j,h1,h2,h3,h4,h5⟩:=BX he
  obtain⟨w,ew,rw'⟩:=r.get h2
  have hl:=r.length
  have hn:=Aw
  have fin:EP X pins σ Q w s:=⟨z,H,I,rw',q⟩
  by_cases h0:0<=i
  · have hj:i.toNat=j:=by
      rw[seqIndex_of h0 h5] at h1
      exact Option.some.inj h1
    exact item_listR pl.isList h0 (by omega) (by rw[hj];simpa using ew) fin hs
  · have hj:(i+(its.toArray.size:Int)).toNat=j:=by
      rw[seqIndex_neg (by omega) h4] at h1
      rw[List.size_toArray,<-hl]
      exact Option.some.inj h1
    exact subscriptTail_builtinR (x:=w) pl.isList.typeIs slot_list_getitem.lookup
      (wpAny_getItem_list_neg (Q:=fun r s'=>r=w/\EP X pins σ Q r s') pl.isList (by omega) (by rw[List.size_toArray]<;>omega) (by omega) (by rw[hj];simpa using ew) ⟨rfl,fin⟩) hs
theorem jy:IxR X (Kv X.K):=by
  intro value slice pins s σ H x y v u Q I rx ry h hs
  obtain⟨p,xs,i,z,rfl,rfl,hq,he,q⟩:=h
  cases rx
  obtain⟨t,rfl⟩:=ry
  obtain⟨its,r,pl,hz⟩:=I.tuple hq
  obtain⟨j,h1,h2,h3,h4,h5⟩:=BX he
  obtain⟨w,ew,rw'⟩:=r.get h2
  have hl:=r.length
  have hn:=Aw
  have fin:EP X pins σ Q w s:=⟨z,H,I,rw',q⟩
  exact subscriptTail_builtinR (x:=w) pl.typeIs slot_tuple_getitem.lookup
    (getItem_tuple (j:=j) (Q:=fun r s'=>r=w/\EP X pins σ Q r s') pl (by omega) (by omega) (by rw[List.size_toArray,<-hl];exact h1) (by simpa using ew) ⟨rfl,fin⟩) hs
theorem xJ (lo hi:Option Int)(n:Nat): (sliceBounds lo hi none n).1=((HT.sIx n 0 lo:Nat):Int)/\(sliceBounds lo hi none n).2.1=((HT.sIx n n hi:Nat):Int)/\(sliceBounds lo hi none n).2.2=1:=by
  refine⟨?_,?_,rfl⟩
  · cases lo with
    | none=>simp[sliceBounds,HT.sIx]
    | some i =>
      simp only [sliceBounds,HT.sIx,Option.getD_none,show (1:Int) > 0 by decide,if_true]
      by_cases h:i < 0
      · simp only [h,if_true]<;>omega
      · simp only [h,if_false]<;>omega
  · cases hi with
    | none=>simp[sliceBounds,HT.sIx]
    | some i =>
      simp only [sliceBounds,HT.sIx,Option.getD_none,show (1:Int) > 0 by decide,if_true]
      by_cases h:i < 0
      · simp only [h,if_true]<;>omega
      · simp only [h,if_false]<;>omega
theorem vy (its:List Value)(lo hi:Option Int): slicePick its.toArray lo hi none=((its.drop (HT.sIx its.length 0 lo)).take (HT.sIx its.length its.length hi-HT.sIx its.length 0 lo)).toArray:=by
  obtain⟨h1,h2,h3⟩:=xJ lo hi its.toArray.size
  unfold slicePick
  rw[h1,h2,h3]
  simp only [sliceRange_one,pick_run,List.size_toArray]<;>rfl
def Kx (K:PySem.W.Frag): V->Option Int->Option Int->Hp->VK->Prop:=fun x lo hi H Q=>∃a xs,x=.ref a/\SqL K H a xs/\∀p,H p=none->Q (.ref p) (upd H p (.lst (tM xs lo hi)))
theorem Gp:SlR X (Kx X.K):=by
  intro pins s σ H x v vl vu lo hi sl Q I rx hs pl pu h
  obtain⟨a,xs,rfl,hx,q⟩:=h
  cases rx
  obtain⟨its,r,ht,hz⟩:=I.list hx
  have hlen:=r.length
  refine⟨"list",_,slot_list_getitem.lookup,ht.isList.typeIs,?_⟩
  refine wpAny_getItem_list_slice ht.isList hs pl pu .none (by simp) ?_ (by rw[List.size_toArray]<;>omega)
  rw[vy,<-hlen]
  refine⟨.ref s.heap.objs.size,_,I.laid (t':=s.toks) (o:=.lst (tM xs lo hi)) (fun b ob q=>Heap.get?_push_of_some _ q) (Nat.le_refl _) ?_,rfl,q _ (I.hok.fresh (Nat.le_refl _))⟩
  exact⟨Nat.le_trans (q_ xs lo hi) hz,_,0,(r.drop (HT.sIx xs.length 0 lo)).take (HT.sIx xs.length xs.length hi-HT.sIx xs.length 0 lo),Heap.get?_push_size _ rfl⟩
def nJ:V->Bool
  | .non=>true
  | .bl _=>true
  | .int _=>true
  | .str _=>true
  | _=>false
def eqV:V->V->Bool
  | .non,.non=>true
  | .bl a,.bl b=>a==b
  | .bl a,.int b=>(if a then 1 else 0)==b
  | .int a,.bl b=>a==(if b then 1 else 0)
  | .int a,.int b=>a==b
  | .str a,.str b=>a==b
  | _,_=>false
theorem HS {A:Around}{s:Shared}{y x:V}{u v:Value}(ry:RelV y u)(rx:RelV x v)(fy:nJ y=true)(fx:nJ x=true): SeqAt.EqAt A s u v (eqV y x):=by
  cases y with
  | non =>
    cases ry
    cases x with
    | non=>cases rx;exact SeqAt.EqAt.same _
    | bl b=>cases rx;exact SeqAt.EqAt.none_bool b
    | int b=>obtain⟨t,rfl⟩:=rx;exact SeqAt.EqAt.none_int b t
    | str b=>obtain⟨t,rfl⟩:=rx;exact SeqAt.EqAt.none_str b t
    | _=>exact absurd (show false=true from fx) Bool.false_ne_true
  | bl a =>
    cases ry
    cases x with
    | non=>cases rx;exact SeqAt.EqAt.bool_none a
    | bl b=>cases rx;exact SeqAt.EqAt.bool_bool a b
    | int b=>obtain⟨t,rfl⟩:=rx;exact SeqAt.EqAt.bool_int a b t
    | str b=>obtain⟨t,rfl⟩:=rx;exact SeqAt.EqAt.bool_str a b t
    | _=>exact absurd (show false=true from fx) Bool.false_ne_true
  | int a =>
    obtain⟨t',rfl⟩:=ry
    cases x with
    | non=>cases rx;exact SeqAt.EqAt.int_none a t'
    | bl b=>cases rx;exact SeqAt.EqAt.int_bool a t' b
    | int b=>obtain⟨t,rfl⟩:=rx;exact SeqAt.EqAt.int_int a t' b t
    | str b=>obtain⟨t,rfl⟩:=rx;exact SeqAt.EqAt.int_str a t' b t
    | _=>exact absurd (show false=true from fx) Bool.false_ne_true
  | str a =>
    obtain⟨t',rfl⟩:=ry
    cases x with
    | non=>cases rx;exact SeqAt.EqAt.str_none a t'
    | bl b=>cases rx;exact SeqAt.EqAt.str_bool a t' b
    | int b=>obtain⟨t,rfl⟩:=rx;exact SeqAt.EqAt.str_int a t' b t
    | str b=>obtain⟨t,rfl⟩:=rx;exact SeqAt.EqAt.str_str a t' b t
    | _=>exact absurd (show false=true from fx) Bool.false_ne_true
  | _=>exact absurd (show false=true from fy) Bool.false_ne_true
def eqU (x:V)(u:Value): Bool:=match u with
  | .none=>eqV .non x
  | .bool b=>eqV (.bl b) x
  | .int i _=>eqV (.int i) x
  | .str z _=>eqV (.str z) x
  | _=>false
theorem Ek {x y:V}{u:Value}(r:RelV y u)(f:nJ y=true): eqU x u=eqV y x:=by
  cases y with
  | non=>cases r;rfl
  | bl b=>cases r;rfl
  | int i=>obtain⟨t,rfl⟩:=r;rfl
  | str z=>obtain⟨t,rfl⟩:=r;rfl
  | _=>exact absurd (show false=true from f) Bool.false_ne_true
theorem xK {x:V}: ∀{xs:List V} {us:List Value},Vals xs us->xs.all nJ=true->us.any (eqU x)=xs.any fun y=>eqV y x
  | _,_,.nil,_=>rfl
  | y::xs,u::us,.cons r t,f=>by
    rw[List.all_cons,Bool.and_eq_true] at f
    rw[List.any_cons,List.any_cons,Ek r f.1,xK t f.2]
theorem tO {A:Around}{s:Shared}{x:V}{v:Value}(rx:RelV x v)(fx:nJ x=true): ∀{xs:List V} {us:List Value},Vals xs us->xs.all nJ=true->∀u∈us,SeqAt.EqAt A s u v (eqU x u)
  | _,_,.nil,_=>fun u hu=>by cases hu
  | y::xs,u::us,.cons r t,f=>fun u' hu=>by
    rw[List.all_cons,Bool.and_eq_true] at f
    rcases List.mem_cons.mp hu with rfl | hu
    · rw[Ek r f.1];exact HS r rx f.1 fx
    · exact tO rx fx t f.2 u' hu
def inV (x:V)(xs:List V): Bool:=xs.any fun y=>eqV y x
def rIn (K:PySem.W.Frag)(neg:Bool): R2:=fun x y H Q=>∃p xs,y=.ref p/\(SqL K H p xs\/SqT K H p xs)/\nJ x=true/\xs.all nJ=true/\Q (.bl (if neg then !inV x xs else inV x xs)) H
theorem kD:OpR X (compareOp .NotIn) (rIn X.K true):=by
  intro pins s σ H x y v u Q I rx ry h
  obtain⟨p,xs,rfl,hq,fx,fs,q⟩:=h
  cases ry
  rcases hq with hq | hq
  · obtain⟨its,r,pl,hz⟩:=I.list hq
    refine SeqAt.notIn_listAt (eqU x) pl.isList (fun w hw=>tO rx fx r fs w (by simpa using hw)) ⟨.bl _,H,I,rfl,?_⟩
    rw[show its.toArray.any (eqU x)=its.any (eqU x) by simp,xK r fs]
    exact q
  · obtain⟨its,r,pl,hz⟩:=I.tuple hq
    refine SeqAt.notIn_tupleAt (eqU x) pl (fun w hw=>tO rx fx r fs w (by simpa using hw)) ⟨.bl _,H,I,rfl,?_⟩
    rw[show its.toArray.any (eqU x)=its.any (eqU x) by simp,xK r fs]
    exact q
theorem dN:lP X (.builtin "len") (fun xs H Q=>∃p ys,xs=[.ref p]/\(SqL X.K H p ys\/SqT X.K H p ys)/\Q (.int ys.length) H):=by
  intro pins s σ H xs us Q I r h
  obtain⟨p,ys,rfl,hq,q⟩:=h
  obtain⟨u,rfl,rx⟩:=vals1 r
  cases rx
  have hn:=Aw
  rcases hq with hq | hq
  · obtain⟨its,r',pl,hz⟩:=I.list hq
    have hlen:=r'.length
    exact Calls.call_len_list pl.isList (by simp only [List.size_toArray]<;>omega) ⟨.int ys.length,H,I.tok _,⟨s.toks+1,by rw[List.size_toArray,hlen]⟩,q⟩
  · obtain⟨its,r',pl,hz⟩:=I.tuple hq
    have hlen:=r'.length
    exact len_tuple pl (by simp only [List.size_toArray]<;>omega) ⟨.int ys.length,H,I.tok _,⟨s.toks+1,by rw[List.size_toArray,hlen]⟩,q⟩
theorem vA:lP X (.type "tuple") (fun xs H Q=>∃p ys,xs=[.ref p]/\((SqL X.K H p ys/\∀l,H l=none->Q (.ref l) (upd H l (.tup ys)))\/(SqT X.K H p ys/\Q (.ref p) H))):=by
  intro pins s σ H xs us Q I r h
  obtain⟨p,ys,rfl,h⟩:=h
  obtain⟨u,rfl,rx⟩:=vals1 r
  cases rx
  rcases h with ⟨hq,q⟩ | ⟨hq,q⟩
  · obtain⟨its,r',pl,hz⟩:=I.list hq
    have hlen:=r'.length
    refine call_tuple_list pl.isList (fun h' kp=>?_) (by simp only [List.size_toArray]<;>omega)
    have I1:Inv X pins σ H { s with heap:=h' }:=I.kept (t':=s.toks) kp
    have I2:Inv X pins σ (upd H h'.objs.size (.tup ys)) { s with heap:=h'.push { cls:=.type "tuple",data:=.seq its.toArray } } :=
      I1.laid (t':=s.toks) (fun b o e=>Heap.get?_push_of_some _ e) (Nat.le_refl _) (show b4 X.prog X.w _ _ _ (.tup ys) from ⟨hz,its,r',IsTup.new _ _⟩)
    exact⟨.ref h'.objs.size,_,I2,rfl,q _ (I1.hok.fresh (Nat.le_refl _))⟩
  · obtain⟨its,r',pl,hz⟩:=I.tuple hq
    exact call_tuple_same pl ⟨.ref p,H,I,rfl,q⟩
def tyV (K:PySem.W.Frag)(T:String)(x:V)(H:Hp): Prop:=match x with
  | .str _=>T = "str"
  | .int _=>T = "int"
  | .ref p=>(T = "list" ∧ ∃xs,SqL K H p xs)\/(T = "tuple" ∧ ∃o,K.lookup p=some o/\o.cls=.type "tuple" ∧ o.dict=none) ∨
      (T = "dict" ∧ ((∃kvs,H p=some (.dK kvs))\/∃kvs,H p=some (.dT kvs)))\/(T = "set" ∧ ∃S n,H p=some (.set S n))
  | _=>False
theorem HU {pins:List (Addr×Obj)}{σ:St}{H:Hp}{s:Shared}{T:String}{x:V}{v:Value}(I:Inv X pins σ H s)(r:RelV x v)(ty:tyV X.K T x H):
    s.TypeIs v T/\∀a,v=.ref a->∃ob,s.heap.get? a=some ob/\ob.dict=none:=by
  cases x with
  | str z =>
    obtain⟨t,rfl⟩:=r
    cases (show T = "str" from ty)
    exact⟨typeIs_str s z t,fun _ e=>nomatch e⟩
  | int i =>
    obtain⟨t,rfl⟩:=r
    cases (show T = "int" from ty)
    exact⟨typeIs_int s i t,fun _ e=>nomatch e⟩
  | ref p =>
    cases r
    rcases ty with ⟨rfl,xs,hq⟩ | ⟨rfl,o,hk,hc,hd⟩ | ⟨rfl,hk⟩ | ⟨rfl,S,n,hk⟩
    · obtain⟨its,_,pl,_⟩:=I.list hq
      refine⟨pl.isList.typeIs,fun a e=>?_⟩
      cases e
      obtain⟨o,n,e,c,hd,_⟩:=pl
      exact⟨o,e,hd⟩
    · refine⟨⟨o,I.kIn p o hk,hc⟩,fun a e=>?_⟩
      cases e
      exact⟨o,I.kIn _ o hk,hd⟩
    · have z:∃o,s.heap.get? p=some o/\o.ExactDict:=by
        rcases hk with ⟨kvs,hk⟩ | ⟨kvs,hk⟩
        · obtain⟨_,_,_,_,o,_,_,e,ex,_⟩:=I.hok p _ hk
          exact⟨o,e,ex⟩
        · obtain⟨_,_,_,_,o,_,_,e,ex,_⟩:=I.hok p _ hk
          exact⟨o,e,ex⟩
      obtain⟨o,e,ex⟩:=z
      refine⟨⟨o,e,ex.1⟩,fun a e2=>?_⟩
      cases e2
      exact⟨o,e,ex.2.1⟩
    · obtain⟨o,_,_,_,e,ex,_⟩:=I.hok p _ hk
      refine⟨⟨o,e,ex.1⟩,fun a e2=>?_⟩
      cases e2
      exact⟨o,e,ex.2.1⟩
  | _=>exact False.elim ty
def tBM (K:PySem.W.Frag)(T:String)(r:V->List V->Hp->VK->Prop)(to:TE)(t:TA): TE:=fun σ H Q=>to σ H fun x H1=>tyV K T x H1/\t σ H1 fun xs H2=>r x xs H2 Q
variable {o e:Expr}{es:List Expr}{to:TE}{t:TA}{name:Str}{apos cpos:Pos}{T id:String}{r:V->List V->Hp->VK->Prop}
theorem El (pa:PlainAttrs T) (slot:Slot T name id) (hty:typeOf (.builtin id)=pure (.type "method_descriptor")) (hm:MtR X id r) (ho:PE X o to) (ha:PA X (e::es) t)
    (hbase:attributeBase o name X.env (eval o X.env)=eval o X.env:=by rfl)
    (hfew:((backTo cpos (starEach (e::es) X.env)).all (fun x=>!x.1)&&(backToKw cpos (keywordEach [] X.env)).all (fun x=>x.1.isSome)
      && decide ((e::es).length+([]:List Keyword).length+(if ([]:List Keyword).isEmpty then 0 else 1) < 30))=true:=by rfl)
    (hline:(apos.endLine==cpos.line)=true:=by rfl) (hs:starEach (e::es) X.env=(false,eval e X.env)::starEach es X.env:=by rfl) (hplain:(backTo cpos (starEach es X.env)).any (·.1)=false:=by rfl) :
    PE X (.Call (.Attribute o name apos) (e::es) [] cpos) (tBM X.K T r to t):=by
  intro pins s σ H Q I h
  refine wpAny_Call_method_late hbase hfew hline rfl (thn (ho pins s σ H _ I h) fun v s1 ⟨x,H1,I1,r1,ty,q1⟩=>?_)
  obtain⟨h1,h2⟩:=HU I1 r1 ty
  refine⟨T,id,pa,slot,hty,h1,h2,?_⟩
  have hA:=ha cpos pins s1 σ H1 _ I1 q1
  rw[hs] at hA ⊢
  refine Calls.callWith_builtin (by show (false || (backTo cpos (starEach es X.env)).any (·.1))=false;rw[hplain]<;>rfl) (Calls.evalArgs_plain ?_)
  exact thn hA fun us s2 ⟨vs,H2,I2,r2,q2⟩=>hm pins s2 σ H2 x vs v us Q I2 r1 r2 q2
end
end L2
namespace L2
open PySem PySem.Spec PyProof.Rows
def MtM (X:Cx)(id:String)(r:V->List V->Hp->VK->Prop): Prop :=
  ∀(pins:List (Addr×Obj)) (s:Shared) (σ:St) (H:Hp) (x:V) (xs:List V) (v:Value) (us:List Value) (Q:VK),Inv X pins σ H s->RelV x v->Vals xs us->r x xs H Q ->
    wpAny (model X.prog X.w) X.A (call (.builtin id) (v::us)) (EP X pins σ Q) X.xe s
theorem Vals.one:∀{x:V} {us:List Value},Vals [x] us->∃u,us=[u]/\RelV x u
  | _,_,.cons r .nil=>⟨_,rfl,r⟩
theorem Vals.rep {xs:List V}{us:List Value}(h:Vals xs us): ∀k:Nat,Vals (List.replicate k xs).flatten (List.replicate k us).flatten
  | 0=>.nil
  | k+1=>by
    rw[List.replicate_succ,List.replicate_succ,List.flatten_cons,List.flatten_cons]
    exact Vals.append h (Vals.rep h k)
theorem foldl_rep (its:List Value): ∀(k:Nat) (acc:List Value),
    List.foldl (fun x1 x2=>x1++x2) acc.toArray (List.replicate k its.toArray)=(acc++(List.replicate k its).flatten).toArray
  | 0,acc=>by simp
  | k+1,acc=>by
    have e:acc.toArray++its.toArray=(acc++its).toArray:=by simp
    have e2:(acc++its)++(List.replicate k its).flatten=acc++(List.replicate (k+1) its).flatten:=by
      rw[List.replicate_succ,List.flatten_cons,List.append_assoc]
    rw[<-e2,<-foldl_rep its k (acc++its),<-e,List.replicate_succ,List.foldl_cons]
section
variable {X:Cx}{pins:List (Addr×Obj)}{σ:St}{H:Hp}{s:Shared}{l b:Addr}{xs ys zs:List V}
theorem Inv.Ky {its its':List Value}{n:Nat}{f:Array Value->Array Value}{t':Nat}(I:Inv X pins σ H s)(hH:H l=some (.lst xs))
    (e:s.heap.get? l=some { cls:=.type "list",data:=.seq its.toArray n }) (hf:f its.toArray=its'.toArray) (hv:Vals ys its') (hz:ys.length<=sizeLine) :
    Inv X pins σ (upd H l (.lst ys)) { s with heap:=s.heap.update l (Obj.mapSeq f),toks:=t' }:=by
  have q:=PySem.IsL.update e f
  rw[hf] at q
  refine I.write (x:=l) (e:=l) (by rw[hH];exact trivial) (.inl rfl) (fun b' u hb hu=>(Heap.get?_update_other s.heap (Obj.mapSeq f) (Ne.symm hb)).trans hu) ⟨_,q⟩ ?_
  exact⟨hz,its',_,hv,q⟩
theorem Inv.HV {its:List Value}{t':Nat}(I:Inv X pins σ H s)(hv:Vals ys its)(hz:ys.length<=sizeLine):
    Inv X pins σ (upd H s.heap.objs.size (.lst ys)) { s with heap:=s.heap.push { cls:=.type "list",data:=.seq its.toArray },toks:=t' } :=
  I.laid (fun _ _ q=>Heap.get?_push_of_some _ q) (Nat.le_refl _) ⟨hz,its,0,hv,Heap.get?_push_size _ rfl⟩
theorem Inv.fresh (I:Inv X pins σ H s): H s.heap.objs.size=none:=I.hok.fresh (Nat.le_refl _)
theorem Inv.Jh (I:Inv X pins σ H s)(hH:H l=some (.lst xs)): xs.length<=sizeLine/\∃(its:List Value) (n:Nat),Vals xs its/\xs.length=its.length/\s.heap.get? l=some { cls:=.type "list",data:=.seq its.toArray n }:=by
  obtain⟨z,its,n,r,e⟩:=I.hok l _ hH
  exact⟨z,its,n,r,r.length,e⟩
theorem Em {n:Nat}(h:n<=sizeLine): Builtin.List.listTooLong n=false:=by
  unfold Builtin.List.listTooLong
  exact decide_eq_false (by omega)
end
section
variable {X:Cx}
def xL:V->List V->Hp->VK->Prop:=fun x vs H Q=>∃l xs y,x=.ref l/\vs=[y]/\H l=some (.lst xs)/\xs.length < sizeLine/\Q .non (upd H l (.lst (xs++[y])))
theorem ng:MtM X "list.append" xL:=by
  intro pins s σ H x vs v us Q I rx rv h
  obtain⟨l,xs,y,rfl,rfl,hH,hz,q⟩:=h
  cases rx
  obtain⟨u,rfl,ru⟩:=rv.one
  obtain⟨z,its,n,r,hl,e⟩:=I.Jh hH
  refine call_meets F.slot_list_append ⟨_,e,rfl⟩ F.entry_list_append (F.args_list_append_2 _ _) (PySem.list_append l its.toArray n u (by rw[List.size_toArray];omega)) ⟨e,?_⟩
  refine⟨.non,_,I.Ky (its':=its++[u]) hH e (by simp) (r.append (.cons ru .nil)) ?_,rfl,q⟩
  rw[List.length_append,List.length_singleton]
  omega
def Kz:R2:=fun x y H Q=>∃l k xs,x=.ref l/\y=.int k/\H l=some (.lst xs)/\-(2^63)<=k/\k < 2^63/\xs.length*k.toNat<=sizeLine ∧
  ∀p,H p=none->Q (.ref p) (upd H p (.lst (List.replicate k.toNat xs).flatten))
theorem len_rep {α:Type}(xs:List α)(k:Nat): (List.replicate k xs).flatten.length=k*xs.length:=by
  induction k with
  | zero=>simp
  | succ k ih=>rw[List.replicate_succ,List.flatten_cons,List.length_append,ih,Nat.succ_mul,Nat.add_comm]
theorem En:OpR X (binaryOp .Mult) Kz:=by
  intro pins s σ H x y v u Q I rx ry h
  obtain⟨l,k,xs,rfl,rfl,hH,h1,h2,hz,q⟩:=h
  cases rx
  obtain⟨t,rfl⟩:=ry
  obtain⟨z,its,n,r,hl,e⟩:=I.Jh hH
  have hlen:its.toArray.size*k.toNat<=sizeLine:=by rw[List.size_toArray,<-hl];exact hz
  have hcap:¬its.toArray.size*k.toNat > (2^63-1) / 8:=by
    have:(sizeLine:Nat)<=(2^63-1) / 8:=by decide
    omega
  have hfit:¬(!Builtin.List.listFitsIndex k)=true:=by
    rw[fitsIndex_both h1 h2]
    exact Bool.false_ne_true
  have Ji:¬Builtin.List.listTooLong (its.toArray.size*k.toNat)=true:=by
    rw[Em hlen]
    exact Bool.false_ne_true
  have hnew:List.foldl (fun x1 x2=>x1++x2) #[] (List.replicate (if its.toArray.isEmpty=true then 0 else k.toNat) its.toArray)=(List.replicate k.toNat its).flatten.toArray:=by
    have f0:∀m:Nat,List.foldl (fun x1 x2=>x1++x2) #[] (List.replicate m its.toArray)=(List.replicate m its).flatten.toArray:=fun m=>by
      have:=foldl_rep its m []
      rw[List.nil_append] at this
      exact this
    rw[f0]
    cases its with
    | nil=>simp
    | cons a r'=>rw[if_neg (by simp)]
  refine wpAny_binaryOp_repeat_ref (T := "list") (U := "int") (by decide) ⟨_,e,rfl⟩ (fun s'=>typeIs_int s' k t) noFill_list_mul F.fills_int_mul F.slot_int_rmul repeat_list F.slot_int_index.lookup
    (call_meets F.slot_int_rmul (typeIs_int s k t) F.entry_int_rmul (F.args_int_rmul_2 _ _) (int___rmul___int_list k t l its.toArray n)
      ⟨e,rfl,⟨_,e,rfl⟩,call_meets F.slot_list_mul ⟨_,e,rfl⟩ F.entry_list_mul (F.args_list_mul_2 _ _) (AutoListH.list___mul___list_int_3 l its.toArray n k t hfit hcap Ji) ⟨e,?_⟩⟩)
  rw[hnew]
  exact⟨.ref _,_,I.HV (t':=s.toks) (r.rep k.toNat) (by rw[len_rep,Nat.mul_comm];exact hz),rfl,q _ I.fresh⟩
end
section
variable {prog:Program}{w:World}{A:Around}{E:Value->Shared->Prop}{s:Shared}
end
section
variable {X:Cx}
end
end L2
namespace Att
open PySem PySem.W PySem.Calls PyProof.Rows
theorem rT {P:Params}{h:Heap}: ∀(ns:List Int) (vs:List Value),WellAll P h vs (ns.map WData.int)->IntsAre vs ns:=by
  intro ns
  induction ns with
  | nil =>
    intro vs w
    rw[List.map_nil] at w
    cases w
    exact .nil
  | cons n ns ih =>
    intro vs w
    rw[List.map_cons] at w
    cases w with
    | cons a b =>
      cases a
      exact .cons _ _ (ih _ b)
theorem C3 {l:OpenLaw}{n:Nat}(hn:l.most=some n){P:Params}{h:Heap}{args:List WData}{vals:List Value}
    (hpre:l.row.toRowW.claim.pre args=true) (hwl:WellAll P h vals args) :
    ∃a vs ns,vals=[Value.ref a]/\args=[WData.list (ns.map WData.int)]/\h.get? a=some { cls:=.type "list",data:=.seq vs.toArray }/\IntsAre vs ns/\ns.length<=n:=by
  have hsh:WShape.hasAll [] args [.list .int]=true:=(pre_splitW hpre).1
  have hc:l.pre.holds [] { args:=args }=true:=(pre_splitW hpre).2
  obtain⟨d,r,rfl,h1,h2⟩:=hasAllW_cons hsh
  obtain rfl:=hasAllW_nil h2
  obtain⟨xs,rfl,h3⟩:=hasW_list h1
  obtain⟨ns,rfl⟩:=items_int h3
  have hlen:ns.length<=n:=by
    unfold OpenLaw.pre at hc
    have h4:(WTm.not (.lt (.lit (.int (n:Int))) (.len (.arg 0)))).holds [] { args:=[.list (ns.map .int)] }=true:=by
      have h4:=(holds_andW hc).1
      rw[hn] at h4
      exact h4
    have h5:=condW_of h4 (w_not (w_lt w_lit (w_len_list (w_arg rfl))))
    rw[List.length_map] at h5
    refine Nat.le_of_not_lt fun q=>?_
    have q':(n:Int) < ((ns.length:Nat):Int):=by omega
    first
      | (rw[decide_eq_true q'] at h5;exact absurd h5 (by decide))
      | (simp at h5;omega)
  cases hwl with
  | cons w1 w2 =>
    cases w2
    cases w1 with
    | list ho hall=>exact⟨_,_,ns,rfl,rfl,ho,rT ns _ hall,hlen⟩
theorem C5 (l:OpenLaw)(args:List WData): l.row.toRowW.claim.post args (.bool true) args=true :=
  postW_of (r:=l.row.toRowW) (X:=(true==true))
    (show WShape.has [] (.bool true) .bool=true by first | rfl | decide | simp[WShape.has,WShape.arms,WShape.armsAll])
    (show (WTm.eq .res (.lit (.bool true))).value [] { args:=args,res:=some (.bool true),after:=args }=some (.bool (true==true)) from w_eq_bool (w_res rfl) w_lit) rfl
theorem zf {l:OpenLaw}{n:Nat}{q:Program}{loose:List Str}{XP:(Str->Option Value)->Heap->Prop}{YP:World->Heap->Prop}{d:DefRec}
    (hn:l.most=some n) (hdf:d.params.defaults=[])
    (call:∀(w:World) (s₀ s₁:Shared) (mg mb:Str->Option Value) (fa:Addr) (o:Obj) (pm cd doc:Value) (a:Addr) (vs:List Value) (ns:List Int),
      Ground q loose [] XP w s₀ mg mb s₁.heap->YP w s₁.heap ->
      s₁.heap.get? fa=some o->o.data=.func (docDef d.name d.params d.body d.scope pm cd doc)->s₁.heap.CodeRec cd d.name->mg d.name=some (.ref fa) ->
      s₁.heap.get? a=some { cls:=.type "list",data:=.seq vs.toArray }->IntsAre vs ns->ns.length<=n->s₁.gens=#[] ->
      codeAny (model l.prog w) callerA (.call (.ref fa) ⟨[.ref a],[]⟩) (fun r s'=>r=.ok (.ret (.bool true))/\OldK s₁.heap s'.heap/\s'.os=s₁.os/\AllBare s'.gens) s₁) :
    WalkO q loose XP YP l.row.toRowW d [] (fun f vs=>PySem.call f vs):=by
  intro w s₀ s₁ mg mb G Y fa o pm cd doc dV kV ho hd hcd hD hmg hg args vals as hpre hlay hrd hwl hlo
  obtain rfl:dV=.none:=Dflts.none hD hdf
  obtain rfl:kV=.none:=Dflts.noKw hD
  obtain⟨a,vs,ns,rfl,rfl,hobj,hints,hlen⟩:=C3 hn hpre hwl
  refine enter_call (codeAny_mono (call w s₀ s₁ mg mb fa o pm cd doc a vs ns G Y ho (fd_plain hd) hcd hmg hobj hints hlen hg) fun r s' hq=>?_)
  obtain⟨rfl,h2,h3,h4⟩:=hq
  exact⟨.inl ⟨.bool true,.bool true,[],rfl,fun _=>rfl,.bool true,C5 l _,fun _=>⟨List.Pairwise.nil,fun _ hm=>(nomatch hm)⟩⟩,h2,h3,h4⟩
section
variable {prog:Program}{w:World}{A:Around}{E:Value->Shared->Prop}{s:Shared}{K:Frag}
end
end Att
namespace L2
open PySem PySem.Spec PyProof.Rows
theorem wQ:∀{vs:List Value} {ns:List Int},IntsAre vs ns->Vals (ns.map V.int) vs
  | _,_,.nil=>.nil
  | _,_,.cons n t h=>.cons ⟨t,rfl⟩ (wQ h)
def Only (H:Hp): Prop:=∀b,H b=none\/∃o xs,H b=some (.frz o (.lst xs))
theorem Eo {P:Program}{w:World}{K:PySem.W.Frag}{mg mb:Str->Option Value}{CX:CXT}{k:Nat}{fa a:Addr}{fd:FuncData}{x:Str}{sp:Sp}{s₁:Shared}{vs:List Value}{ns:List Int}
    (KX:K.In s₁.heap) (hns:s₁.heap.Ns mainGlobals mg) (hb:s₁.heap.Ns builtinsNs mb) (hbb:∀x:Str,x ≠ "__name__" -> mb x=bootBuiltins x) (hlim:s₁.heap.NoLimit) (hg:s₁.gens=#[])
    (ha:s₁.heap.get? a=some { cls:=.type "list",data:=.seq vs.toArray }) (hi:IntsAre vs ns) (hl:ns.length<=sizeLine) (hr:c7 k callerA)
    (F:∀base:Heap,K.In base->base.Ns mainGlobals mg->gv P w K mg base CX k fa fd [x] sp) (hbind:∀(s:Shared) (u:Value),BindsTo s fd ⟨[u],[]⟩ [(x,u)])
    (hsp:∀H:Hp,Only H->SqL K H a (ns.map V.int)->sp [.ref a] H (fun v _=>v=.bl true) fun _ _ _=>False)
    (hCX:∀H e s',CX [] H s₁ (fun _ _ _=>False) e s'->False) :
    codeAny (model P w) callerA (.call (.ref fa) ⟨[.ref a],[]⟩) (fun r s'=>r=.ok (.ret (.bool true))/\OldK s₁.heap s'.heap/\s'.os=s₁.os/\AllBare s'.gens) s₁:=by
  have rv:=wQ hi
  have lenV:=hi.length
  have core:∀H:Hp,Only H->SqL K H a (ns.map V.int)->HOk P w H s₁.heap->(∀b,H b≠none->b=a)->(H a≠none->K.lookup a=none) ->
      codeAny (model P w) callerA (.call (.ref fa) ⟨[.ref a],[]⟩) (fun r s'=>r=.ok (.ret (.bool true))/\OldK s₁.heap s'.heap/\s'.os=s₁.os/\AllBare s'.gens) s₁:=by
    intro H hO hS hok hA hK
    have BZ:∀{b:Addr} {o:Obj},s₁.heap.get? b=some o->H b=none->(xx s₁.heap H).get? b=some o:=fun e n=>D_ e n
    have noA:∀{b:Addr} {o:Obj} {es:Array DictEntry} {ep:Nat},s₁.heap.get? b=some o->o.data=.dict es ep->H b=none:=fun {b o es ep} e d=>by
      cases q:H b with
      | none=>rfl
      | some u =>
        have e':b=a:=hA b (by rw[q];simp)
        subst e'
        rw[ha] at e;cases e
        have d':Data.seq vs.toArray _=Data.dict es ep:=d
        cases d'
    have nsK:∀{b:Addr} {m:Str->Option Value},s₁.heap.Ns b m->(xx s₁.heap H).Ns b m:=fun {b m} ⟨o,es,ep,e,d,r⟩=>⟨o,es,ep,BZ e (noA e d),d,r⟩
    have hKb:K.In (xx s₁.heap H):=fun b o e=>BZ (KX b o e) (by
      cases q:H b with
      | none=>rfl
      | some u =>
        have e':b=a:=hA b (by rw[q];simp)
        subst e'
        rw[hK (by rw[q];simp)] at e;cases e)
    have hM:Mod K mg (xx s₁.heap H):=⟨hKb,nsK hns,⟨mb,nsK hb,hbb⟩,let ⟨mc,h1,h2⟩:=hlim;⟨mc,nsK h1,h2⟩⟩
    have e0:AF P w K mg (xx s₁.heap H) callerA [] s₁ H:=⟨rfl,hM,fun b o e=>Gb e,Nat.le_of_eq (CP _ _),trivial,fun b hb=>absurd (show b∈([]:List Addr) from hb) (by simp),hok,.of_eq hg⟩
    refine codeAny_mono ((F _ hKb (nsK hns)).run callerA [] s₁ H ⟨[.ref a],[]⟩ [.ref a] [.ref a] _ _ hr e0 (hbind s₁ (.ref a)) (.cons rfl .nil) (hsp H hO hS)) fun r s' h=>?_
    cases r with
    | error e=>exact(hCX H e s' h).elim
    | ok fl =>
      cases fl with
      | next=>exact False.elim h
      | brk=>exact False.elim h
      | cont=>exact False.elim h
      | ret u =>
        obtain⟨v,H',os,bare,un,hok',r',q⟩:=h
        have q':v=.bl true:=q
        subst q'
        obtain rfl:u=Value.bool true:=r'
        refine⟨rfl,OldK.of_keep fun b o e=>?_,os,bare⟩
        cases q:H b with
        | none=>exact un.keep b o e q (by intro z;exact absurd (show b∈([]:List Addr) from z) (by simp)) (by simp)
        | some u =>
          rcases hO b with z | ⟨ob,xs,z⟩
          · rw[q] at z;cases z
          · have z2:=un.nW b ob _ z
            obtain⟨e1,_⟩:=hok b _ z
            obtain⟨e2,_⟩:=hok' b _ z2
            rw[e] at e1;cases e1
            exact e2
  cases hk:K.lookup a with
  | some o =>
    have e:=KX a o hk
    rw[ha] at e
    cases e
    refine core (fun _=>none) (fun _=>.inl rfl) (.inr ⟨_,vs.toArray,_,hk,rfl,rfl,rfl,by rw[List.size_toArray,lenV];exact hl,by simpa using rv⟩) (fun b u z=>by have z':(none:Option HO)=some u:=z;cases z') (fun b z=>absurd rfl z) fun z=>absurd rfl z
  | none =>
    refine core (fun b=>if b=a then some (.frz { cls:=.type "list",data:=.seq vs.toArray } (.lst (ns.map V.int))) else none) (fun b=>?_) (.inl (.inr ⟨{ cls:=.type "list",data:=.seq vs.toArray },if_pos rfl⟩)) (fun b u z=>?_) (fun b z=>?_) fun _=>hk
    · by_cases hb:b=a
      · exact .inr ⟨_,_,if_pos hb⟩
      · exact .inl (if_neg hb)
    · by_cases hb:b=a
      · have z':=(if_pos hb).symm.trans z
        cases z'
        subst hb
        exact⟨ha,by rw[List.length_map];exact hl,vs,_,rv,ha⟩
      · have z':=(if_neg hb).symm.trans z
        cases z'
    · by_cases hb:b=a
      · exact hb
      · exact absurd (if_neg hb) z
end L2
namespace L2
open PySem PySem.Spec PyProof.Rows
theorem Gq {l:PySem.W.OpenLaw}{n k:Nat}{q:Program}{loose:List Str}{XP:(Str->Option Value)->Heap->Prop}{YP:World->Heap->Prop}{d:DefRec}{K:Params->PySem.W.Frag}{CX:World->CXT}{sp:World->Sp}{x:Str}
    (hn:l.most=some n) (hn2:n<=sizeLine) (hdf:d.params.defaults=[]) (hr:c7 k callerA)
    (hY:∀(w:World) (h:Heap),YP w h->(K w.params).In h)
    (F:∀(w:World) (mg:Str->Option Value) (fa:Addr) (h:Heap),(K w.params).In h->h.Ns mainGlobals mg->mg d.name=some (.ref fa) ->
      ∃fd:FuncData,(∀(s:Shared) (u:Value),BindsTo s fd ⟨[u],[]⟩ [(x,u)]) ∧
        ∀base:Heap,(K w.params).In base->base.Ns mainGlobals mg->gv l.prog w (K w.params) mg base (CX w) k fa fd [x] (sp w))
    (hsp:∀(w:World) (H:Hp) (a:Addr) (ns:List Int),ns.length<=n->Only H->SqL (K w.params) H a (ns.map V.int)->sp w [.ref a] H (fun v _=>v=.bl true) fun _ _ _=>False)
    (hCX:∀(w:World) (H:Hp) (s:Shared) (e:Value) (s':Shared),CX w [] H s (fun _ _ _=>False) e s'->False) :
    PySem.W.WalkO q loose XP YP l.row.toRowW d [] (fun f vs=>PySem.call f vs):=by
  refine Att.zf hn hdf fun w s₀ s₁ mg mb fa o pm cd doc a vs ns G Y ho hd hcd hmg hobj hints hlen hg=>?_
  have KX:=hY w _ Y
  obtain⟨fd,hb,hF⟩:=F w mg fa _ KX G.T.g hmg
  exact Eo KX G.T.g G.T.b G.T.builtins G.T.nolimit hg hobj hints (Nat.le_trans hlen hn2) hr hF hb (fun H hO hS=>hsp w H a ns hlen hO hS) fun H e s'=>hCX w H s₁ e s'
end L2
namespace L2
open PySem PySem.Spec PyProof.Rows
def inClass (s:Stmt)(j:Nat): Stmt:=match s with
  | .ClassDef _ _ _ body _ _ _ _ _ _ _=>body.getD j (.Pass ⟨0,0,0,0⟩)
  | _=>.Pass ⟨0,0,0,0⟩
def bB (s:Stmt): Arguments:=match s with
  | .FunctionDef _ a _ _ _ _ _ _ _ _=>a
  | _=>{ posonlyargs:=[],args:=[],vararg:=none,kwonlyargs:=[],kw_defaults:=[],kwarg:=none,defaults:=[] }
def aY (s:Stmt): List Stmt:=match s with
  | .FunctionDef _ _ b _ _ _ _ _ _ _=>b
  | _=>[]
def ak (s:Stmt): Scope:=match s with
  | .FunctionDef _ _ _ _ _ _ sc _ _ _=>sc
  | _=>{ kind:=.function,names:=[],isGenerator:=false,isCoroutine:=false }
abbrev E0:XK:=fun _ _ _=>False
section
variable {P:Program}{w:World}{K:PySem.W.Frag}{mg:Str->Option Value}{base:Heap}
end
section
variable {X:Cx}
theorem pv (i:Nat) {x:Str} {pos:Pos} (hN:X.N[i]?=some x:=by rfl) (hv:Vis X.env.scope x:=by first | exact Or.inl rfl | exact Or.inr (Or.inl rfl) | exact Or.inr (Or.inr rfl)) (hd:(x==("__debug__" : Str))=false:=by decide)
    (hcd:(x==("__classdict__" : Str))=false:=by decide):PE X (.Name x pos) (IW i):=HE hN hv hd hcd
end
theorem Gr {A B:Prop}(h:B): if false=true then A else B:=by
  rw[if_neg Bool.false_ne_true]
  exact h
theorem oV {A B:Prop}(h:A): if true=true then A else B:=by
  rw[if_pos rfl]
  exact h
def Same (H H':Hp): Prop:=∀b o,H b=some o->H' b=some o
theorem Same.refl (H:Hp): Same H H:=fun _ _ h=>h
theorem Same.trans {H H1 H2:Hp}(a:Same H H1)(b:Same H1 H2): Same H H2:=fun c o h=>b c o (a c o h)
theorem Same.free {H H':Hp}(e:Same H H'){l:Addr}(h:H' l=Option.none): H l=Option.none:=by
  cases q:H l with
  | none=>rfl
  | some o =>
    rw[e l o q] at h
    cases h
theorem Same.seq {K:PySem.W.Frag}{H H':Hp}{a:Addr}{xs:List V}(e:Same H H')(h:SqL K H a xs): SqL K H' a xs:=by
  rcases h with (h | ⟨o,h⟩) | h
  · exact .inl (.inl (e _ _ h))
  · exact .inl (.inr ⟨o,e _ _ h⟩)
  · exact .inr h
end L2

namespace L2
open PySem PySem.Spec PyProof.Rows
section
variable {κ:Type}[DecidableEq κ]
def bf (kvs:List (κ×V))(k:κ): Option V:=(kvs.find? fun kv=>decide (kv.1=k)).map (·.2)
def putK (kvs:List (κ×V))(k:κ)(v:V): List (κ×V) :=
  if (kvs.any fun kv=>decide (kv.1=k))=true then kvs.map (fun kv=>if kv.1=k then (kv.1,v) else kv) else kvs++[(k,v)]
def dk (kvs:List (κ×V))(k:κ): List (κ×V):=kvs.filter fun kv=>decide (kv.1≠k)
theorem dq {p:κ×V}{r:List (κ×V)}{k:κ}(e:p.1=k): bf (p::r) k=some p.2:=by simp[bf,List.find?_cons,e]
theorem du {p:κ×V}{r:List (κ×V)}{k:κ}(e:¬p.1=k): bf (p::r) k=bf r k:=by simp[bf,List.find?_cons,e]
theorem iO (k:κ): ∀kvs:List (κ×V),(kvs.any fun kv=>decide (kv.1=k))=(bf kvs k).isSome
  | []=>rfl
  | p::r=>by
    rw[List.any_cons]
    by_cases e:p.1=k
    · simp only [dq e,decide_eq_true e,Bool.true_or,Option.isSome_some]
    · rw[du e,decide_eq_false e,Bool.false_or];exact iO k r
theorem zg (k j:κ)(y:V): ∀kvs:List (κ×V),bf (kvs.map fun kv=>if kv.1=k then (kv.1,y) else kv) j=(bf kvs j).map fun x=>if j=k then y else x
  | []=>rfl
  | p::r=>by
    have ih:=zg k j y r
    rw[List.map_cons]
    by_cases h:p.1=k
    · rw[if_pos h]
      by_cases e:p.1=j
      · rw[dq (p:=(p.1,y)) e,dq e,Option.map_some,if_pos (e.symm.trans h)]
      · rw[du (p:=(p.1,y)) e,du e,ih]
    · rw[if_neg h]
      by_cases e:p.1=j
      · rw[dq (p:=p) e,dq e,Option.map_some,if_neg (fun z=>h (e.trans z))]
      · rw[du (p:=p) e,du e,ih]
theorem wR (k j:κ)(y:V): ∀kvs:List (κ×V),bf kvs k=none->bf (kvs++[(k,y)]) j=if j=k then some y else bf kvs j
  | [],_=>by
    by_cases e:k=j
    · rw[if_pos e.symm];exact dq (p:=(k,y)) e
    · rw[if_neg (fun z=>e z.symm)];exact du (p:=(k,y)) e
  | p::r,hn=>by
    rw[List.cons_append]
    have hk:¬p.1=k:=fun z=>by rw[dq z] at hn;cases hn
    rw[du hk] at hn
    have ih:=wR k j y r hn
    by_cases e:p.1=j
    · rw[dq e,dq e,if_neg (fun z=>hk (e.trans z))]
    · rw[du e,du e,ih]
theorem d8 (kvs:List (κ×V))(k j:κ)(y:V): bf (putK kvs k y) j=if j=k then some y else bf kvs j:=by
  unfold putK
  by_cases a:(kvs.any fun kv=>decide (kv.1=k))=true
  · rw[if_pos a,zg]
    rw[iO] at a
    by_cases e:j=k
    · obtain⟨x,hx⟩:=Option.isSome_iff_exists.mp a
      rw[if_pos e,e,hx,Option.map_some,if_pos rfl]
    · rw[if_neg e]
      cases bf kvs j with
      | none=>rfl
      | some x=>rw[Option.map_some,if_neg e]
  · rw[if_neg a]
    refine wR k j y kvs ?_
    rw[iO] at a
    cases q:bf kvs k with
    | none=>rfl
    | some x=>rw[q] at a;exact(a rfl).elim
theorem dv (kvs:List (κ×V))(k:κ)(v:V): (putK kvs k v).length<=kvs.length+1:=by
  unfold putK
  split
  · rw[List.length_map];omega
  · rw[List.length_append,List.length_cons,List.length_nil];omega
theorem zh {kvs:List (κ×V)}{k:κ}(v:V)(h:bf kvs k=none): putK kvs k v=kvs++[(k,v)]:=by
  unfold putK
  rw[iO,h]
  exact if_neg (by decide)
theorem fJ.j8 {o:Option V}{u:Option Value}(r:fJ o u): o.isSome=u.isSome:=by
  cases o with
  | none=>cases u with
    | none=>rfl
    | some _=>exact(show False from r).elim
  | some _=>cases u with
    | none=>exact(show False from r).elim
    | some _=>rfl
theorem fJ.getD {o:Option V}{u:Option Value}{d:V}{d':Value}(r:fJ o u)(rd:RelV d d'): RelV (o.getD d) (u.getD d'):=by
  cases o with
  | none=>cases u with
    | none=>exact rd
    | some _=>exact(show False from r).elim
  | some _=>cases u with
    | none=>exact(show False from r).elim
    | some _=>exact r
theorem KV.val {kvs:List (κ×V)}{vs:List (κ×Value)}(r:KV kvs vs)(k:κ): fJ (bf kvs k) (valueAt vs k):=by
  unfold KV at r
  induction r with
  | nil=>exact True.intro
  | @cons p q ps qs h t ih =>
    obtain⟨h1,h2⟩:=h
    by_cases e:p.1=k
    · have e':q.1=k:=h1.symm.trans e
      have b:valueAt (q::qs) k=some q.2:=by simp[valueAt,List.find?_cons,e']
      rw[dq e,b];exact h2
    · have e':¬q.1=k:=fun z=>e (h1.trans z)
      have b:valueAt (q::qs) k=valueAt qs k:=by simp[valueAt,List.find?_cons,e']
      rw[du e,b];exact ih
theorem KV.any {kvs:List (κ×V)}{vs:List (κ×Value)}(r:KV kvs vs)(k:κ): (kvs.any fun kv=>decide (kv.1=k))=vs.any fun kv=>decide (kv.1=k):=by
  unfold KV at r
  induction r with
  | nil=>rfl
  | cons h t ih=>rw[List.any_cons,List.any_cons,ih,h.1]
theorem KV.repl {kvs:List (κ×V)}{vs:List (κ×Value)}(r:KV kvs vs)(k:κ){y:V}{u:Value}(ry:RelV y u):
    KV (kvs.map fun kv=>if kv.1=k then (kv.1,y) else kv) (vs.map fun kv=>if kv.1=k then (kv.1,u) else kv):=by
  unfold KV at r ⊢
  induction r with
  | nil=>exact .nil
  | @cons p q ps qs h t ih =>
    rw[List.map_cons,List.map_cons]
    refine .cons ?_ ih
    obtain⟨h1,h2⟩:=h
    by_cases e:p.1=k
    · rw[if_pos e,if_pos (h1.symm.trans e)];exact⟨h1,ry⟩
    · rw[if_neg e,if_neg (fun z=>e (h1.trans z))];exact⟨h1,h2⟩
theorem KV.put {kvs:List (κ×V)}{vs:List (κ×Value)}(r:KV kvs vs)(k:κ){y:V}{u:Value}(ry:RelV y u): KV (putK kvs k y) (stored vs k u):=by
  unfold putK stored
  rw[r.any k]
  by_cases e:(vs.any fun kv=>decide (kv.1=k))=true
  · rw[if_pos e,if_pos e];exact r.repl k ry
  · rw[if_neg e,if_neg e];exact Paired.snoc r ⟨rfl,ry⟩
theorem KV.drop {kvs:List (κ×V)}{vs:List (κ×Value)}(r:KV kvs vs)(k:κ): KV (dk kvs k) (without vs k):=by
  unfold KV at r ⊢
  unfold dk without
  induction r with
  | nil=>exact .nil
  | @cons p q ps qs h t ih =>
    obtain⟨h1,h2⟩:=h
    rw[List.filter_cons,List.filter_cons]
    by_cases e:p.1=k
    · have a:¬decide (p.1≠k)=true:=by simp[e]
      have b:¬decide (q.1≠k)=true:=by simp[h1.symm.trans e]
      rw[if_neg a,if_neg b];exact ih
    · have e':¬q.1=k:=fun z=>e (h1.trans z)
      have a:decide (p.1≠k)=true:=by simp[e]
      have b:decide (q.1≠k)=true:=by simp[e']
      rw[if_pos a,if_pos b];exact .cons ⟨h1,h2⟩ ih
theorem KV.length {kvs:List (κ×V)}{vs:List (κ×Value)}(r:KV kvs vs): kvs.length=vs.length:=Paired.length r
theorem oW (kvs:List (κ×V))(k:κ): (dk kvs k).length<=kvs.length:=List.length_filter_le _ _
end
theorem oX {P:Program}{w:World}{k:Key}{u:Value}(r:RelV (kV k) u): (cx P w).is k u=true:=by
  cases k with
  | inl i=>obtain⟨t,e⟩:=(show ∃t,u=Value.int i t from r);subst e;exact y4 P w i t
  | inr x=>obtain⟨t,e⟩:=(show ∃t,u=Value.str x t from r);subst e;exact y6 P w x t
theorem wU {P:Program}{w:World}: ∀{ks:List Key} {us:List Value},Vals (ks.map kV) us->ItemsAre (cx P w) ks us
  | [],_,r=>by rw[List.map_nil] at r;cases r;exact .nil
  | k::ks,_,r=>by
    rw[List.map_cons] at r
    cases r with
    | cons h t=>exact .cons (oX h) (wU t)
abbrev KT (H:Hp): List (List Key×V)->List (List Key×Addr×Value)->Prop:=Paired fun p q=>p.1=q.1/\H q.2.1=some (.tup (p.1.map kV))/\RelV p.2 q.2.2
theorem KT.val {H:Hp}{kvs:List (List Key×V)}{xs:List (List Key×Addr×Value)}(r:KT H kvs xs)(k:List Key): fJ (bf kvs k) ((atKey xs k).map (·.2)):=by
  induction r with
  | nil=>exact True.intro
  | @cons p q ps qs h t ih =>
    obtain⟨h1,_,h2⟩:=h
    by_cases e:p.1=k
    · have e':q.1=k:=h1.symm.trans e
      have b:atKey (q::qs) k=some q.2:=by simp[atKey,List.find?_cons,e']
      rw[dq e,b];exact h2
    · have e':¬q.1=k:=fun z=>e (h1.trans z)
      have b:atKey (q::qs) k=atKey qs k:=by simp[atKey,List.find?_cons,e']
      rw[du e,b];exact ih
theorem KT.repl {H:Hp}{kvs:List (List Key×V)}{xs:List (List Key×Addr×Value)}(r:KT H kvs xs)(k:List Key){y:V}{u:Value}(ry:RelV y u):
    KT H (kvs.map fun kv=>if kv.1=k then (kv.1,y) else kv) (xs.map (putAt k u)):=by
  induction r with
  | nil=>exact .nil
  | @cons p q ps qs h t ih =>
    rw[List.map_cons,List.map_cons]
    refine .cons ?_ ih
    obtain⟨h1,h2,h3⟩:=h
    unfold putAt
    by_cases e:p.1=k
    · rw[if_pos e,if_pos (h1.symm.trans e)];exact⟨h1,h2,ry⟩
    · rw[if_neg e,if_neg (fun z=>e (h1.trans z))];exact⟨h1,h2,h3⟩
theorem KT.put {H:Hp}{kvs:List (List Key×V)}{xs:List (List Key×Addr×Value)}(r:KT H kvs xs)(k:List Key){b:Addr}{y:V}{u:Value}(hb:H b=some (.tup (k.map kV)))(ry:RelV y u):
    KT H (putK kvs k y) (storedH xs k b u):=by
  have e:(kvs.any fun kv=>decide (kv.1=k))=(atKey xs k).isSome:=by
    rw[iO,(r.val k).j8,Option.isSome_map]
  unfold putK storedH
  rw[e]
  by_cases q:(atKey xs k).isSome=true
  · rw[if_pos q,if_pos q];exact r.repl k ry
  · rw[if_neg q,if_neg q];exact Paired.snoc r ⟨rfl,hb,ry⟩
theorem KT.keeps {H H':Hp}{kvs:List (List Key×V)}{xs:List (List Key×Addr×Value)}(r:KT H kvs xs)(ht:∀b ys,H b=some (.tup ys)->H' b=some (.tup ys)): KT H' kvs xs :=
  Paired.Hz r fun _ _ z=>⟨z.1,ht _ _ z.2.1,z.2.2⟩
section
variable {P:Program}{w:World}{H:Hp}{h:Heap}{a:Addr}
theorem Hg {u:HO}(ok:HOk P w H h)(e:Rd H a u): b4 P w H h a u:=e.ok ok
theorem rc {kvs:List (Key×V)}(ok:HOk P w H h)(e:Rd H a (.dK kvs)): kvs.length<=sizeLine/\(a==sysModules)=false/\∃vs,KV kvs vs/\h.DictOf (cx P w) a vs :=
  show b4 P w H h a (.dK kvs) from Hg ok e
theorem B0 {kvs:List (Key×V)}(ok:HOk P w H h)(e:H a=some (.dK kvs)): kvs.length<=sizeLine/\(a==sysModules)=false/\∃vs,KV kvs vs/\h.DictOf (cx P w) a vs:=rc ok (.inl e)
theorem p_ {ks:List Key}(ok:HOk P w H h)(e:H a=some (.tup (ks.map kV))): (tupleKind (cx P w)).is h ks a:=by
  obtain⟨_,its,r,o,h1,h2,n,h3⟩:=(show b4 P w H h a (.tup (ks.map kV)) from ok a _ e)
  exact⟨o,its.toArray,n,h1,h2,h3,by simpa using wU r⟩
theorem tP {kvs:List (List Key×V)}(ok:HOk P w H h)(e:Rd H a (.dT kvs)): kvs.length<=sizeLine/\(a==sysModules)=false ∧
    ∃xs,KT H kvs xs/\h.DictOfH (tupleKind (cx P w)) a xs:=by
  obtain⟨z,y,xs,r,o,es,ep,h1,h2,h3,h4,h5⟩:=(show b4 P w H h a (.dT kvs) from Hg ok e)
  refine⟨z,y,xs,r,o,es,ep,h1,h2,h3,h4,fun x hx=>?_,h5⟩
  have all:∀{l:List (List Key×V)} {m:List (List Key×Addr×Value)},KT H l m->∀x∈m,(tupleKind (cx P w)).is h x.1 x.2.1:=by
    intro l m q
    induction q with
    | nil=>intro x hx;exact nomatch hx
    | @cons p q ps qs hq t ih =>
      intro x hx
      rcases List.mem_cons.mp hx with e | hx
      · subst e
        exact p_ ok (by rw[<-hq.1];exact hq.2.1)
      · exact ih x hx
  exact all r x hx
theorem Jj {kvs:List (List Key×V)}(ok:HOk P w H h)(e:H a=some (.dT kvs)): kvs.length<=sizeLine/\(a==sysModules)=false ∧
    ∃xs,KT H kvs xs/\h.DictOfH (tupleKind (cx P w)) a xs:=tP ok (.inl e)
end
def lW (H:Hp)(a:Addr)(y:V)(r:Option V): Prop :=
  (∃kvs k,Rd H a (.dK kvs)/\y=kV k/\r=bf kvs k)\/∃kvs k b,Rd H a (.dT kvs)/\y=.ref b/\H b=some (.tup (k.map kV))/\r=bf kvs k
def AI (H:Hp)(a:Addr)(y v:V)(H':Hp): Prop :=
  (∃kvs k,H a=some (.dK kvs)/\y=kV k/\kvs.length < sizeLine/\H'=upd H a (.dK (putK kvs k v))) ∨
  ∃kvs k b,H a=some (.dT kvs)/\y=.ref b/\H b=some (.tup (k.map kV))/\kvs.length < sizeLine/\H'=upd H a (.dT (putK kvs k v))
theorem lW.k {H:Hp}{a:Addr}{kvs:List (Key×V)}{k:Key}(e:H a=some (.dK kvs)): lW H a (kV k) (bf kvs k):=.inl ⟨kvs,k,.inl e,rfl,rfl⟩
theorem AI.k {H:Hp}{a:Addr}{kvs:List (Key×V)}{k:Key}{v:V}(e:H a=some (.dK kvs))(hl:kvs.length < sizeLine): AI H a (kV k) v (upd H a (.dK (putK kvs k v))):=.inl ⟨kvs,k,e,rfl,hl,rfl⟩
section
variable {X:Cx}{pins:List (Addr×Obj)}{σ:St}{H:Hp}{s:Shared}{a:Addr}{y v:V}{u r:Value}{o:Option V}{A:Around}{E:Value->Shared->Prop}
theorem Inv.big (I:Inv X pins σ H s): sysModules < s.heap.objs.size:=by
  have h:mainGlobals < s.heap.objs.size:=(I.mod.glob.keeps I.bk).lt
  exact Nat.lt_trans (by decide) h
theorem C6 {Q:Value->Shared->Prop}(hu:A.units+1 < cLine)(I:Inv X pins σ H s)(g:lW H a y (some v))(ry:RelV y u)(h:∀w' s',Inv X pins σ H s'->RelV v w'->Q w' s'):
    wpAny (model X.prog X.w) A (getItem (.ref a) u) Q E s:=by
  rcases g with ⟨kvs,k,e,ey,l⟩ | ⟨kvs,k,b,e,ey,eb,l⟩
  · subst ey
    obtain⟨z,hd,vs,rel,dd⟩:=rc I.hok e
    obtain⟨w',hw,rw'⟩:=fJ.some_of (v:=v) (o:=valueAt vs k) (by rw[l];exact rel.val k)
    exact wpAny_getItem_of (oX ry) dd.mapOf hw (h w' _ (I.tok _) rw')
  · subst ey
    cases (show u=Value.ref b from ry)
    obtain⟨z,hd,xs,rel,dd⟩:=tP I.hok e
    obtain⟨w',hw,rw'⟩:=fJ.some_of (v:=v) (o:=(atKey xs k).map (·.2)) (by rw[l];exact rel.val k)
    obtain⟨p,hp,hp2⟩:=Option.map_eq_some_iff.mp hw
    refine wpAny_getItem_heap (tupleKind_room_in1 hu) (p_ I.hok eb) dd hp ?_
    rw[hp2]
    exact h w' _ (I.tok _) rw'
theorem KA {Q:Value->Shared->Prop}(hu:A.units+1 < cLine)(I:Inv X pins σ H s)(g:lW H a y o)(ry:RelV y u)(h:∀s',Inv X pins σ H s'->Q (.bool o.isSome) s'):
    wpAny (model X.prog X.w) A (compareOp .In u (.ref a)) Q E s:=by
  rcases g with ⟨kvs,k,e,ey,l⟩ | ⟨kvs,k,b,e,ey,eb,l⟩
  · subst ey
    obtain⟨z,hd,vs,rel,dd⟩:=rc I.hok e
    refine wpAny_in_of (oX ry) hd dd.mapOf ?_
    rw[<-(rel.val k).j8,<-l]
    exact h _ (I.tok _)
  · subst ey
    cases (show u=Value.ref b from ry)
    obtain⟨z,hd,xs,rel,dd⟩:=tP I.hok e
    refine wpAny_in_heap (tupleKind_room_in1 hu) (p_ I.hok eb) hd dd ?_
    have q:=(rel.val k).j8
    rw[Option.isSome_map] at q
    rw[<-q,<-l]
    exact h _ (I.tok _)
theorem Gs {Q:Value->Shared->Prop}(hu:A.units+1 < cLine)(I:Inv X pins σ H s)(g:lW H a y o)(ry:RelV y u)(h:∀s',Inv X pins σ H s'->Q (.bool (!o.isSome)) s'):
    wpAny (model X.prog X.w) A (compareOp .NotIn u (.ref a)) Q E s:=by
  rcases g with ⟨kvs,k,e,ey,l⟩ | ⟨kvs,k,b,e,ey,eb,l⟩
  · subst ey
    obtain⟨z,hd,vs,rel,dd⟩:=rc I.hok e
    refine wpAny_notIn_of (oX ry) hd dd.mapOf ?_
    rw[<-(rel.val k).j8,<-l]
    exact h _ (I.tok _)
  · subst ey
    cases (show u=Value.ref b from ry)
    obtain⟨z,hd,xs,rel,dd⟩:=tP I.hok e
    refine wpAny_notIn_heap (tupleKind_room_in1 hu) (p_ I.hok eb) hd dd ?_
    have q:=(rel.val k).j8
    rw[Option.isSome_map] at q
    rw[<-q,<-l]
    exact h _ (I.tok _)
theorem sY {h':Heap}{t':Nat}{ob:HO}(I:Inv X pins σ H s)(mu:Mut (H a))(hs:Heap.SameBut a s.heap h')(he:∃q,h'.get? a=some q)(new:b4 X.prog X.w (upd H a ob) h' a ob):
    Inv X pins σ (upd H a ob) { s with heap:=h',toks:=t' } :=
  I.write (x:=a) (e:=a) mu (.inl rfl) (fun b q hb z=>(hs.2 b hb).trans z) he new
theorem AJ {P:Program}{w:World}{H':Hp}{h':Heap}{kvs:List (Key×V)}{vs:List (Key×Value)}(z:kvs.length<=sizeLine)(hd:(a==sysModules)=false)(rel:KV kvs vs)(dd:h'.DictOf (cx P w) a vs):
    b4 P w H' h' a (.dK kvs):=⟨z,hd,vs,rel,dd⟩
theorem C7 {H':Hp}{Q:Unit->Shared->Prop}(hu:A.units+1 < cLine)(I:Inv X pins σ H s)(g:AI H a y v H')(ry:RelV y u)(rv:RelV v r)(h:∀s',Inv X pins σ H' s'->Q () s'):
    wpAny (model X.prog X.w) A (setItem (.ref a) u r) Q E s:=by
  rcases g with ⟨kvs,k,e,ey,l,eH⟩ | ⟨kvs,k,b,e,ey,eb,l,eH⟩
  · subst ey eH
    obtain⟨z,hd,vs,rel,dd⟩:=B0 I.hok e
    have hz:vs.length<=sizeLine:=by rw[<-rel.length];exact z
    have hl:(putK kvs k v).length<=sizeLine:=by have:=dv kvs k v;omega
    refine wpAny_setItem_pairs (hsz:=hz) (oX ry) dd fun h' dd' hs=>h _ ?_
    have he:∃q,h'.get? a=some q:=let ⟨q,_,_,hq,_⟩:=dd';⟨q,hq⟩
    exact sY I (by rw[e];exact True.intro) hs he (AJ hl hd (rel.put k rv) dd')
  · subst ey eH
    cases (show u=Value.ref b from ry)
    obtain⟨z,hd,xs,rel,dd⟩:=Jj I.hok e
    have hz:xs.length<=sizeLine:=by rw[<-Paired.length rel];exact z
    have hl:(putK kvs k v).length<=sizeLine:=by have:=dv kvs k v;omega
    refine wpAny_setItem_heap (hsz:=hz) (tupleKind_room_in1 hu) (p_ I.hok eb) dd fun h' dd' hs=>h _ ?_
    obtain⟨q,es,ep,hq,h2,h3,h4,_,h5⟩:=dd'
    refine sY I (by rw[e];exact True.intro) hs ⟨q,hq⟩ ⟨hl,hd,_,(rel.put k eb rv).keeps fun c ys ec=>?_,q,es,ep,hq,h2,h3,h4,h5⟩
    rw[av (tF ec e (fun z=>nomatch z))]
    exact ec
end
section
variable {X:Cx}{pins:List (Addr×Obj)}{σ:St}{H:Hp}{s:Shared}{a:Addr}{kvs:List (Key×V)}{k:Key}{u:Value}{A:Around}{E:Value->Shared->Prop}
theorem Hh {v:V}{more:List Value}{Q:Value->Shared->Prop}(I:Inv X pins σ H s)(e:H a=some (.dK kvs))(ry:RelV (kV k) u)(l:bf kvs k=some v)(hm:more=[]\/∃x,more=[x])
    (h:∀w' s',Inv X pins σ (upd H a (.dK (dk kvs k))) s'->RelV v w'->Q w' s'):wpAny (model X.prog X.w) A (call (.builtin "dict.pop") (.ref a::u::more)) Q E s:=by
  obtain⟨z,hd,vs,rel,dd⟩:=B0 I.hok e
  obtain⟨w',hw,rw'⟩:=fJ.some_of (v:=v) (o:=valueAt vs k) (by rw[<-l];exact rel.val k)
  have hp:(keyPart u).isSome=true:=by
    cases k with
    | inl i=>obtain⟨t,q⟩:=(show ∃t,u=Value.int i t from ry);subst q;rfl
    | inr x=>obtain⟨t,q⟩:=(show ∃t,u=Value.str x t from ry);subst q;rfl
  have ha:argsOk "dict.pop" ⟨.ref a::u::more,[]⟩:=by
    rcases hm with q | ⟨x,q⟩
    · subst q;exact PySem.F.args_dict_pop_2 _ _
    · subst q;exact PySem.F.args_dict_pop_3 _ _ _
  refine call_meetsIn PySem.F.slot_dict_pop dd.typeIs PySem.F.entry_dict_pop ha (meets_dict_pop_there (cx X.prog X.w) a (oX ry) more hm hp)
    ⟨vs,w',dd,by rw[<-rel.length];exact z,hw,fun h' dd' hs=>h w' _ ?_ rw'⟩
  have he:∃q,h'.get? a=some q:=let ⟨q,_,_,hq,_⟩:=dd';⟨q,hq⟩
  exact sY I (by rw[e];exact True.intro) hs he (AJ (Nat.le_trans (oW kvs k) z) hd (rel.drop k) dd')
theorem HW {r:Value}{Q:Value->Shared->Prop}(I:Inv X pins σ H s)(e:H a=some (.dK kvs))(ry:RelV (kV k) u)(l:bf kvs k=none)(h:∀s',Inv X pins σ H s'->Q r s'):
    wpAny (model X.prog X.w) A (call (.builtin "dict.pop") [.ref a,u,r]) Q E s:=by
  obtain⟨z,hd,vs,rel,dd⟩:=B0 I.hok e
  have hn:valueAt vs k=none:=fJ.none_of (by rw[<-l];exact rel.val k)
  have hp:(keyPart u).isSome=true:=by
    cases k with
    | inl i=>obtain⟨t,q⟩:=(show ∃t,u=Value.int i t from ry);subst q;rfl
    | inr x=>obtain⟨t,q⟩:=(show ∃t,u=Value.str x t from ry);subst q;rfl
  exact call_meetsIn PySem.F.slot_dict_pop dd.typeIs PySem.F.entry_dict_pop (PySem.F.args_dict_pop_3 _ _ _) (meets_dict_pop_default (cx X.prog X.w) a (oX ry) hd hp r) ⟨vs,dd,hn,h _ (I.tok _)⟩
theorem Jk {Q:Value->Shared->Prop}(I:Inv X pins σ H s)(e:Rd H a (.dK kvs))(h:∀t s',Inv X pins σ H s'->Q (.int kvs.length t) s'): wpAny (model X.prog X.w) A (call (.builtin "len") [.ref a]) Q E s:=by
  obtain⟨z,hd,vs,rel,dd⟩:=rc I.hok e
  refine call_len_dict hd dd (by rw[<-rel.length];rw[sizeLine_eq] at z;omega) ?_
  rw[<-rel.length]
  exact h _ _ (I.tok _)
end
def HX (i:Expr): Prop:=∀ov iv,subscripted i false ov iv=operate [ov,iv] (getItem ov iv)
theorem B1 {prog:Program}{w:World}{A:Around}{E:Value->Shared->Prop}{s:Shared}{env:Env}{value slice:Expr}{pos:Pos}{T id:String}{Q:Value->Shared->Prop}
    (hl:typeLookup (.type T) "__getitem__" = pure (some (.builtin id))) (hs:HX slice)
    (h:wpAny (model prog w) A (eval value env) (fun o s₁=>wpAny (model prog w) A (eval slice env) (fun i s₂=>s₂.TypeIs o T/\wpAny (model prog w) A (getItem o i) Q E s₂) E s₁) E s) :
    wpAny (model prog w) A (eval (.Subscript value slice pos) env) Q E s:=by
  refine Subscript_ (wpAny_mono h (fun o s₁ h₁=>wpAny_mono h₁ (fun i s₂ h₂=>?_) fun _ _ x=>x) fun _ _ x=>x)
  obtain⟨hT,h₂⟩:=h₂
  unfold subscriptTail
  refine wpAny_bind ?_
  rw[getitemInPython_of_ne hT.not_modules]
  refine wpAny_bind (wpAny_specialOf hT hl ?_)
  have fin:wpAny (model prog w) A (subscripted slice false o i) (fun r s₃=>wpAny (model prog w) A (letTemporaryGo value o r >>= fun _=>pure r) Q E s₃) E s₂:=by
    rw[hs o i]
    exact wpAny_operating (wpAny_mono h₂ (fun r s₃ h₃=>wpAny_bind (wpAny_letTemporaryGo (wpAny_pure h₃))) fun _ _ x=>x)
  first
    | exact wpAny_pure (wpAny_bind fin)
    | exact wpAny_bind (wpAny_pure (wpAny_bind fin))
    | exact wpAny_bind fin
theorem zi {X:Cx}{pins:List (Addr×Obj)}{σ:St}{H:Hp}{s:Shared}{a:Addr}{y:V}{o:Option V}(I:Inv X pins σ H s)(g:lW H a y o): s.TypeIs (.ref a) "dict" := by
  rcases g with ⟨kvs,k,e,_,_⟩ | ⟨kvs,k,b,e,_,_,_⟩
  · obtain⟨_,_,vs,_,dd⟩:=rc I.hok e
    exact dd.typeIs
  · obtain⟨_,_,xs,_,dd⟩:=tP I.hok e
    exact dd.typeIs
def Jl (td ty:TE): TE:=fun σ H Q=>td σ H fun x H1=>ty σ H1 fun y H2=>∃a v,x=.ref a/\lW H2 a y (some v)/\Q v H2
def Jm (td ty tv:TE): TS:=fun D σ H=>tv σ H fun v H1=>td σ H1 fun x H2=>ty σ H2 fun y H3=>∃a H4,x=.ref a/\AI H3 a y v H4/\D.nx σ H4
section
variable {X:Cx}{o i e value:Expr}{pos pos' tpos:Pos}{td ty tv:TE}
theorem sZ (hu:X.A.units+1 < cLine)(ho:PE X o td)(hi:PE X i ty)(hs:HX i): PE X (.Subscript o i pos) (Jl td ty):=by
  intro pins s σ H Q I h
  refine B1 PySem.F.slot_dict_getitem.lookup hs (thn (ho pins s σ H _ I h) fun u s1 ⟨x,H1,I1,rx,q1⟩=>thn (hi pins s1 σ H1 _ I1 q1) fun iv s2 ⟨y,H2,I2,ry,a,v,ex,g,q2⟩=>?_)
  subst ex
  obtain rfl:u=Value.ref a:=rx
  exact⟨zi I2 g,C6 hu I2 g ry fun w' s3 I3 rw'=>⟨v,H2,I3,rw',q2⟩⟩
theorem xM (hu:X.A.units+1 < cLine)(ho:PE X o td)(hi:PE X i ty)(hv:PE X value tv)(hs:swapsWith value (some (.Subscript o i pos')) pos.line X.env=pure false):
    PS X (.Assign [.Subscript o i pos'] value pos) (Jm td ty tv):=by
  intro pins s σ H D I h
  refine wpAny_Assign_Subscript (thn (hv pins s σ H _ I h) fun r s1 ⟨v,H1,I1,rv,q1⟩=>thn (ho pins s1 σ H1 _ I1 q1) fun u s2 ⟨x,H2,I2,rx,q2⟩=>thn (hi pins s2 σ H2 _ I2 q2) fun iv s3 ⟨y,H3,I3,ry,a,H4,ex,g,q3⟩=>?_) hs
  subst ex
  obtain rfl:u=Value.ref a:=rx
  exact C7 hu I3 g ry rv fun s4 I4=>⟨σ,H4,I4,q3⟩
end
theorem Ep {P:Program}{w:World}{H:Hp}(h:Heap)(hb:sysModules < h.objs.size): b4 P w H (h.push { cls:=.type "dict",data:=.dict #[] }) h.objs.size (.dK []) :=
  ⟨Nat.zero_le _,beq_eq_false_iff_ne.mpr (Ne.symm (Nat.ne_of_lt hb)),[],.nil,Heap.DictOf.new h⟩
def HY:TE:=fun _ H Q=>∀p,H p=none->Q (.ref p) (upd H p (.dK []))
section
variable {X:Cx}{pos:Pos}
theorem gw:PE X (.Dict [] [] pos) HY:=fun pins s σ H Q I h =>
  wpAny_Dict_empty ⟨.ref s.heap.objs.size,_,I.laid (a:=s.heap.objs.size) (o:=.dK []) (t':=s.toks) (fun _ _ q=>Heap.get?_push_of_some _ q) (Nat.le_refl _) (Ep s.heap I.big),rfl,h _ (I.hok.fresh (Nat.le_refl _))⟩
end
structure M1 (X:Cx)(o:Expr)(m:Str)(apos:Pos)(e:Expr)(cpos:Pos): Prop where
  base:attributeBase o m X.env (eval o X.env)=eval o X.env
  few:((backTo cpos (starEach [e] X.env)).all (fun x=>!x.1)&&(backToKw cpos (keywordEach [] X.env)).all (fun x=>x.1.isSome)
    && decide (([e]:List Expr).length+([]:List Keyword).length+(if ([]:List Keyword).isEmpty then 0 else 1) < 30))=true
  line:(apos.endLine==cpos.line)=true
  trees:backTo cpos (starEach [e] X.env)=[(false,eval e X.env)]
structure M2 (X:Cx)(o:Expr)(m:Str)(apos:Pos)(e f:Expr)(cpos:Pos): Prop where
  base:attributeBase o m X.env (eval o X.env)=eval o X.env
  few:((backTo cpos (starEach [e,f] X.env)).all (fun x=>!x.1)&&(backToKw cpos (keywordEach [] X.env)).all (fun x=>x.1.isSome)
    && decide (([e,f]:List Expr).length+([]:List Keyword).length+(if ([]:List Keyword).isEmpty then 0 else 1) < 30))=true
  line:(apos.endLine==cpos.line)=true
  trees:backTo cpos (starEach [e,f] X.env)=[(false,eval e X.env),(false,eval f X.env)]
def IsD (H:Hp)(a:Addr): Prop:=(∃kvs,Rd H a (.dK kvs))\/∃kvs,Rd H a (.dT kvs)
theorem xN {X:Cx}{pins:List (Addr×Obj)}{σ:St}{H:Hp}{s:Shared}{a:Addr}(I:Inv X pins σ H s)(d:IsD H a):
    s.TypeIs (.ref a) "dict" ∧ (∀b,Value.ref a=.ref b->∃ob,s.heap.get? b=some ob/\ob.dict=none)/\(a==sysModules)=false:=by
  rcases d with ⟨kvs,e⟩ | ⟨kvs,e⟩
  · obtain⟨_,hd,vs,_,dd⟩:=rc I.hok e
    refine⟨dd.typeIs,fun b q=>?_,hd⟩
    cases q
    obtain⟨ob,_,_,h1,h2,_⟩:=dd
    exact⟨ob,h1,h2.2.1⟩
  · obtain⟨_,hd,xs,_,dd⟩:=tP I.hok e
    refine⟨dd.typeIs,fun b q=>?_,hd⟩
    cases q
    obtain⟨ob,_,_,h1,h2,_⟩:=dd
    exact⟨ob,h1,h2.2.1⟩
section
variable {X:Cx}{pins:List (Addr×Obj)}{σ:St}{H:Hp}{s:Shared}{a:Addr}{y d:V}{u r:Value}{o:Option V}{A:Around}{E:Value->Shared->Prop}
theorem HZ {Q:Value->Shared->Prop}(hu:A.units+1 < cLine)(I:Inv X pins σ H s)(g:lW H a y o)(ry:RelV y u)(h:∀w' s',Inv X pins σ H s'->RelV (o.getD .non) w'->Q w' s'):
    wpAny (model X.prog X.w) A (call (.builtin "dict.get") [.ref a,u]) Q E s:=by
  rcases g with ⟨kvs,k,e,ey,l⟩ | ⟨kvs,k,b,e,ey,eb,l⟩
  · subst ey
    obtain⟨z,hd,vs,rel,dd⟩:=rc I.hok e
    refine call_meetsIn PySem.F.slot_dict_get dd.typeIs PySem.F.entry_dict_get (PySem.F.args_dict_get_2 _ _) (meets_dict_get (cx X.prog X.w) a (oX ry) hd) ⟨_,dd.mapOf,h _ _ (I.tok _) ?_⟩
    rw[l]
    exact(rel.val k).getD rfl
  · subst ey
    cases (show u=Value.ref b from ry)
    obtain⟨z,hd,xs,rel,dd⟩:=tP I.hok e
    refine call_meetsIn PySem.F.slot_dict_get dd.typeIs PySem.F.entry_dict_get (PySem.F.args_dict_get_2 _ _) (meetsH_dict_get (tupleKind (cx X.prog X.w)) a b hd) ⟨tupleKind_room_in1 hu,k,xs,p_ I.hok eb,dd,h _ _ (I.tok _) ?_⟩
    rw[l]
    exact(rel.val k).getD rfl
end
def H_ (td ty:TE): TE:=fun σ H Q=>td σ H fun x H1=>∃a,x=.ref a/\IsD H1 a/\ty σ H1 fun y H2=>∃o,lW H2 a y o/\Q (o.getD .non) H2
def Ic (td ty:TE): TE:=fun σ H Q=>td σ H fun x H1=>∃a,x=.ref a/\IsD H1 a/\ty σ H1 fun y H2=>∃kvs k v,H2 a=some (.dK kvs)/\y=kV k/\bf kvs k=some v/\Q v (upd H2 a (.dK (dk kvs k)))
def Ie (td ty tx:TE): TE:=fun σ H Q=>td σ H fun x H1=>∃a,x=.ref a/\IsD H1 a/\ty σ H1 fun y H2=>tx σ H2 fun z H3=>∃kvs k,H3 a=some (.dK kvs)/\y=kV k ∧
  (∀v,bf kvs k=some v->Q v (upd H3 a (.dK (dk kvs k))))/\(bf kvs k=none->Q z H3)
section
variable {X:Cx}{o e f:Expr}{apos cpos:Pos}{td ty tx:TE}
theorem Er (hu:X.A.units+1 < cLine) (ho:PE X o td) (he:PE X e ty) (m:M1 X o "get" apos e cpos):PE X (.Call (.Attribute o "get" apos) [e] [] cpos) (H_ td ty):=by
  intro pins s σ H Q I h
  refine wpAny_Call_method m.base m.few m.line PySem.F.plainAttrs_dict PySem.F.slot_dict_get PySem.F.type_dict_get (thn (ho pins s σ H _ I h) fun u s1 ⟨x,H1,I1,rx,a,ex,d,q1⟩=>?_)
  subst ex
  obtain rfl:u=Value.ref a:=rx
  obtain⟨t1,t2,_⟩:=xN I1 d
  refine⟨t1,t2,?_⟩
  rw[m.trees]
  refine Calls.callWith_builtin rfl (Calls.evalArgs_plain (Calls.spliced_cons (thn (he pins s1 σ H1 _ I1 q1) fun iv s2 ⟨y,H2,I2,ry,ov,g,q2⟩=>Calls.spliced_nil ?_)))
  exact HZ hu I2 g ry fun w' s3 I3 rw'=>⟨_,H2,I3,rw',q2⟩
theorem tQ (ho:PE X o td) (he:PE X e ty) (m:M1 X o "pop" apos e cpos):PE X (.Call (.Attribute o "pop" apos) [e] [] cpos) (Ic td ty):=by
  intro pins s σ H Q I h
  refine wpAny_Call_method m.base m.few m.line PySem.F.plainAttrs_dict PySem.F.slot_dict_pop PySem.F.type_dict_pop (thn (ho pins s σ H _ I h) fun u s1 ⟨x,H1,I1,rx,a,ex,d,q1⟩=>?_)
  subst ex
  obtain rfl:u=Value.ref a:=rx
  obtain⟨t1,t2,_⟩:=xN I1 d
  refine⟨t1,t2,?_⟩
  rw[m.trees]
  refine Calls.callWith_builtin rfl (Calls.evalArgs_plain (Calls.spliced_cons (thn (he pins s1 σ H1 _ I1 q1) fun iv s2 ⟨y,H2,I2,ry,kvs,k,v,ea,ey,l,q2⟩=>Calls.spliced_nil ?_)))
  subst ey
  exact Hh I2 ea ry l (.inl rfl) fun w' s3 I3 rw'=>⟨v,_,I3,rw',q2⟩
theorem Es (ho:PE X o td) (he:PE X e ty) (hf:PE X f tx) (m:M2 X o "pop" apos e f cpos):PE X (.Call (.Attribute o "pop" apos) [e,f] [] cpos) (Ie td ty tx):=by
  intro pins s σ H Q I h
  refine wpAny_Call_method m.base m.few m.line PySem.F.plainAttrs_dict PySem.F.slot_dict_pop PySem.F.type_dict_pop (thn (ho pins s σ H _ I h) fun u s1 ⟨x,H1,I1,rx,a,ex,d,q1⟩=>?_)
  subst ex
  obtain rfl:u=Value.ref a:=rx
  obtain⟨t1,t2,_⟩:=xN I1 d
  refine⟨t1,t2,?_⟩
  rw[m.trees]
  refine Calls.callWith_builtin rfl (Calls.evalArgs_plain (Calls.spliced_cons (thn (he pins s1 σ H1 _ I1 q1) fun iv s2 ⟨y,H2,I2,ry,q2⟩ =>
    Calls.spliced_cons (thn (hf pins s2 σ H2 _ I2 q2) fun fv s3 ⟨z,H3,I3,rz,kvs,k,ea,ey,q3,q4⟩=>Calls.spliced_nil ?_))))
  subst ey
  cases l:bf kvs k with
  | some v=>exact Hh I3 ea ry l (.inr ⟨fv,rfl⟩) fun w' s4 I4 rw'=>⟨v,_,I4,rw',q3 v l⟩
  | none=>exact HW I3 ea ry l fun s4 I4=>⟨z,H3,I4,rz,q4 l⟩
end
section
variable {X:Cx}{pins:List (Addr×Obj)}{σ:St}{H:Hp}{s:Shared}{a:Addr}{kvs:List (Key×V)}{A:Around}{E:Value->Shared->Prop}
end
section
variable {X:Cx}{pins:List (Addr×Obj)}{σ:St}{H:Hp}{s:Shared}{a:Addr}{y:V}{u:Value}{A:Around}{E:Value->Shared->Prop}
end
end L2
namespace L2
open PySem PySem.Spec PyProof.Rows
section
variable {X:Cx}
theorem C8:lP X (.builtin "len") (fun xs H Q=>∃a kvs,xs=[V.ref a]/\H a=some (.dK kvs)/\Q (.int kvs.length) H):=by
  intro pins s σ H xs us Q I r h
  obtain⟨a,kvs,rfl,ha,q⟩:=h
  obtain⟨u,rfl,ru⟩:=vals1 r
  cases ru
  exact Jk I (.inl ha) fun t s' I'=>⟨.int kvs.length,H,I',⟨t,rfl⟩,q⟩
end
section
variable {κ:Type}[DecidableEq κ]
theorem Et {kvs:List (κ×V)}{k:κ}(h:bf kvs k=none): ¬k∈kvs.map (·.1):=by
  intro m
  obtain⟨p,hp,e⟩:=List.mem_map.mp m
  have q:(kvs.any fun kv=>decide (kv.1=k))=true:=List.any_eq_true.mpr ⟨p,hp,decide_eq_true e⟩
  rw[iO,h] at q
  exact absurd q (by simp)
theorem B2:∀{l:List κ} {k:κ},l.Nodup->¬k∈l->(l++[k]).Nodup
  | [],k,_,_=>by simp
  | a::r,k,h,hk=>by
    obtain⟨h1,h2⟩:=List.nodup_cons.mp h
    show (a::(r++[k])).Nodup
    refine List.nodup_cons.mpr ⟨fun m=>?_,B2 h2 fun m=>hk (List.mem_cons.mpr (Or.inr m))⟩
    rcases List.mem_append.mp m with q | q
    · exact h1 q
    · exact hk (List.mem_cons.mpr (Or.inl (List.mem_singleton.mp q).symm))
theorem Gu {kvs:List (κ×V)}{k:κ}(v:V)(hn:(kvs.map (·.1)).Nodup)(h:bf kvs k=none): ((putK kvs k v).map (·.1)).Nodup:=by
  rw[zh v h,List.map_append]
  exact B2 hn (Et h)
theorem qa {p:κ×V}{r:List (κ×V)}{k:κ}(e:p.1=k): dk (p::r) k=dk r k:=by
  unfold dk
  rw[List.filter_cons,if_neg (by simp[e])]
theorem qb {p:κ×V}{r:List (κ×V)}{k:κ}(e:¬p.1=k): dk (p::r) k=p::dk r k:=by
  unfold dk
  rw[List.filter_cons,if_pos (by simp[e])]
theorem C9 {kvs:List (κ×V)}{k:κ}{p:κ×V}(h:p∈dk kvs k): p∈kvs:=(List.mem_filter.mp h).1
theorem tR:∀{kvs:List (κ×V)} {k:κ},(kvs.map (·.1)).Nodup->((dk kvs k).map (·.1)).Nodup
  | [],_,_=>List.nodup_nil
  | p::r,k,h=>by
    have h:(p.1::r.map (·.1)).Nodup:=h
    obtain⟨h1,h2⟩:=List.nodup_cons.mp h
    by_cases e:p.1=k
    · rw[qa e]
      exact tR h2
    · rw[qb e]
      show (p.1::(dk r k).map (·.1)).Nodup
      refine List.nodup_cons.mpr ⟨fun m=>h1 ?_,tR h2⟩
      obtain⟨q,hq,eq⟩:=List.mem_map.mp m
      exact List.mem_map.mpr ⟨q,C9 hq,eq⟩
end
end L2

set_option maxHeartbeats 4000000
namespace L2
open PySem
def l8 (h:Heap)(a:Addr)(cls:Value)(dct:Option Addr)(hd:Value): Prop :=
  ∃oe vs,h.get? a=some oe/\oe.cls=cls/\oe.dict=dct/\oe.data=.fields vs/\vs[1]?=some hd ∧
    (hd=.none\/∃T oT ts,hd=.ref T/\T≠a/\h.get? T=some oT/\oT.data=.fields ts/\ts[3]?=some .none)
theorem qc (o:Obj)(f:Array Value->Array Value): (o.mapFields f).dict=o.dict:=by
  obtain⟨c,d,dt,sl⟩:=o
  cases dt<;>rfl
section
variable {M:Model}{A:Around}{E:Value->Shared->Prop}{s:Shared}
theorem qd {base:Heap}{env:Env}{outer:List Env}{L a:Addr}{oe:Obj}{vs:Array Value}{hd:Value}{b:Bool}{Q:Unit->Shared->Prop}
    (hfr:A.frames=some (env::outer)) (hl:s.heap.FunFrames base (env::outer)) (hf:env.frame=some L) (he:s.heap.get? a=some oe) (hdt:oe.data=.fields vs) (h1:1 < vs.size)
    (h:∀(h':Heap) (T:Addr),s.heap.get? T=none->T≠a->(∀b o,b≠a->b∉(env::outer).filterMap (·.frame)->s.heap.get? b=some o->h'.get? b=some o) ->
      (∀b o,b≠a->s.heap.get? b=some o->∃sl,h'.get? b=some { o with slots:=sl })->l8 h' a oe.cls oe.dict (.ref T)->Q () { s with heap:=h' }) :
    wpAny M A (do setField (.ref a) 1 (<-EntryCells.newEntry hd (<-frameOf env) .none (rawInt L) .none (<-entryPlaceOf L b))) (fun _ s'=>wpAny M A (setFlight (.ref a) none) Q E s') E s:=by
  have na:a∉(env::outer).filterMap (·.frame):=fun hm=>by
    obtain⟨_,o,ho,hn⟩:=hl.mem hm
    rw[he] at ho;cases ho
    exact hn vs hdt
  refine wpAny_bind (wpAny_frameOf_fun hfr hl hf fun h₁ hs=>?_)
  refine wpAny_bind (wpAny_entryPlaceOf fun pl hpl=>?_)
  unfold EntryCells.newEntry newFields
  refine wpAny_bind (wpAny_newObj_type ?_ (hpl.sizeOk5 _ _ _ _ _))
  generalize hts:([hd,Value.ref L,Value.none,rawInt L,Value.none]++(if pl.isEmpty then List.replicate 6 Value.none else pl)).toArray=ts
  have hsz:3 < ts.size:=by
    rw[<-hts]
    simp only [List.size_toArray,List.length_append,List.length_cons,List.length_nil]
    omega
  have e1:h₁.get? a=some oe:=(hs.2.1 a na).trans he
  have lt1:h₁.objs.size≠a:=Nat.ne_of_gt (Heap.lt_size e1)
  have e2:(h₁.push { cls:=.type "traceback",dict:=none,data:=.fields ts }).get? a=some oe:=Heap.get?_push_of_some _ e1
  refine wpAny_setField e2 hdt h1 ?_
  have d3:=Obj.data_mapFields hdt (·.setIfInBounds 1 (Value.ref h₁.objs.size))
  have e3:=Heap.get?_update_self (Obj.mapFields (·.setIfInBounds 1 (Value.ref h₁.objs.size))) e2 (Obj.isFreed_of_fields d3)
  have t3:((h₁.push { cls:=.type "traceback",dict:=none,data:=.fields ts }).update a (Obj.mapFields (·.setIfInBounds 1 (Value.ref h₁.objs.size)))).get? h₁.objs.size=some { cls:=.type "traceback",dict:=none,data:=.fields ts }:=by
    rw[Heap.get?_update_other _ _ (Ne.symm lt1)]
    exact Heap.get?_push_size h₁ rfl
  unfold setFlight
  refine wpAny_bind (wpAny_field e3 d3 (x:=.ref h₁.objs.size) (by simp[h1]) ?_)
  rw[if_pos (show (Value.ref h₁.objs.size != Value.none)=true by simp)]
  refine wpAny_setField t3 rfl hsz ?_
  have keep:∀b o,b≠a->h₁.get? b=some o->(((h₁.push { cls:=.type "traceback",dict:=none,data:=.fields ts }).update a (Obj.mapFields (·.setIfInBounds 1 (Value.ref h₁.objs.size)))).update h₁.objs.size
      (Obj.mapFields (·.setIfInBounds 3 ((none:Option Addr).elim Value.none fun f=>rawInt f)))).get? b=some o:=fun b o nb e=>by
    rw[Heap.get?_update_other _ _ (Nat.ne_of_gt (Heap.lt_size e)),Heap.get?_update_other _ _ (Ne.symm nb)]
    exact Heap.get?_push_of_some _ e
  refine h _ h₁.objs.size ?_ lt1 (fun b o nb nf e=>keep b o nb ((hs.2.1 b nf).trans e)) (fun b o nb e=>?_) ?_
  · rw[hs.1]
    exact Heap.get?_none_of_le (Nat.le_refl _)
  · obtain⟨sl,q⟩:=hs.2.2 b o e
    exact⟨sl,keep b _ nb q⟩
  · refine⟨_,_,?_,Obj.cls_mapFields oe (·.setIfInBounds 1 (Value.ref h₁.objs.size)),qc oe (·.setIfInBounds 1 (Value.ref h₁.objs.size)),d3,by simp[h1],.inr ⟨h₁.objs.size,_,_,rfl,lt1,
      Heap.get?_update_self _ t3 (Obj.isFreed_of_fields (Obj.data_mapFields rfl _)),Obj.data_mapFields rfl _,by simp[hsz]⟩⟩
    rw[Heap.get?_update_other _ _ lt1]
    exact e3
theorem zj {base:Heap}{env:Env}{outer:List Env}{L a:Addr}{cls hd:Value}{dct:Option Addr}{Q:Unit->Shared->Prop}
    (hfr:A.frames=some (env::outer)) (hl:s.heap.FunFrames base (env::outer)) (hf:env.frame=some L) (hx:l8 s.heap a cls dct hd)
    (h:∀(h':Heap) (T:Addr),s.heap.get? T=none->T≠a->(∀b o,b≠a->hd≠.ref b->b∉(env::outer).filterMap (·.frame)->s.heap.get? b=some o->h'.get? b=some o) ->
      (∀b o,b∈(env::outer).filterMap (·.frame)->s.heap.get? b=some o->∃sl,h'.get? b=some { o with slots:=sl })->l8 h' a cls dct (.ref T)->Q () { s with heap:=h' }) :
    wpAny M A (noteFrame (.ref a) env) (fun _ s'=>wpAny M A (setFlight (.ref a) none) Q E s') E s:=by
  obtain⟨oe,vs,he,rfl,rfl,hdt,h1,hc⟩:=hx
  have fr:∀b o,b∈(env::outer).filterMap (·.frame)->s.heap.get? b=some o->∀ws,o.data≠.fields ws:=fun b o hb e=>by
    obtain⟨_,o',ho,hn⟩:=hl.mem hb
    rw[e] at ho;cases ho
    exact hn
  have na:∀b o,b∈(env::outer).filterMap (·.frame)->s.heap.get? b=some o->b≠a:=fun b o hb e z=>by
    subst z
    rw[e] at he;cases he
    exact fr _ _ hb e vs hdt
  have z1:=(Array.getElem?_eq_some_iff.mp h1).1
  unfold noteFrame
  simp only [hf]
  refine wpAny_bind (wpAny_field he hdt h1 ?_)
  rcases hc with rfl | ⟨T,oT,ts,rfl,hTa,hT,hTd,h3⟩
  · rw[if_neg (by decide)]
    refine qd hfr hl hf he hdt z1 fun h' T' n1 n2 k1 k2 fl=>h h' T' n1 n2 (fun b o nb _ nf e=>k1 b o nb nf e) (fun b o hb e=>k2 b o (na b o hb e) e) fl
  · rw[if_pos (show (Value.ref T != Value.none)=true by simp)]
    refine wpAny_bind (wpAny_field hT hTd h3 ?_)
    rw[if_neg (show ¬((Value.none==rawInt L)=true) by simp[rawInt])]
    refine wpAny_bind (wpAny_setField hT hTd (Array.getElem?_eq_some_iff.mp h3).1 ?_)
    have oth:∀b,b≠T->(s.heap.update T (Obj.mapFields (·.setIfInBounds 3 Value.none))).get? b=s.heap.get? b:=fun b nb=>Heap.get?_update_other _ _ (Ne.symm nb)
    have fT:∀b o,s.heap.get? b=some o->(∀ws,o.data≠.fields ws)->b≠T:=fun b o e hn z=>by
      rw[z,hT] at e;cases e
      exact hn ts hTd
    refine qd (s:={ s with heap:=s.heap.update T (Obj.mapFields (·.setIfInBounds 3 Value.none)) }) hfr (hl.of_keeps fun b o e hn=>⟨o,(oth b (fT b o e hn)).trans e,rfl⟩) hf ((oth a (Ne.symm hTa)).trans he) hdt z1
      fun h' T' n1 n2 k1 k2 fl=>h h' T' ?_ n2 (fun b o nb nT nf e=>k1 b o nb nf ((oth b (fun z=>nT (by rw[z]))).trans e)) (fun b o hb e=>k2 b o (na b o hb e) ((oth b (fT b o e (fr b o hb e))).trans e)) fl
    cases q:s.heap.get? T' with
    | none=>rfl
    | some o =>
      by_cases z:T'=T
      · subst z
        have:=Heap.get?_update_self (Obj.mapFields (·.setIfInBounds 3 Value.none)) hT (Obj.isFreed_of_fields (Obj.data_mapFields hTd _))
        rw[this] at n1;cases n1
      · have n1':(s.heap.update T (Obj.mapFields (·.setIfInBounds 3 Value.none))).get? T'=none:=n1
        rw[oth T' z,q] at n1';cases n1'
theorem C_ {base:Heap}{env:Env}{outer:List Env}{L a:Addr}{cls hd:Value}{dct:Option Addr}{Q:Unit->Shared->Prop}
    (hfr:A.frames=some (env::outer)) (hl:s.heap.FunFrames base (env::outer)) (hf:env.frame=some L) (hx:l8 s.heap a cls dct hd)
    (h:∀(h':Heap) (T:Addr),s.heap.get? T=none->T≠a->(∀b o,b≠a->hd≠.ref b->b∉(env::outer).filterMap (·.frame)->s.heap.get? b=some o->h'.get? b=some o) ->
      (∀b o,b∈(env::outer).filterMap (·.frame)->s.heap.get? b=some o->∃sl,h'.get? b=some { o with slots:=sl })->l8 h' a cls dct (.ref T)->Q () { s with heap:=h' }) :
    wpAny M A (leaving env (.ref a)) Q E s:=by
  unfold leaving
  exact wpAny_bind (zj hfr hl hf hx h)
theorem zk {a T:Addr}{cls:Value}{dct:Option Addr}{Q:Unit->Shared->Prop}(hx:l8 s.heap a cls dct (.ref T))
    (h:∀h',(∀b o,b≠T->s.heap.get? b=some o->h'.get? b=some o)->l8 h' a cls dct (.ref T)->Q () { s with heap:=h' }):wpAny M A (setFlight (.ref a) none) Q E s:=by
  obtain⟨oe,vs,he,rfl,rfl,hdt,h1,hc⟩:=hx
  rcases hc with z | ⟨T',oT,ts,z,hTa,hT,hTd,h3⟩
  · cases z
  · cases z
    unfold setFlight
    refine wpAny_bind (wpAny_field he hdt h1 ?_)
    rw[if_pos (show (Value.ref T != Value.none)=true by simp)]
    have z3:=(Array.getElem?_eq_some_iff.mp h3).1
    have oth:∀b,b≠T->(s.heap.update T (Obj.mapFields (·.setIfInBounds 3 ((none:Option Addr).elim Value.none fun f=>rawInt f)))).get? b=s.heap.get? b:=fun b nb=>Heap.get?_update_other _ _ (Ne.symm nb)
    refine wpAny_setField hT hTd z3 (h _ (fun b o nb e=>(oth b nb).trans e) ⟨oe,vs,(oth a (Ne.symm hTa)).trans he,rfl,rfl,hdt,h1,.inr ⟨T,_,_,rfl,hTa,Heap.get?_update_self _ hT (Obj.isFreed_of_fields (Obj.data_mapFields hTd _)),Obj.data_mapFields hTd _,?_⟩⟩)
    simp[z3]
end
end L2

set_option maxHeartbeats 4000000
namespace L2
open PySem PySem.Spec PyProof.Rows
def Eu (h0 h:Heap)(H:Hp)(a:Addr)(cls:Value)(dct:Option Addr): Prop :=
  ∃hd,l8 h a cls dct hd/\H a=none/\h0.get? a=none/\∀T,hd=.ref T->H T=none/\h0.get? T=none
def CXE (P:Program)(w:World): CXT:=fun outer H s E e s'=>∃a cls dct H',e=.ref a/\s'.os=s.os/\AllBare s'.gens/\Un (frs outer) [] H H' s.heap s'.heap/\HOk P w H' s'.heap/\Eu s.heap s'.heap H' a cls dct/\E cls dct H'
theorem b4.there {P:Program}{w:World}{H:Hp}{h:Heap}{a:Addr}{o:HO}(x:b4 P w H h a o): ∃ob,h.get? a=some ob:=by
  cases o with
  | lst xs=>obtain⟨_,_,_,_,e⟩:=x;exact⟨_,e⟩
  | tup xs=>obtain⟨_,_,_,ob,e,_⟩:=x;exact⟨_,e⟩
  | dK kvs=>obtain⟨_,_,_,_,o,_,_,e,_⟩:=x;exact⟨_,e⟩
  | dT kvs=>obtain⟨_,_,_,_,o,_,_,e,_⟩:=x;exact⟨_,e⟩
  | set S n=>obtain⟨o,_,_,_,e,_⟩:=x;exact⟨_,e⟩
  | ins C dx fs=>obtain⟨_,_,_,e,_⟩:=x;exact⟨_,e⟩
  | own y=>exact x
  | xd fs=>obtain⟨_,⟨_,_,_,e,_⟩,_⟩:=x;exact⟨_,e⟩
  | rng lo hi=>obtain⟨_,_,_,e⟩:=x;exact⟨_,e⟩
  | frz ob u=>obtain⟨e,_⟩:=x;exact⟨_,e⟩
  | tbl ps=>exact⟨_,(show h.get? a=some _ from x)⟩
  | met f y=>exact⟨_,(show h.get? a=some _ from x)⟩
  | ext φ=>obtain⟨_,e,_⟩:=x;exact e
theorem xO {env:Env}{l:List Env}{b:Addr}(hb:b∈frs l): b∈frs (env::l):=by
  unfold frs at *
  rw[List.filterMap_cons]
  cases env.frame with
  | none=>exact hb
  | some L=>exact List.mem_cons_of_mem _ hb
section
variable {X:Cx}{pins:List (Addr×Obj)}{σ:St}{H H':Hp}{s:Shared}{h':Heap}{a T:Addr}{cls hd:Value}{dct:Option Addr}
theorem iu (I:Inv X pins σ H s)(hex:X.ex=[])(n:s.heap.get? a=none): X.s₀.heap.get? a=none:=by
  cases e:X.s₀.heap.get? a with
  | none=>rfl
  | some o =>
    obtain⟨o1,e1⟩:=I.base.there a o e (by rw[hex];simp)
    rw[n] at e1;cases e1
theorem xP (I:Inv X pins σ H s)(keep:∀b o,b≠a->hd≠.ref b->b∉frs X.stack->s.heap.get? b=some o->h'.get? b=some o)(ha:H a=none)(hT:∀T,hd=.ref T->H T=none): HOk X.prog X.w H h':=fun b u e=>by
  have tr:∀c v,H c=some v->c≠a/\hd≠.ref c/\c∉frs X.stack:=fun c v q=>⟨az q ha,fun z=>(by rw[hT c z] at q;cases q),fun z=>(by rw[I.xA c z] at q;cases q)⟩
  refine(I.hok b u e).stay (fun c v hc q=>?_) (fun _ q=>q) fun _ _ q=>q
  obtain⟨z,hz⟩:∃v,H c=some v:=by
    rcases hc with rfl | hc
    · exact⟨_,e⟩
    · exact⟨_,hc⟩
  exact keep c v (tr c z hz).1 (tr c z hz).2.1 (tr c z hz).2.2 q
theorem tS (I:Inv X pins σ H s)(n:s.heap.get? T=none): H T=none:=by
  cases q:H T with
  | none=>rfl
  | some u =>
    obtain⟨ob,e⟩:=(I.hok T u q).there
    rw[n] at e;cases e
theorem B3 (I:Inv X pins σ H s)(hex:X.ex=[])(hst:X.stack=X.env::X.outer)(ha:H a=none)(na:X.s₀.heap.get? a=none)(hT:∀T,hd=.ref T->H T=none/\X.s₀.heap.get? T=none)
    (nT:s.heap.get? T=none) (keep:∀b o,b≠a->hd≠.ref b->b∉frs X.stack->s.heap.get? b=some o->h'.get? b=some o)
    (slot:∀b o,b∈frs X.stack->s.heap.get? b=some o->∃sl,h'.get? b=some { o with slots:=sl }) (fl:l8 h' a cls dct (.ref T)) :
    Un (frs X.outer) [] X.H₀ H X.s₀.heap h'/\HOk X.prog X.w H h'/\Eu X.s₀.heap h' H a cls dct:=by
  have s0a:∀b o,X.s₀.heap.get? b=some o->b≠a/\hd≠.ref b:=fun b o e=>⟨fun z=>(by rw[z,na] at e;cases e),fun z=>(by rw[(hT b z).2] at e;cases e)⟩
  have s0L:∀b o,X.s₀.heap.get? b=some o->b∈frs X.stack->b∈frs X.outer:=fun b o e hb=>by
    rcases List.mem_cons.mp (I.iK b hb) with z | z
    · rw[z] at e
      exact absurd (Nat.lt_of_lt_of_le (Heap.lt_size e) I.ok.above) (Nat.lt_irrefl _)
    · exact z
  have nX:∀b:Addr,b∉X.ex:=fun b=>by rw[hex];simp
  refine⟨⟨fun b o e n hb _=>?_,fun b o e n hb _=>?_,fun b o e n _=>I.base.free b o e n (nX b),fun b o e _=>?_,I.base.tups,I.base.nW,I.base.oN⟩,xP I keep ha fun T z=>(hT T z).1,?_⟩
  · exact keep b o (s0a b o e).1 (s0a b o e).2 (fun z=>hb (s0L b o e z)) (I.base.keep b o e n hb (nX b))
  · obtain⟨sl,e1⟩:=I.base.slot b o e n hb (nX b)
    obtain⟨sl',e2⟩:=slot b _ (by rw[hst];exact xO hb) e1
    exact⟨sl',e2⟩
  · obtain⟨o1,e1⟩:=I.base.there b o e (nX b)
    by_cases hb:b∈frs X.stack
    · obtain⟨sl,e2⟩:=slot b o1 hb e1
      exact⟨_,e2⟩
    · exact⟨_,keep b o1 (s0a b o e).1 (s0a b o e).2 hb e1⟩
  · exact⟨.ref T,fl,ha,na,fun T' z=>by cases z;exact⟨tS I nT,iu I hex nT⟩⟩
def bP (CX:CXT)(X:Cx)(E:St->XK): Prop:=∀(pins:List (Addr×Obj)) (σ:St) (H:Hp) (s:Shared) (e:Value) (s':Shared),Inv X pins σ H s->CX X.stack H s (E σ) e s'->X.xe e s'
end
section
variable {P:Program}{w:World}{K:W.Frag}{mg:Str->Option Value}{base:Heap}{N:List Str}{qual:Str}{scope:Scope}{f:Addr}{cd:Value}{A:Around}{outer:List Env}{s:Shared}{H:Hp}{E:XK}
theorem af:bP (CXE P w) (iq (CXE P w) P w K mg base N qual scope f cd A outer s H E) (fun _=>E):=by
  intro pins σ H1 s1 e s2 I hx
  obtain⟨a,cls,dct,H2,he,hos,hg,un,hok,⟨hd,fl,ha,na,hT⟩,q⟩:=hx
  subst he
  have I2:Inv (iq (CXE P w) P w K mg base N qual scope f cd A outer s H E) pins σ H2 s2:=I.call' hos un hok hg (fun b z=>absurd z (by simp))
  show wpAny _ _ (leaving _ (.ref a)) _ _ s2
  refine C_ (env:=envOfC qual scope s.heap.objs.size f cd) (outer:=outer) I.ok.frames I2.stack rfl fl fun h' T n1 n2 k1 k2 fl'=>?_
  obtain⟨y1,y2,y3⟩:=B3 I2 rfl rfl ha (iu I rfl na) (fun T z=>⟨(hT T z).1,iu I rfl (hT T z).2⟩) n1 k1 k2 fl'
  exact⟨a,cls,dct,H2,rfl,I2.os,I2.bare,y1,y2,y3,q⟩
theorem cE:PassesOwn (model P w) (A.deeper (envOfC qual scope s.heap.objs.size f cd)) (envOfC qual scope s.heap.objs.size f cd) (iq (CXE P w) P w K mg base N qual scope f cd A outer s H E).xe:=PassesOwn.leaving
end
section
variable {P:Program}{w:World}{K:W.Frag}{mg:Str->Option Value}{base:Heap}
end
def AK (sp:Sp)(dvs:List V)(E:St->XK)(t:TA): TE:=fun σ H Q=>t σ H fun vs H1=>sp (vs++dvs) H1 Q (E σ)
def xQ (C:Addr)(m:Str)(sp:Sp)(dvs:List V)(E:St->XK)(ta:TE)(t:TA): TE:=fun σ H Q=>ta σ H fun x H1=>∃a dx fs,x=.ref a/\H1 a=some (.ins C dx fs)/\fs.lookup m=none ∧
  t σ H1 fun vs H2=>sp (x::(vs++dvs)) H2 Q (E σ)
def AO (C:Addr)(sp:Sp)(dvs:List V)(E:St->XK)(t:TA): TE:=fun σ H Q=>t σ H fun vs H1=>∀x dx,H1 x=none->H1 dx=none->dx≠x ->
  sp (.ref x::(vs++dvs)) (upd (upd H1 dx (.own x)) x (.ins C dx [])) (fun v H2=>v=.non/\Q (.ref x) H2) (E σ)
section
variable {X:Cx}{CX:CXT}{k:Nat}{f C:Addr}{fd:FuncData}{ps:List Str}{sp:Sp}{dvs:List V}{ds:List Value}{E:St->XK}{x m:Str}{p pos apos:Pos}{e o:Expr}{es:List Expr}{ta:TE}{t:TA}
theorem oY {pins:List (Addr×Obj)}{σ:St}{H:Hp}{s:Shared}{Q:VK}{us:List Value}{vs:List V}(F:gv X.prog X.w X.K X.mg X.base CX k f fd ps sp)(hr:c7 k X.A)(hb:Binds X.K fd ps ds)(hd:Vals dvs ds)(hx:bP CX X E)
    (I:Inv X pins σ H s) (r:Vals vs us) (h:sp (vs++dvs) H Q (E σ)):wpAny (model X.prog X.w) X.A (call (.ref f) us) (EP X pins σ Q) X.xe s:=by
  have r2:Vals (vs++dvs) (us++ds):=r.append hd
  have hl:(us++ds).length=ps.length:=by rw[<-r2.length];exact F.len _ _ _ _ h
  refine wpAny_call (codeAny_mono (F.run X.A X.stack s H ⟨us,[]⟩ (us++ds) (vs++dvs) Q (E σ) hr I.env0 (hb s us I.kIn hl) r2 h) fun r s' hq=>?_)
  cases r with
  | error e=>exact hx pins σ H s e s' I hq
  | ok fl =>
    cases fl with
    | ret u=>exact I.after hq
    | next=>exact False.elim hq
    | brk=>exact False.elim hq
    | cont=>exact False.elim hq
theorem Ew (F:gv X.prog X.w X.K X.mg X.base CX k f fd ps sp)(hr:c7 k X.A)(hg:Gl X x)(hm:X.mg x=some (.ref f))(hk:W.keepIn X.K (.ref f)=true)(hb:Binds X.K fd ps ds)(hd:Vals dvs ds)(hx:bP CX X E)
    (ha:PA X (e::es) t) (hdb:(x==("__debug__" : Str))=false:=by decide) (he:starEach (e::es) X.env=(false,eval e X.env)::starEach es X.env:=by rfl) (hpl:(backTo pos (starEach es X.env)).any (·.1)=false:=by rfl) :
    PE X (.Call (.Name x p) (e::es) [] pos) (AK sp dvs E t):=by
  intro pins s σ H Q I h
  refine wpAny_Call_Name_kw (eP I hg hm ?_ hdb)
  refine W.callWith_K (h₀:=X.base) I.ok.mod.kin hk (thn (ha pos pins s σ H _ I h) fun us s1 ⟨vs,H1,I1,r,q⟩=>⟨I1.kIn,?_⟩) he hpl
  exact oY F hr hb hd hx I1 r q
theorem Ex {pl:Sem Bool}(he:PE X o ta)(c:Cls X.K C)(hm:Meth X.K C m f)(F:gv X.prog X.w X.K X.mg X.base CX k f fd ps sp)(hr:c7 k X.A)(hb:Binds X.K fd ps ds)(hd:Vals dvs ds)(hx:bP CX X E)(ha:PA X (e::es) t)
    (hst:starEach (e::es) X.env=(false,eval e X.env)::starEach es X.env:=by rfl) (hpl:(backTo pos (starEach es X.env)).any (·.1)=false:=by rfl)
    (ht:eval (.Call (.Attribute o m apos) (e::es) [] pos) X.env=(do
      let ov <-eval o X.env
      standAt apos.atName
      let (f,first) <-holding [ov] (getMethod ov m pl)
      callWith pos f first (backTo pos (starEach (e::es) X.env)) (backToKw pos (keywordEach [] X.env))):=by rfl) :
    PE X (.Call (.Attribute o m apos) (e::es) [] pos) (xQ C m sp dvs E ta t):=by
  intro pins s σ H Q I h
  refine W.methodCall_KW (pl:=pl) (thn (he pins s σ H _ I h) fun u s1 ⟨x,H1,I1,rx,a,dx,fs,ex,ea,l,q⟩=>?_) ht
  subst ex
  obtain rfl:u=Value.ref a:=rx
  refine nY I1 ea c hm l ?_
  refine W.callWith_K (first:=[.ref a]) (h₀:=X.base) I.ok.mod.kin hm.kp (thn (ha pos pins s1 σ H1 _ I1 q) fun us s2 ⟨vs,H2,I2,r,q2⟩=>⟨I2.kIn,?_⟩) hst hpl
  exact oY (us:=.ref a::us) (vs:=.ref a::vs) F hr hb hd hx I2 (.cons rfl r) q2
theorem Dc {pl:Sem Bool}(he:PE X o ta)(c:Cls X.K C)(hm:Meth X.K C m f)(F:gv X.prog X.w X.K X.mg X.base CX k f fd ps sp)(hr:c7 k X.A)(hb:Binds X.K fd ps ds)(hd:Vals dvs ds)(hx:bP CX X E)
    (ht:eval (.Call (.Attribute o m apos) [] [] pos) X.env=(do
      let ov <-eval o X.env
      standAt apos.atName
      let (f,first) <-holding [ov] (getMethod ov m pl)
      callWith pos f first (backTo pos (starEach [] X.env)) (backToKw pos (keywordEach [] X.env))):=by rfl) :
    PE X (.Call (.Attribute o m apos) [] [] pos) (xQ C m sp dvs E ta Gh):=by
  intro pins s σ H Q I h
  refine W.methodCall_KW (pl:=pl) (thn (he pins s σ H _ I h) fun u s1 ⟨x,H1,I1,rx,a,dx,fs,ex,ea,l,q⟩=>?_) ht
  subst ex
  obtain rfl:u=Value.ref a:=rx
  refine nY I1 ea c hm l ?_
  exact W.callWith_K0 (first:=[.ref a]) I1.kIn hm.kp (oY (us:=[.ref a]) (vs:=[.ref a]) F hr hb hd hx I1 (.cons rfl .nil) q)
theorem wV {pins:List (Addr×Obj)}{σ:St}{H:Hp}{s:Shared}{Q:VK}{us:List Value}{vs:List V}(M:Mk X.K C f)(F:gv X.prog X.w X.K X.mg X.base CX k f fd ps sp)(hr:c7 (k+1) X.A)(hb:Binds X.K fd ps ds)(hd:Vals dvs ds)
    (hx:∀(H2:Hp) (s2:Shared) (e:Value) (s':Shared),Inv X pins σ H2 s2->CX X.stack H2 s2 (E σ) e s'->X.xe e s') (I:Inv X pins σ H s) (r:Vals vs us)
    (h:∀x dx,H x=none->H dx=none->dx≠x->sp (.ref x::(vs++dvs)) (upd (upd H dx (.own x)) x (.ins C dx [])) (fun v H2=>v=.non/\Q (.ref x) H2) (E σ)) :
    wpAny (model X.prog X.w) X.A (call (.ref C) us) (EP X pins σ Q) X.xe s:=by
  have hq:=h (s.heap.objs.size+1) s.heap.objs.size (I.hok.fresh (Nat.le_succ _)) (I.hok.fresh (Nat.le_refl _)) (Nat.ne_of_lt (Nat.lt_succ_self _))
  have I2:=Inv.made (C:=C) I
  have r2:Vals (V.ref (s.heap.objs.size+1)::(vs++dvs)) (Value.ref (s.heap.objs.size+1)::(us++ds)):=.cons rfl (r.append hd)
  have hl:(Value.ref (s.heap.objs.size+1)::us++ds).length=ps.length:=by
    have e:=r2.length
    rw[F.len _ _ _ _ hq] at e
    exact e.symm
  refine wpAny_call (Eh (f:=f) I.kIn M.makes M.init (beq_iff_eq.mp M.fn) (codeAny_mono (F.run _ X.stack _ _ ⟨Value.ref (s.heap.objs.size+1)::us,[]⟩ (Value.ref (s.heap.objs.size+1)::(us++ds)) _ _ (E σ) (hr.make C us [])
    (I2.env0.make C us []) (hb _ (Value.ref (s.heap.objs.size+1)::us) I2.kIn hl) r2 hq) fun r s' hq'=>?_))
  cases r with
  | error e=>exact hx _ _ e s' I2 hq'
  | ok fl =>
    cases fl with
    | ret u =>
      obtain⟨v,H',I3,rv,ev,q3⟩:=I2.after hq'
      subst ev
      exact⟨rv,⟨V.ref (s.heap.objs.size+1),H',I3,rfl,q3⟩⟩
    | next=>exact False.elim hq'
    | brk=>exact False.elim hq'
    | cont=>exact False.elim hq'
theorem Ey (M:Mk X.K C f)(F:gv X.prog X.w X.K X.mg X.base CX k f fd ps sp)(hr:c7 (k+1) X.A)(hg:Gl X x)(hm:X.mg x=some (.ref C))(hb:Binds X.K fd ps ds)(hd:Vals dvs ds)(hx:bP CX X E)
    (ha:PA X (e::es) t) (hdb:(x==("__debug__" : Str))=false:=by decide) (he:starEach (e::es) X.env=(false,eval e X.env)::starEach es X.env:=by rfl) (hpl:(backTo pos (starEach es X.env)).any (·.1)=false:=by rfl) :
    PE X (.Call (.Name x p) (e::es) [] pos) (AO C sp dvs E t):=by
  intro pins s σ H Q I h
  refine wpAny_Call_Name_kw (eP I hg hm ?_ hdb)
  refine W.callWith_K (h₀:=X.base) I.ok.mod.kin M.kp (thn (ha pos pins s σ H _ I h) fun us s1 ⟨vs,H1,I1,r,q⟩=>⟨I1.kIn,?_⟩) he hpl
  exact wV M F hr hb hd (fun H2 s2 e s' J z=>hx pins σ H2 s2 e s' J z) I1 r q
end
end L2

set_option maxHeartbeats 4000000
namespace L2
open PySem PySem.Spec PyProof.Rows
def bmV:List Value:=[.type "ValueError",.type "Exception",.type "BaseException",.type "object"]
def tT (K:W.Frag)(C:Addr): Prop:=W.excIn K C bmV "ValueError.__new__" = true
theorem tT.obj {K:W.Frag}{C:Addr}(q:tT K C): ∃bm N nm qn bs hdct sn sub ab col dd k0 k1 k2 k3 k5,W.nsOkIn K N=true/\W.nsIn K N "__init__" = some none/\W.tailIn K bmV bm=true ∧
    K.lookup C=some (excClassObj nm qn C N bs bm hdct sn sub ab col dd k0 k1 k2 k3 k5 "ValueError.__new__"):=by
  unfold tT W.excIn at q
  split at q
  · next dd cd sl lk =>
    split at q
    · next C' bm k0 k1 k2 k3 nid k5 em es =>
      simp only [Bool.and_eq_true,beq_iff_eq,Bool.not_eq_true'] at q
      obtain⟨⟨⟨⟨⟨e1,e2⟩,e3⟩,e4⟩,e5⟩,e6⟩:=q
      subst e1
      subst e2
      obtain⟨nm,bs,mro,ns,qn,hdct,sn,sub,ab,col,del⟩:=cd
      dsimp only at em e3 e5 e6
      subst em
      subst e3
      obtain⟨sll⟩:=sl
      dsimp only at es
      subst es
      exact⟨bm,ns,nm,qn,bs,hdct,sn,sub,ab,col,dd,k0,k1,k2,k3,k5,e5,e6,e4,lk⟩
    · cases q
  · cases q
theorem Ig {K:W.Frag}{N:Addr}{h h2:Heap}{m:Str->Option Value}(ok:W.nsOkIn K N=true)(X:K.In h)(X2:K.In h2)(n:h.Ns N m): h2.Ns N m:=by
  obtain⟨o,es,ep,ho,r⟩:=n
  unfold W.nsOkIn at ok
  split at ok
  · next lk =>
    have e:=X _ _ lk
    rw[ho] at e
    cases e
    exact⟨_,es,ep,X2 _ _ lk,r⟩
  · cases ok
section
variable {X:Cx}{E:St->XK}{x:Str}{C:Addr}{e₀:Expr}{es:List Expr}{t:TA}{np cpos pos:Pos}
def Ih (C:Addr)(E:St->XK)(t:TA): TS:=fun _ σ H=>t σ H fun vs H1=>vs.length<=sizeLine/\E σ (.ref C) none H1
theorem cZ (hC:tT X.K C) (hc:X.calm=true) (hg:Gl X x) (hm:X.mg x=some (.ref C)) (hx:bP (CXE X.prog X.w) X E) (ha:PA X (e₀::es) t) (hdb:(x==("__debug__" : Str))=false:=by decide)
    (he:starEach (e₀::es) X.env=(false,eval e₀ X.env)::starEach es X.env:=by rfl) (hpl:(backTo cpos (starEach es X.env)).any (·.1)=false:=by rfl) :
    PS X (.Raise (some (.Call (.Name x np) (e₀::es) [] cpos)) none pos) (Ih C E t):=by
  intro pins s σ H D I h
  obtain⟨bm,N,nm,qn,bs,hdct,sn,sub,ab,col,dd,k0,k1,k2,k3,k5,f1,f2,f3,f4⟩:=hC.obj
  have hN:=PySem.Heap.Ns.of_isNs (W.isNs_of_in I.kIn f1)
  refine wpAny_Raise_call_subT (C:=C) (nm:=nm) (q:=qn) (N:=N) (bs:=bs) (bm:=bm) (hdct:=hdct) (sn:=sn) (sub:=sub) (ab:=ab) (col:=col) (dd:=dd) (k0:=k0) (k1:=k1) (k2:=k2) (k3:=k3) (k5:=k5)
    PySem.F.excBase_ValueError (mN:=s.heap.nsMap N) ((W.tail_of_in I.kIn f3).hasType PySem.F.excBase_ValueError.hasBase) (I.ok.hd hc) ?_ (W.nsMap_none_of_in I.kIn f1 f2) (eP I hg hm ⟨rfl,?_⟩ hdb)
  · rw[he]
    show (false || (backTo cpos (starEach es X.env)).any (·.1))=false
    rw[hpl]
    rfl
  · have ha':=ha cpos pins s σ H _ I h
    rw[he] at ha' ⊢
    refine Calls.evalArgs_plain (thn ha' fun us s2 q=>?_)
    obtain⟨vs,H1,I1,r,z,q⟩:=q
    refine⟨rfl,by rw[<-r.length];exact z,I1.kIn _ _ f4,Ig f1 I.kIn I1.kIn hN,W.tail_of_in I1.kIn f3,fun h' e hmade=>?_⟩
    obtain⟨tp,q1,_,_⟩:=hmade.there
    exact hx pins σ H1 s2 (.ref e) _ I1 ⟨e,.ref C,none,H1,rfl,rfl,I1.bare,Un.kept hmade.keeps,I1.hok.kept hmade.keeps,⟨.none,⟨_,_,q1,rfl,rfl,rfl,rfl,.inl rfl⟩,tS I1 hmade.new,hmade.new,fun T z=>nomatch z⟩,q⟩
end
section
variable {X:Cx}{pins iL:List (Addr×Obj)}{σ:St}{H H':Hp}{s:Shared}{h':Heap}{a T:Addr}{cls hd:Value}{dct:Option Addr}
theorem Inv.Ez {pn':List (Addr×Obj)}{A':Around}{j9:Bool}{xe':Value->Shared->Prop}(I:Inv X pins σ H s)(hA:A'.frames=X.A.frames)(hcalm:j9=true->A'.handled=none)(hp:∀p∈pn'++iL,p∈X.pn++pins):
    Inv { X with pn:=pn',A:=A',calm:=j9,xe:=xe' } iL σ H s :=
  ⟨⟨I.ok.mod,I.ok.kind,I.ok.glob,I.ok.blt,I.ok.above,I.ok.inj,I.ok.has,I.ok.cab,hcalm,hA.trans I.ok.frames,I.ok.stk,I.ok.exf,I.ok.bs,I.ok.bsz,I.ok.nX,I.ok.Gc,I.ok.rR,I.ok.frf⟩,
    I.os,I.bare,I.base,I.loc,I.cell,I.free,I.j5,fun p q=>I.pin p (hp p q),I.hok,I.len⟩
theorem Inv.Gv {pn':List (Addr×Obj)}{A':Around}{j9:Bool}{xe':Value->Shared->Prop}(I:Inv { X with pn:=pn',A:=A',calm:=j9,xe:=xe' } iL σ H s)(hA:A'.frames=X.A.frames)(hcalm:X.calm=true->X.A.handled=none)(hp:∀p∈X.pn++pins,p∈pn'++iL):
    Inv X pins σ H s :=
  ⟨⟨I.ok.mod,I.ok.kind,I.ok.glob,I.ok.blt,I.ok.above,I.ok.inj,I.ok.has,I.ok.cab,hcalm,hA.symm.trans I.ok.frames,I.ok.stk,I.ok.exf,I.ok.bs,I.ok.bsz,I.ok.nX,I.ok.Gc,I.ok.rR,I.ok.frf⟩,
    I.os,I.bare,I.base,I.loc,I.cell,I.free,I.j5,fun p q=>I.pin p (hp p q),I.hok,I.len⟩
theorem Inv.flew (I:Inv X pins σ H s)(ha:H a=none)(na:X.s₀.heap.get? a=none)(hT:∀T,hd=.ref T->H T=none/\X.s₀.heap.get? T=none)(fl:l8 s.heap a cls dct hd)(hp:∀p∈X.pn++pins,p.1≠a/\hd≠.ref p.1)
    (keep:∀b o,b≠a->hd≠.ref b->b∉frs X.stack->s.heap.get? b=some o->h'.get? b=some o)
    (slot:∀b o,b∈frs X.stack->s.heap.get? b=some o->∃sl,h'.get? b=some { o with slots:=sl }) {t':Nat}:Inv X pins σ H { s with heap:=h',toks:=t' }:=by
  obtain⟨oe,vs,he,_,_,hdt,_,hc⟩:=fl
  have fT:∀T,hd=.ref T->∃o ts,s.heap.get? T=some o/\o.data=.fields ts:=fun T z=>by
    rcases hc with q | ⟨T',oT,ts,q,_,q2,q3,_⟩
    · rw[z] at q;cases q
    · rw[z] at q;cases q;exact⟨_,_,q2,q3⟩
  have off:∀b o,s.heap.get? b=some o->(∀ws,o.data≠.fields ws)->b≠a/\hd≠.ref b:=fun b o e hn=>⟨fun z=>(by rw[z,he] at e;cases e;exact hn vs hdt),fun z=>by
    obtain⟨o',ts,q1,q2⟩:=fT b z
    rw[q1] at e;cases e;exact hn ts q2⟩
  have s0:∀b o,X.s₀.heap.get? b=some o->b≠a/\hd≠.ref b:=fun b o e=>⟨fun z=>(by rw[z,na] at e;cases e),fun z=>(by rw[(hT b z).2] at e;cases e)⟩
  have s0L:∀b o,X.s₀.heap.get? b=some o->b∈frs X.stack->b∈X.fs:=fun b o e hb=>by
    rcases List.mem_cons.mp (I.iK b hb) with z | z
    · rw[z] at e
      exact absurd (Nat.lt_of_lt_of_le (Heap.lt_size e) I.ok.above) (Nat.lt_irrefl _)
    · exact z
  have any:∀b o,s.heap.get? b=some o->b≠a->hd≠.ref b->∃sl,h'.get? b=some { o with slots:=sl }:=fun b o e n1 n2=>by
    by_cases hb:b∈frs X.stack
    · exact slot b o hb e
    · exact⟨o.slots,keep b o n1 n2 hb e⟩
  have Gw:∀b,b∈X.fs->b∈frs X.stack:=fun b hb=>by
    rcases I.ok.stk with z | ⟨z,_⟩
    · rw[z];exact hb
    · rw[z];exact xO hb
  refine⟨I.ok,I.os,I.bare,⟨fun b o e n hb hx=>?_,fun b o e n hb hx=>?_,fun b o e n hx=>I.base.free b o e n hx,fun b o e hx=>?_,I.base.tups,I.base.nW,I.base.oN⟩,?_,fun y c e=>?_,I.free,I.j5,fun p q=>?_,xP I keep ha fun T z=>(hT T z).1,I.len⟩
  · exact keep b o (s0 b o e).1 (s0 b o e).2 (fun z=>hb (s0L b o e z)) (I.base.keep b o e n hb hx)
  · obtain⟨sl,e1⟩:=I.base.slot b o e n hb hx
    obtain⟨sl',e2⟩:=slot b _ (Gw b hb) e1
    exact⟨sl',e2⟩
  · obtain⟨o1,e1⟩:=I.base.there b o e hx
    obtain⟨sl,e2⟩:=any b o1 e1 (s0 b o e).1 (s0 b o e).2
    exact⟨_,e2⟩
  · obtain⟨m,⟨o,es,ep,ho,hd',r⟩,hl⟩:=I.loc
    have nf:=off _ o ho fun ws z=>by rw[hd'] at z;cases z
    obtain⟨sl,e2⟩:=any _ o ho nf.1 nf.2
    refine⟨m,⟨_,es,ep,e2,hd',r⟩,fun i x v q1 q2 q3=>?_⟩
    obtain⟨u,r1,l⟩:=hl i x v q1 q2 q3
    refine⟨u,r1,?_⟩
    rcases l with l | ⟨k,c,e,oc,hoc,hcd⟩
    · exact .inl l
    · have nf:=off c oc hoc fun ws z=>by rw[hcd] at z;cases z
      obtain⟨sl,e3⟩:=any c oc hoc nf.1 nf.2
      exact .inr ⟨k,c,e,_,e3,hcd⟩
  · obtain⟨v,oc,hoc,hcd⟩:=I.cell y c e
    have nf:=off c oc hoc fun ws z=>by rw[hcd] at z;cases z
    obtain⟨sl,e3⟩:=any c oc hoc nf.1 nf.2
    exact⟨v,_,e3,hcd⟩
  · obtain⟨e,n,ne,nf,d⟩:=I.pin p q
    refine⟨keep p.1 p.2 (hp p q).1 (hp p q).2 (fun z=>?_) e,n,ne,nf,d⟩
    rcases List.mem_cons.mp (I.iK p.1 z) with z | z
    · exact ne z
    · exact nf z
def exO (a:Addr)(cls:Value)(dct:Option Addr): HO:=.ext fun h=>∃oe vs,h.get? a=some oe/\oe.cls=cls/\oe.dict=dct/\oe.data=.fields vs
theorem Inv.track (I:Inv X pins σ H s)(ha:H a=none)(na:X.s₀.heap.get? a=none)(hp:∀p∈X.pn++pins,p.1≠a)(fl:l8 s.heap a cls dct hd): Inv X pins σ (upd H a (exO a cls dct)) s:=by
  obtain⟨oe,vs,he,f1,f2,hdt,_,_⟩:=fl
  have off:∀b o,s.heap.get? b=some o->(∀ws,o.data≠.fields ws)->b≠a:=fun b o e hn z=>by rw[z,he] at e;cases e;exact hn vs hdt
  have tr:∀b u,H b=some u->upd H a (exO a cls dct) b=some u:=fun b u q=>by rw[av (az q ha)];exact q
  refine⟨I.ok,I.os,I.bare,⟨I.base.keep,I.base.slot,fun b o e n hx=>?_,I.base.there,fun b xs e=>tr b _ (I.base.tups b xs e),fun b o u e=>tr b _ (I.base.nW b o u e),fun b ps e=>?_⟩,I.loc,I.cell,?_,fun y c e=>?_,fun p q=>?_,fun b u e=>?_,I.len⟩
  · rw[av (fun z=>(by rw[z,na] at e;cases e))]
    exact I.base.free b o e n hx
  · obtain⟨more,q⟩:=I.base.oN b ps e
    exact⟨more,tr b _ q⟩
  · obtain⟨m,⟨o,es,ep,ho,hd',r⟩,_⟩:=I.loc
    rw[av (off _ o ho fun ws z=>(by rw[hd'] at z;cases z))]
    exact I.free
  · obtain⟨v,oc,hoc,hcd⟩:=I.cell y c e
    rw[av (off c oc hoc fun ws z=>(by rw[hcd] at z;cases z))]
    exact I.j5 y c e
  · obtain⟨e,n,r⟩:=I.pin p q
    exact⟨e,by rw[av (hp p q)];exact n,r⟩
  · by_cases hb:b=a
    · subst hb
      rw[aq] at e
      cases e
      exact⟨⟨oe,vs,he,f1,f2,hdt⟩,⟨_,he⟩,fun h1 h2 ⟨o',ws,q1,q2⟩ k=>⟨o',ws,k _ q1,q2⟩⟩
    · rw[av hb] at e
      exact(I.hok b u e).stay (fun _ _ _ q=>q) (fun c q=>tr c _ q) fun c xs q=>tr c _ q
end
theorem zm {M:Model}{A:Around}{E:Value->Shared->Prop}{s:Shared}{K:W.Frag}{e D:Addr}{oe:Obj}{C:Addr}{b:Bool}{Q:Bool->Shared->Prop}(X:K.In s.heap)(he:s.heap.get? e=some oe)(hc:oe.cls=.ref C)
    (hD:tT K D) (hsub:W.mroIn K C (.ref D)=some b) (h:Q b s):wpAny M A (excMatches (.ref e) (.ref D)) Q E s:=by
  obtain⟨bm,N,nm,qn,bs,hdct,sn,sub,ab,col,dd,k0,k1,k2,k3,k5,f1,f2,f3,f4⟩:=hD.obj
  have hD0:=X _ _ f4
  have L:=W.looks_mroIn (M:=M) X hsub
  obtain⟨hp,g,d,tk,os⟩:=s
  have hcB:(Value.ref D::bm).contains (.type "BaseException")=true:=by rw[List.contains_cons,(W.tail_of_in X f3).hasType (show bmV.contains (.type "BaseException")=true by decide +kernel),Bool.or_true]
  have ft:=tc_notTuple
  unfold excMatches
  repeat (first | (with_reducible refine wpAny_loadPart_at he ?_;rw[hc]) | with_reducible refine wpAny_loadPart_at hD0 ?_ | (with_reducible refine wpAny_isSubtype_exc hD0 ?_;rw[hcB]) | (with_reducible refine L.at ?_) | wp_step)
  cases b<;>(try wp_walk)<;>exact h
def EA (i:Nat)(D:Ends): Ends:={ nx:=fun σ H=>D.nx (σ.set i none) H,rt:=D.rt,bk:=fun σ H=>D.bk (σ.set i none) H,ct:=fun σ H=>D.ct (σ.set i none) H }
end L2

set_option maxHeartbeats 4000000
namespace L2
open PySem PySem.Spec PyProof.Rows PyProof.V PySem.SeqAt
mutual
inductive oZ (K:W.Frag)(H:Hp): V->PyData->Prop
  | non:oZ K H .non .none
  | bl (b:Bool):oZ K H (.bl b) (.bool b)
  | int (i:Int):oZ K H (.int i) (.int i)
  | str (x:Str):oZ K H (.str x) (.str x)
  | lst {a:Addr} {xs:List V} {ds:List PyData}:SqL K H a xs->DatAll K H xs ds->oZ K H (.ref a) (.list ds)
  | tup {a:Addr} {xs:List V} {ds:List PyData}:SqT K H a xs->DatAll K H xs ds->oZ K H (.ref a) (.tuple ds)
inductive DatAll (K:W.Frag)(H:Hp): List V->List PyData->Prop
  | nil:DatAll K H [] []
  | cons {x:V} {xs:List V} {d:PyData} {ds:List PyData}:oZ K H x d->DatAll K H xs ds->DatAll K H (x::xs) (d::ds)
end
section
variable {X:Cx}{pins:List (Addr×Obj)}{σ:St}{H:Hp}{s:Shared}
mutual
theorem oZ.reads (I:Inv X pins σ H s){v:V}{d:PyData}(h:oZ X.K H v d){u:Value}(r:RelV v u): ∃as,Reads s.heap u d as:=by
  cases h with
  | non=>cases r;exact⟨_,.none⟩
  | bl b=>cases r;exact⟨_,.bool b⟩
  | int i=>obtain⟨t,rfl⟩:=r;exact⟨_,.int i t⟩
  | str x=>obtain⟨t,rfl⟩:=r;exact⟨_,.str x t⟩
  | lst hq ha =>
    cases r
    obtain⟨its,rv,⟨o,n,e,c,_,dd⟩,_⟩:=I.list hq
    obtain⟨as,q⟩:=DatAll.reads I ha rv
    exact⟨_,.list e c dd (by simpa using q)⟩
  | tup hq ha =>
    cases r
    obtain⟨its,rv,⟨o,e,c,n,dd⟩,_⟩:=I.tuple hq
    obtain⟨as,q⟩:=DatAll.reads I ha rv
    exact⟨_,.tuple e c dd (by simpa using q)⟩
theorem DatAll.reads (I:Inv X pins σ H s){vs:List V}{ds:List PyData}(h:DatAll X.K H vs ds){us:List Value}(r:Vals vs us): ∃as,ReadsAll s.heap us ds as:=by
  cases h with
  | nil=>cases r;exact⟨_,.nil⟩
  | cons h1 h2 =>
    cases r with
    | cons r1 r2 =>
      obtain⟨a1,q1⟩:=oZ.reads I h1 r1
      obtain⟨a2,q2⟩:=DatAll.reads I h2 r2
      exact⟨_,.cons q1 q2⟩
end
def Jn (K:W.Frag): R2:=fun x y H Q=>∃d d',oZ K H x d/\oZ K H y d'/\shaped d=true/\shaped d'=true/\noMix d d'=true/\Q (.bl (!same d d')) H
theorem AQ (hu:X.A.units+64 < cLine): OpR X (compareOp .NotEq) (Jn X.K):=by
  intro pins s σ H x y v u Q I rx ry h
  obtain⟨d,d',h1,h2,s1,s2,nm,q⟩:=h
  obtain⟨_,r1⟩:=h1.reads I rx
  obtain⟨_,r2⟩:=h2.reads I ry
  exact ne_dataH_same r1 r2 s1 s2 hu nm ⟨.bl _,H,I,rfl,q⟩
theorem kE:∀{ns:List Int} {us:List Value},Vals (ns.map V.int) us->IntsAre us ns
  | [],_,r=>by cases r;exact .nil
  | n::ns,_,r=>by
    rw[List.map_cons] at r
    cases r with
    | cons r1 r2 =>
      obtain⟨t,rfl⟩:=r1
      exact .cons n t (kE r2)
theorem Inv.listI (I:Inv X pins σ H s){a:Addr}{ns:List Int}(h:SqL X.K H a (ns.map V.int)): ∃vs:List Value,s.heap.IsList a vs.toArray/\IntsAre vs ns/\ns.length<=sizeLine:=by
  obtain⟨its,rv,p,hz⟩:=I.list h
  exact⟨its,p.isList,kE rv,by simpa using hz⟩
theorem Dd (hc:X.calm=true): lP X (.builtin "sum") (fun xs H Q=>∃(p:Addr) (ns:List Int),xs=[.ref p]/\SqL X.K H p (ns.map V.int)/\Q (.int ns.sum) H):=by
  intro pins s σ H xs us Q I r h
  obtain⟨p,ns,rfl,hq,q⟩:=h
  obtain⟨u,rfl,ru⟩:=vals1 r
  cases ru
  obtain⟨vs,hl,hi,_⟩:=I.listI hq
  obtain⟨ys,hx⟩:=hi.allInts.items
  have hl':s.heap.IsList p (intItems ys):=hx ▸ hl
  refine sum_intListG (I.ok.hd hc) hl' fun h' tk t' hk=>⟨.int ns.sum,H,I.kept hk,⟨t',?_⟩,q⟩
  have e1:ns=ys.toList.map (·.1):=by
    rw[<-nums_intItems,<-hx]
    exact(show numsOf vs.toArray.toList=ns from hi.numsOf).symm
  rw[preSum_eq,List.take_of_length_le (by simp),e1]
def Ii:V->List V->Hp->VK->Prop:=fun x vs H Q=>∃(l:Addr) (ns:List Int) (k:Int),x=.ref l/\vs=[.int k]/\H l=some (.lst (ns.map V.int))/\Q (.int (ns.count k:Nat)) H
theorem EB:MtM X "list.count" Ii:=by
  intro pins s σ H x xs v us Q I rx rv h
  obtain⟨l,ns,k,rfl,rfl,hl,q⟩:=h
  cases rx
  obtain⟨u,rfl,t,rfl⟩:=vals1 rv
  obtain⟨vs,hl',hi,_⟩:=I.listI (SqL.of hl)
  exact count_list_ints hl' hi ⟨.int _,H,I.tok _,⟨_,rfl⟩,q⟩
end
theorem Gx {M:Model}{A:Around}{m:Sem Unit}{Q:Unit->Shared->Prop}{E:Value->Shared->Prop}{s:Shared}(h:m=pure ())(q:Q () s): wpAny M A m Q E s:=by rw[h];exact wpAny_pure q
theorem wW {prog:Program}{w:World}{A:Around}{E:Value->Shared->Prop}{s:Shared}{K:W.Frag}{x D:Addr}{oe:Obj}{od:Option Obj}{Q:Option Value->Shared->Prop}(X:K.In s.heap)(I:W.InstAt s.heap x oe D od)
    (hga:W.findIn K (.ref D) "__getattribute__" = some (some (.builtin "BaseException.__getattribute__"))) (hno:W.findIn K (.ref D) "__getattr__" = some none) (hb:W.mroIn K D (.type "BaseException")=some true)
    (hm:W.mroIn K D (.type "object")=some true) (hf:W.findObj K D od "__class__" = some (.bind (.builtin "getset_descriptor.__get__") (.builtin "object.__class__"))) (h:Q (some (.ref D)) { s with toks:=s.toks+1 }) :
    wpAny (model prog w) A (getAttr? (.ref x) "__class__") Q E s:=by
  obtain⟨hh,g,d,t,os⟩:=s
  have L0:=I.type (M:=model prog w)
  have L1:=W.looks_findIn (M:=model prog w) X hga
  have L2:=W.looks_findIn (M:=model prog w) X hno
  have L3:=W.looks_mroIn (M:=model prog w) X hb
  have L4:=W.looks_find (M:=model prog w) X I hf
  unfold getAttr? getAttrBy? getAttrBy
  refine wpAny_bind (wpAny_mkText (wpAny_bind (wpAny_attempt (wpAny_holding (wpAny_bind (L0.at (wpAny_bind (L1.at ?_))))))))
  show wpAny _ _ (getAttrByItsOwn _ _ _ _ _ _) _ _ _
  unfold getAttrByItsOwn
  refine wpAny_bind (show wpAny _ _ (typeLookup (.ref D) "__getattr__") _ _ _ from L2.at ?_)
  refine wpAny_bind (wpAny_attempt (wpAny_holding ?_))
  show wpAny _ _ (boundAndCalled _ _ _) _ _ _
  unfold boundAndCalled
  rw[PySem.F.excAttr_ValueError.ga.bind]
  refine wpAny_bind (wpAny_pure ?_)
  show wpAny _ _ (call (.builtin "BaseException.__getattribute__") [.ref x,.str "__class__" _]) _ _ _
  have hk:builtinKind "BaseException.__getattribute__" = some .slot:=by decide +kernel
  have hsplit:splitId "BaseException.__getattribute__" = some ("BaseException", "__getattribute__"):=by decide +kernel
  refine wpAny_call (codeAny_call_builtin PySem.F.excAttr_ValueError.ga.plain PySem.F.entry_bexc_ga ?_)
  have ha:=PySem.F.args_bexc_ga (.ref x) (.str "__class__" t)
  simp only [checkBuiltinCall,hk,hsplit]
  refine wpAny_bind ?_
  unfold isInstance
  refine wpAny_bind (L0.at (L3.at ?_))
  rw[if_neg (by decide)]
  refine Gx ha ?_
  unfold Builtin.«object.__getattribute__»
  refine wpAny_bind ?_
  refine wpAny_pure ?_
  dsimp only
  refine wpAny_bind (wpAny_pure (wpAny_bind (L0.at (wpAny_bind (L4.at ?_)))))
  dsimp only
  show wpAny _ _ (holding [.builtin "object.__class__"] (call (.builtin "getset_descriptor.__get__") [.builtin "object.__class__",.ref x,.ref D]) >>= ret) _ _ _
  refine wpAny_bind (wpAny_holding (wpAny_call (W.class_get (s:=⟨hh,g,d,t+1,os⟩) (ox:=oe) (od:=od) X I hm ?_)))
  refine wpAny_pure ?_
  exact W.handed_on rfl (wpAny_pure h)
structure XIs (K:W.Frag)(C:Addr): Prop where
  hga:W.findIn K (.ref C) "__getattribute__" = some (some (.builtin "BaseException.__getattribute__"))
  hno:W.findIn K (.ref C) "__getattr__" = some none
  hb:W.mroIn K C (.type "BaseException")=some true
  hd:W.hasDictIn K C=true
  ha:W.findIn K (.ref C) "__class__" = some (some (.builtin "object.__class__"))
  hm:W.mroIn K C (.type "object")=some true
structure IsK (K:W.Frag): Prop where
  hn:W.specialIn K (.builtin "object.__class__") "__get__" = some (some (.builtin "getset_descriptor.__get__"))
  htk:W.takesIn K (.builtin "object.__class__")=some true
inductive TyE (K:W.Frag)(H:Hp): V->Value->Prop where
  | of {x:V} {t:Value} (h:aC K H x t):TyE K H x t
  | exc {a C:Addr} (e:H a=some (exO a (.ref C) none)) (x:XIs K C) (k:IsK K):TyE K H (.ref a) (.ref C)
  | KC {a C d:Addr} {φ:Heap->Prop} (e:H a=some (exO a (.ref C) (some d))) (e2:H d=some (.ext φ)) (x:XIs K C) (k:IsK K):TyE K H (.ref a) (.ref C)
def Jo:V->Value
  | .ref a=>.ref a
  | .ty n=>.type n
  | _=>.none
def EC:V->Bool
  | .ref _=>true
  | .ty _=>true
  | _=>false
theorem Gy {c:V}{u:Value}(h:EC c=true)(r:RelV c u): u=Jo c:=by
  cases c<;>first | exact r | exact absurd (show false=true from h) Bool.false_ne_true
theorem ED {K:W.Frag}{x D:Addr}(q:XIs K D)(k:IsK K): W.KitX K (.ref x) (.ref D) (fun h=>∃oe vs,h.get? x=some oe/\oe.cls=.ref D/\oe.dict=none/\oe.data=.fields vs) where
  ty:=fun M h _ p=>by
    obtain⟨oe,vs,h1,h2,_⟩:=p
    exact h2 ▸ (W.Looks.ld h1).andThen .now
  it:=fun _ _ X _=>by
    obtain⟨cdD,hcD,_⟩:=W.any_some q.hd
    unfold W.clsIn at hcD
    split at hcD
    · next ho =>
      intro A' Q' E' s' k q
      unfold isType loadHead
      exact wpAny_bind (wpAny_loadPart (k _ _ (X _ _ ho)) (wpAny_pure q))
    · cases hcD
  ne:=fun h tp dd its n sl X htp=>by
    obtain⟨cdD,hcD,_⟩:=W.any_some q.hd
    refine Bool.eq_false_iff.mpr fun z=>?_
    have e:D=tp:=Value.ref.inj (beq_iff_eq.mp z)
    subst e
    unfold W.clsIn at hcD
    split at hcD
    · next ho =>
      have z:=(X _ _ ho).symm.trans htp
      cases z
    · cases hcD
  ca:=fun {prog w A E Q s} X p hq=>by
    obtain⟨oe,vs,h1,h2,h3,h4⟩:=p
    have I:W.InstAt s.heap x oe D none:=⟨h1,h2,by unfold W.notCls;rw[h4],by rw[h3];trivial⟩
    have hf:W.findObj K D none "__class__" = some (.bind (.builtin "getset_descriptor.__get__") (.builtin "object.__class__")):=by
      obtain⟨cd,hc,_⟩:=W.any_some q.hd
      unfold W.findObj
      rw[hc,Option.bind_some,q.ha,Option.bind_some]
      simp[k.hn,k.htk]
    exact wW X I q.hga q.hno q.hb q.hm hf hq
theorem De {K:W.Frag}{x D dx:Addr}(q:XIs K D)(k:IsK K): W.KitX K (.ref x) (.ref D) (fun h=>(∃oe vs,h.get? x=some oe/\oe.cls=.ref D/\oe.dict=some dx/\oe.data=.fields vs)/\∃od,h.get? dx=some od) where
  ty:=fun M h _ p=>by
    obtain⟨⟨oe,vs,h1,h2,_⟩,_⟩:=p
    exact h2 ▸ (W.Looks.ld h1).andThen .now
  it:=fun _ _ X _=>by
    obtain⟨cdD,hcD,_⟩:=W.any_some q.hd
    unfold W.clsIn at hcD
    split at hcD
    · next ho =>
      intro A' Q' E' s' k q
      unfold isType loadHead
      exact wpAny_bind (wpAny_loadPart (k _ _ (X _ _ ho)) (wpAny_pure q))
    · cases hcD
  ne:=fun h tp dd its n sl X htp=>by
    obtain⟨cdD,hcD,_⟩:=W.any_some q.hd
    refine Bool.eq_false_iff.mpr fun z=>?_
    have e:D=tp:=Value.ref.inj (beq_iff_eq.mp z)
    subst e
    unfold W.clsIn at hcD
    split at hcD
    · next ho =>
      have z:=(X _ _ ho).symm.trans htp
      cases z
    · cases hcD
  ca:=fun {prog w A E Q s} X p hq=>by
    obtain⟨⟨oe,vs,h1,h2,h3,h4⟩,od,h5⟩:=p
    have I:W.InstAt s.heap x oe D (some od):=⟨h1,h2,by unfold W.notCls;rw[h4],by rw[h3];exact h5⟩
    have hf:W.findObj K D (some od) "__class__" = some (.bind (.builtin "getset_descriptor.__get__") (.builtin "object.__class__")):=by
      obtain⟨cd,hc,_⟩:=W.any_some q.hd
      unfold W.findObj
      rw[hc,Option.bind_some,q.ha,Option.bind_some]
      simp[k.hn,k.htk]
    exact wW X I q.hga q.hno q.hb q.hm hf hq
section
variable {X:Cx}
theorem Gz {pins:List (Addr×Obj)}{σ:St}{H:Hp}{s:Shared}{x:V}{u t:Value}(I:Inv X pins σ H s)(rx:RelV x u)(ty:TyE X.K H x t): ∃P:Heap->Prop,W.KitX X.K u t P/\P s.heap/\u≠.builtin "__main__.__loader__#opaque" := by
  cases ty with
  | exc e q k =>
    cases rx
    exact⟨_,ED q k,(I.hok _ _ e).1,fun z=>nomatch z⟩
  | KC e e2 q k =>
    cases rx
    exact⟨_,De q k,⟨(I.hok _ _ e).1,(I.hok _ _ e2).2.1⟩,fun z=>nomatch z⟩
  | of h =>
    cases h with
    | non=>cases (show u=Value.none from rx);exact⟨_,W.kitx_none,trivial,fun z=>nomatch z⟩
    | bl y=>cases (show u=Value.bool y from rx);exact⟨_,W.kitx_bool,trivial,fun z=>nomatch z⟩
    | int i=>obtain⟨t,q⟩:=(show ∃t,u=Value.int i t from rx);cases q;exact⟨_,W.kitx_int,trivial,fun z=>nomatch z⟩
    | str y=>obtain⟨t,q⟩:=(show ∃t,u=Value.str y t from rx);cases q;exact⟨_,W.kitx_str,trivial,fun z=>nomatch z⟩
    | flt y=>obtain⟨t,q⟩:=(show ∃t,u=Value.float y t from rx);cases q;exact⟨_,W.kitx_float,trivial,fun z=>nomatch z⟩
    | @lst a xs ea =>
      cases (show u=Value.ref a from rx)
      obtain⟨_,_,n,_,h1⟩:=(show b4 X.prog X.w H s.heap a (.lst xs) from I.hok a _ ea)
      exact⟨_,W.kitx_list,⟨_,h1,rfl⟩,fun z=>nomatch z⟩
    | @frz a ob xs ea =>
      cases (show u=Value.ref a from rx)
      obtain⟨_,_,_,n,_,h1⟩:=(show b4 X.prog X.w H s.heap a (.frz ob (.lst xs)) from I.hok a _ ea)
      exact⟨_,W.kitx_list,⟨_,h1,rfl⟩,fun z=>nomatch z⟩
    | @tup a xs ea =>
      cases (show u=Value.ref a from rx)
      obtain⟨_,_,_,p⟩:=(show b4 X.prog X.w H s.heap a (.tup xs) from I.hok a _ ea)
      obtain⟨o,h1,h2,_⟩:=p
      exact⟨_,W.kitx_tuple,⟨o,h1,h2⟩,fun z=>nomatch z⟩
    | @dK a kvs ea =>
      cases (show u=Value.ref a from rx)
      obtain⟨_,_,vs,_,p⟩:=(show b4 X.prog X.w H s.heap a (.dK kvs) from I.hok a _ ea)
      obtain⟨o,es,ep,h1,h2,_⟩:=p
      exact⟨_,W.kitx_dict,⟨o,h1,h2.1⟩,fun z=>nomatch z⟩
    | @dT a kvs ea =>
      cases (show u=Value.ref a from rx)
      obtain⟨_,_,xs,_,o,es,ep,h1,h2,_⟩:=(show b4 X.prog X.w H s.heap a (.dT kvs) from I.hok a _ ea)
      exact⟨_,W.kitx_dict,⟨o,h1,h2.1⟩,fun z=>nomatch z⟩
    | @ins a C dx fs ea cl ha hn htk hm =>
      cases (show u=Value.ref a from rx)
      obtain⟨mA,O,_⟩:=sX I.hok ea
      obtain⟨od,J,_⟩:=O.look
      exact⟨_,W.kitx_own (cl.get _) cl.hd ha hn htk hm,J,fun z=>nomatch z⟩
theorem cT:lP X (.builtin "isinstance") (fun xs H Q=>∃x c t b,xs=[x,c]/\EC c=true/\TyE X.K H x t/\W.kitOne X.K t (Jo c)=some b/\Q (.bl b) H):=by
  intro pins s σ H xs us Q I r h
  obtain⟨x,c,t,b,rfl,hc,ty,e,q⟩:=h
  obtain⟨u,v,rfl,ru,rv⟩:=vals2 r
  have:=Gy hc rv
  subst this
  obtain⟨P,kx,p,ne⟩:=Gz I ru ty
  exact W.kia_one kx I.kIn p e ne fun tk=>⟨.bl b,H,I.tok tk,rfl,q⟩
end
end L2

set_option maxHeartbeats 4000000
namespace L2
open PySem
def j_ (cells:List (Str×Addr)): List (Str×NameKind)->List (Str×Addr)->List (Str×Addr)
  | [],acc=>acc
  | (n,k)::r,acc=>j_ cells r (if k==.free then (n,(cells.lookup n).getD 0)::acc else acc)
def B4 (env:Env)(x:Str×NameKind)(cs:List (Str×Addr)): Sem (ForInStep (List (Str×Addr))):=match x with
  | (name,kind)=>if (kind==.free)=true then do let a <-cellOf env name;pure (ForInStep.yield ((name,a)::cs)) else pure (ForInStep.yield cs)
theorem EF {env:Env}{n:Str}{k:NameKind}{cs:List (Str×Addr)}(h:k=.free->∃c,env.cells.lookup n=some c):
    B4 env (n,k) cs=pure (ForInStep.yield (if k==.free then (n,(env.cells.lookup n).getD 0)::cs else cs)):=by
  unfold B4
  by_cases hk:(k==NameKind.free)=true
  · obtain⟨c,hc⟩:=h (by simpa using hk)
    simp only [hk,if_true,cellOf,hc,pure_bind,Option.getD_some]
  · simp only [hk,if_false,Bool.false_eq_true]
theorem GA {scope:Scope}{env:Env}(h:∀y∈scope.names,y.2=.free->∃c,env.cells.lookup y.1=some c): closureFor scope env=pure (j_ env.cells scope.names []):=by
  have key:∀(l:List (Str×NameKind)) (acc:List (Str×Addr)),(∀y∈l,y.2=.free->∃c,env.cells.lookup y.1=some c) ->
      forIn l acc (B4 env)=(pure (j_ env.cells l acc):Sem (List (Str×Addr))):=by
    intro l
    induction l with
    | nil=>intro acc _;rfl
    | cons p r ih =>
      obtain⟨n,k⟩:=p
      intro acc hl
      rw[List.forIn_cons,EF (fun z=>hl (n,k) List.mem_cons_self z),pure_bind]
      exact ih _ fun y hy=>hl y (List.mem_cons_of_mem _ hy)
  show (forIn scope.names [] (B4 env) >>= fun cs=>pure cs)=_
  rw[key scope.names [] h,pure_bind]
theorem zn {cells:List (Str×Addr)}{y:Str}{c:Addr}: ∀{l:List (Str×NameKind)} {acc:List (Str×Addr)},(∀p∈l,p.2=.free->∃c,cells.lookup p.1=some c)->(acc.lookup y=some c->cells.lookup y=some c) ->
    (j_ cells l acc).lookup y=some c->cells.lookup y=some c
  | [],acc,_,ha,h=>ha h
  | (n,k)::r,acc,hl,ha,h=>by
    refine zn (l:=r) (fun p hp=>hl p (List.mem_cons_of_mem _ hp)) ?_ h
    by_cases hk:(k==NameKind.free)=true
    · rw[if_pos hk,List.lookup_cons]
      obtain⟨d,hd⟩:=hl (n,k) List.mem_cons_self (by simpa using hk)
      have hd':cells.lookup n=some d:=hd
      cases e:y==n with
      | true =>
        have:y=n:=beq_iff_eq.mp e
        subst this
        intro q
        rw[hd'] at q ⊢
        exact q
      | false=>exact ha
    · rw[if_neg hk];exact ha
theorem wX {cells:List (Str×Addr)}{y:Str}: ∀{l:List (Str×NameKind)} {acc:List (Str×Addr)},(∃c,acc.lookup y=some c)->∃c,(j_ cells l acc).lookup y=some c
  | [],_,h=>h
  | (n,k)::r,acc,h=>by
    refine wX (l:=r) ?_
    by_cases hk:(k==NameKind.free)=true
    · rw[if_pos hk,List.lookup_cons]
      cases e:y==n with
      | true=>exact⟨_,rfl⟩
      | false=>exact h
    · rw[if_neg hk];exact h
theorem qe {cells:List (Str×Addr)}{y:Str}: ∀{l:List (Str×NameKind)} {acc:List (Str×Addr)},(y,NameKind.free)∈l->∃c,(j_ cells l acc).lookup y=some c
  | [],_,h=>nomatch h
  | (n,k)::r,acc,h=>by
    rcases List.mem_cons.mp h with q | q
    · cases q
      refine wX (l:=r) ?_
      rw[if_pos (by rfl),List.lookup_cons]
      simp
    · exact qe (l:=r) q
section
variable {prog:Program}{w:World}{A:Around}{R:Result->Shared->Prop}{s:Shared}
theorem Df {elt target iter:Expr}{ifs:List Expr}{scope:Scope}{pos:Pos}{it acc:Value}{env:Env}(I:Nat->Shared->Prop)
    (turn:∀n s,I n s->wpAny (model prog w) A (pyNext it) (fun r s₁=>match r with
      | none=>R (.ok .next) s₁
      | some v=>wpAny (model prog w) A (letOwnedTupleGo target it v) (fun _ s₂=>wpAny (model prog w) A (assign target env v) (fun _ s₃ =>
          wpAny (model prog w) A (forIn ifs true fun c r=>if r=true then do let ok <-isTrue c env (eval c env);pure (ForInStep.yield ok) else pure (ForInStep.yield r)) (fun ok s₄ =>
            if ok=true then wpAny (model prog w) A (eval elt env) (fun x s₅=>wpAny (model prog w) A (call (.builtin "list.append") [acc,x]) (fun _ s₆=>∃m,m < n/\I m s₆) (fun _ _=>False) s₅) (fun _ _=>False) s₄
            else ∃m,m < n/\I m s₄) (fun _ _=>False) s₃) (fun _ _=>False) s₂) (fun _ _=>False) s₁) (fun _ _=>False) s)
    (n:Nat) (h:I n s):codeAny (model prog w) A (.compLoop (.ListComp elt [⟨target,iter,ifs,0⟩] scope pos) 0 it acc env) R s:=by
  refine codeAny_loop rfl I (fun n s hI=>?_) n h
  show wpAny _ A ((compTurn (.ListComp elt [⟨target,iter,ifs,0⟩] scope pos) 0 it acc env).onRaise (fun x=>do noteFrame x env;theTreesLotGoes x)) _ _ s
  refine wpAny_noted ?_
  rw[compTurn_list]
  have no:∀{α:Type} {t:Sem α} {Q:α->Shared->Prop} {E:Value->Shared->Prop} {s:Shared},wpAny (model prog w) A t Q (fun _ _=>False) s->wpAny (model prog w) A t Q E s:=fun {α t Q E s} z=>wpAny_mono z (fun _ _ q=>q) fun _ _ q=>q.elim
  refine wpAny_bind (wpAny_standAt (wpAny_bind (no (wpAny_mono (turn n s hI) (fun r s₁ h₁=>?_) fun _ _ z=>z))))
  cases r with
  | none=>exact wpAny_pure h₁
  | some v =>
    refine wpAny_bind (no (wpAny_mono h₁ (fun _ s₂ h₂=>?_) fun _ _ z=>z))
    refine wpAny_bind (no (wpAny_mono h₂ (fun _ s₃ h₃=>?_) fun _ _ z=>z))
    refine wpAny_bind (no (wpAny_mono h₃ (fun ok s₄ h₄=>?_) fun _ _ z=>z))
    cases ok with
    | false=>exact wpAny_pure ⟨rfl,h₄⟩
    | true=>exact wpAny_bind (wpAny_bind (no (wpAny_mono h₄ (fun x s₅ h₅=>wpAny_bind (no (wpAny_mono h₅ (fun _ s₆ h₆=>wpAny_pure (wpAny_pure ⟨rfl,h₆⟩)) fun _ _ z=>z))) fun _ _ z=>z)))
end
end L2

set_option maxHeartbeats 4000000
namespace L2
open PySem PySem.Spec PyProof.Rows
theorem o0 {scope:Scope}{env:Env}{y:Str}: (relabel scope env).names.lookup y=(scope.names.lookup y).map fun k=>if (k==.free&&env.scope.kind==.function&&env.kindOf y==some .cell) then NameKind.cell else k:=by
  unfold relabel
  show (scope.names.map _).lookup y=_
  generalize scope.names=l
  induction l with
  | nil=>rfl
  | cons p r ih =>
    obtain⟨n,k⟩:=p
    rw[List.map_cons]
    cases e:y==n with
    | true =>
      have:y=n:=beq_iff_eq.mp e
      subst this
      by_cases h:(k==NameKind.free&&env.scope.kind==.function&&env.kindOf y==some .cell)=true
      · simp only [h,if_true,List.lookup_cons,beq_self_eq_true,Option.map_some]
      · simp only [h,if_false,List.lookup_cons,beq_self_eq_true,Option.map_some,Bool.false_eq_true]
    | false =>
      by_cases h:(k==NameKind.free&&env.scope.kind==.function&&env.kindOf n==some .cell)=true
      · simp only [h,if_true,List.lookup_cons,e];exact ih
      · simp only [h,if_false,List.lookup_cons,e,Bool.false_eq_true];exact ih
theorem jo {l:List (Str×NameKind)}{y:Str}{k:NameKind}(h:l.lookup y=some k): (y,k)∈l:=PySem.mem_of_lookup h
structure jz (scope fsc:Scope)(xs N' N:List Str): Prop where
  kind:scope.kind=.function
  own:∀y∈scope.names,y.2=.local->scope.names.lookup y.1=some .local
  AT:(scope.names.all fun y=>y.2 != .cell)=true
  frees:(scope.names.all fun y=>y.2 != .free || fsc.names.lookup y.1==some .cell || fsc.names.lookup y.1==some .free)=true
  mask:(N'.all fun y=>scope.names.lookup y != some .local)=true
  same:((N'.zip N).all fun p=>p.1==p.2 || scope.names.lookup p.1==none)=true
  len:N'.length=N.length
def dw (X:Cx)(scope:Scope)(NN:List Str)(C:Addr)(s:Shared)(H:Hp)(pins:List (Addr×Obj))(fp:List Addr): Cx :=
  { X with N:=NN,s₀:=s,H₀:=H,env:=compEnvC scope (j_ X.env.cells scope.names []) C X.env,outer:=X.stack,stack:=X.stack,ex:=fp,fn:=fun _=>false,pn:=X.pn++pins,xe:=fun _ _=>False }
section
variable {X:Cx}{pins:List (Addr×Obj)}{σ:St}{H:Hp}{s:Shared}{scope:Scope}{xs N':List Str}{fp:List Addr}
theorem jz.free {fsc:Scope}{N:List Str}{y:Str}(c:jz scope fsc xs N' N)(h:scope.names.lookup y=some .free): fsc.names.lookup y=some .cell\/fsc.names.lookup y=some .free:=by
  have:=List.all_eq_true.mp c.frees _ (jo h)
  simp at this
  exact this
theorem jz.vis {fsc:Scope}{N:List Str}{y:Str}{env:Env}(c:jz scope fsc xs N' N)(h:(relabel scope env).names.lookup y=some .cell\/(relabel scope env).names.lookup y=some .free): scope.names.lookup y=some .free:=by
  rw[o0] at h
  cases e:scope.names.lookup y with
  | none=>rw[e] at h;simp at h
  | some k =>
    have nc:=List.all_eq_true.mp c.AT _ (jo e)
    rw[e] at h
    cases k<;>simp at nc h ⊢
theorem zo {env:Env}{y:Str}(h:(relabel scope env).names.lookup y=some .local): scope.names.lookup y=some .local:=by
  rw[o0] at h
  cases e:scope.names.lookup y with
  | none=>rw[e] at h;simp at h
  | some k =>
    rw[e] at h
    simp only [Option.map_some,Option.some.injEq] at h
    split at h
    · cases h
    · rw[h]
theorem tU (I:Inv X pins σ H s)(cok:jz scope X.env.scope xs N' X.N)(hfp:∀b∈fp,lV X pins H b)(hfo:∀b∈fp,∃o,s.heap.get? b=some o){h1:Heap}{tk:Nat}(hn:h1.Ns s.heap.objs.size fun _=>none)
    (keep:∀b o,s.heap.get? b=some o->h1.get? b=some o):Inv (dw X scope (xs++N') s.heap.objs.size s H pins fp) [] (List.replicate xs.length none++σ) H { s with heap:=h1,toks:=tk }:=by
  have has:∀y,scope.names.lookup y=some .free->∃c,X.env.cells.lookup y=some c:=fun y h=>I.ok.has y (cok.free h)
  have cells:∀y c,(j_ X.env.cells scope.names []).lookup y=some c->X.env.cells.lookup y=some c:=fun y c h=>by
    refine zn (l:=scope.names) (acc:=[]) (fun p hp hk=>?_) (fun z=>nomatch z) h
    have:X.env.scope.names.lookup p.1=some .cell\/X.env.scope.names.lookup p.1=some .free:=by
      have:=List.all_eq_true.mp cok.frees p hp
      simp[hk] at this
      exact this
    exact I.ok.has p.1 this
  have clt:∀y c,X.env.cells.lookup y=some c->c < s.heap.objs.size:=fun y c h=>by
    obtain⟨v,q⟩:=I.cell y c h
    exact q.lt
  have sLs:∀b∈fp,b∉frs X.stack:=fun b hb z=>by
    rcases List.mem_cons.mp (I.iK b z) with q | q
    · exact(hfp b hb).2.1 q
    · exact(hfp b hb).2.2.1 q
  have cellK:∀c v,s.heap.IsCell c v->h1.IsCell c v:=fun c v ⟨o,ho,hd⟩=>⟨o,keep c o ho,hd⟩
  refine⟨⟨I.ok.mod,?_,I.ok.glob,I.ok.blt,Nat.le_refl _,fun y z c h1 h2=>I.ok.inj y z c (cells y c h1) (cells z c h2),fun y h=>?_,fun _ _ z=>(nomatch z),I.ok.hd,I.ok.frames,.inl rfl,fun b hb=>⟨?_,fun y c h=>?_⟩,I.bs,Nat.le_trans I.ok.bsz I.sz,fun b o e hb=>?_,sLs,I.stack,I.xA⟩,
    rfl,I.bare,Un.kept keep,⟨_,hn,fun i y v e1 e2 e3=>?_⟩,fun y c h=>?_,I.hok.fresh (Nat.le_refl _),fun y c h=>I.j5 y c (cells y c h),fun p hp=>?_,I.hok.kept keep,?_⟩
  · show scope.kind=_;exact cok.kind
  · exact qe (jo (cok.vis h))
  · obtain⟨o,e⟩:=hfo b hb
    exact Nat.ne_of_lt (Heap.lt_size e)
  · exact(hfp b hb).2.2.2.2.1 y c (cells y c h)
  · rcases (hfp b hb).2.2.2.1 with z | z
    · exact I.ok.nX b o e z
    · exact absurd (Nat.lt_of_lt_of_le (Heap.lt_size (I.ok.bs b o e).1) z) (Nat.lt_irrefl _)
  · have hi:xs.length<=i:=by
      refine Nat.le_of_not_lt fun z=>?_
      rw[List.getElem?_append_left (by rw[List.length_replicate];exact z),List.getElem?_replicate] at e2
      split at e2<;>simp at e2
    have e1':N'[i-xs.length]?=some y:=by
      have e1:(xs++N')[i]?=some y:=e1
      rwa [List.getElem?_append_right hi] at e1
    have e2':σ[i-xs.length]?=some (some v):=by
      rw[List.getElem?_append_right (by rw[List.length_replicate];exact hi),List.length_replicate] at e2
      exact e2
    have mem:=List.mem_of_getElem? e1'
    have hk:(relabel scope X.env).names.lookup y=some .cell\/(relabel scope X.env).names.lookup y=some .free:=by
      rcases e3 with z | z
      · have:=List.all_eq_true.mp cok.mask y mem
        rw[zo z] at this
        simp at this
      · exact z
    have hf:=cok.vis hk
    have hx:X.N[i-xs.length]?=some y:=by
      have hl:i-xs.length < X.N.length:=by rw[<-cok.len];exact(List.getElem?_eq_some_iff.mp e1').1
      have hz:(N'.zip X.N)[i-xs.length]?=some (y,X.N[i-xs.length]):=by
        rw[List.getElem?_zip_eq_some]
        exact⟨e1',List.getElem?_eq_getElem hl⟩
      have:=List.all_eq_true.mp cok.same _ (List.mem_of_getElem? hz)
      simp[hf] at this
      rw[List.getElem?_eq_getElem hl,<-this]
    obtain⟨m,hm,hl⟩:=I.loc
    have hv:Vis X.env.scope y:=.inr (cok.free hf)
    obtain⟨u,r,l⟩:=hl _ y v hx e2' hv
    refine⟨u,r,.inr ⟨hk,?_⟩⟩
    rcases l with ⟨k,_⟩ | ⟨_,c,hc,hcell⟩
    · rcases cok.free hf with z | z
      · rw[show X.env.scope.names.lookup y=some .local from k] at z;cases z
      · rw[show X.env.scope.names.lookup y=some .local from k] at z;cases z
    · obtain⟨c',hc'⟩:=qe (cells:=X.env.cells) (acc:=[]) (jo hf)
      have:c=c':=by
        have:=cells y c' hc'
        rw[hc] at this
        exact Option.some.inj this
      subst this
      exact⟨c,hc',cellK c _ hcell⟩
  · obtain⟨v,q⟩:=I.cell y c (cells y c h)
    exact⟨v,cellK c v q⟩
  · have hp':p∈X.pn++pins:=by simpa [dw] using hp
    obtain⟨e,n,ne,nf,d⟩:=I.pin p hp'
    refine⟨keep p.1 p.2 e,n,Nat.ne_of_lt (Heap.lt_size e),fun z=>?_,d⟩
    rcases List.mem_cons.mp (I.iK p.1 z) with q | q
    · exact ne q
    · exact nf q
  · show (List.replicate xs.length none++σ).length=(xs++N').length
    rw[List.length_append,List.length_append,List.length_replicate,I.len,cok.len]
def EG:TT:=fun _ H Q=>Q true H
def PTs (X:Cx)(ifs:List Expr)(t:TT): Prop :=
  ∀(pins:List (Addr×Obj)) (s:Shared) (σ:St) (H:Hp) (Q:Bool->Hp->Prop),Inv X pins σ H s->t σ H Q ->
    wpAny (model X.prog X.w) X.A (forIn ifs true fun c r=>if r=true then do let ok <-isTrue c X.env (eval c X.env);pure (ForInStep.yield ok) else pure (ForInStep.yield r)) (TP X pins σ Q) X.xe s
theorem xR:PTs X [] EG:=fun _ _ _ H _ I h=>wpAny_tests_nil ⟨H,I,h⟩
def B5 (k:Nat)(wi:TI)(g:TG)(tc:TT)(te:TE): TE:=fun σ H Q=>wi σ H fun J H1=>∀acc,H1 acc=none->∃(W:Nat->List V->Hp->Prop) (n:Nat),W 0 [] (upd H1 acc (.lst [])) ∧
  ∀i ys H2,W i ys H2->H2 acc=some (.lst ys)/\ys.length < sizeLine/\((i=n/\J.stop i H2/\Q (.ref acc) H2)\/(i < n/\J.go i H2/\∀x H3,J.yld i H2 x H3->∀τ:St,τ.length=k->g x (τ++σ) H3 fun τ2 H4 =>
    (∃τ':St,τ'.length=k/\τ2=τ'++σ)/\tc τ2 H4 fun b H5=>if b=true then te τ2 H5 fun v H6=>H6 acc=some (.lst ys)/\W (i+1) (ys++[v]) (upd H6 acc (.lst (ys++[v]))) else W (i+1) ys H5))
theorem comp_back (I:Inv X pins σ H s)(hfp:∀b∈fp,lV X pins H b){NN:List Str}{iL:List (Addr×Obj)}{τ:St}{H':Hp}{s':Shared}(J:Inv (dw X scope NN s.heap.objs.size s H pins fp) iL τ H' s'): Inv X pins σ H' s' :=
  I.call' (ch:=fp) (J.os.trans rfl) J.base J.hok J.bare fun b hb=>⟨(hfp b hb).2.2.2.1,(hfp b hb).2.1,(hfp b hb).2.2.2.2.1,(hfp b hb).2.2.2.2.2⟩
end
end L2

set_option maxHeartbeats 4000000
namespace L2
open PySem PySem.Spec PyProof.Rows
section
variable {X:Cx}{scope:Scope}{xs N':List Str}{target iter elt:Expr}{ifs:List Expr}{pos:Pos}{wi:TI}{g:TG}{tc:TT}{te:TE}
theorem AU (hc:X.calm=true)(cok:jz scope X.env.scope xs N' X.N)(hi:PI X target iter wi)
    (hg:∀C s H pins fp,PG (dw X scope (xs++N') C s H pins fp) target g) (ht:∀C s H pins fp,PTs (dw X scope (xs++N') C s H pins fp) ifs tc) (he:∀C s H pins fp,PE (dw X scope (xs++N') C s H pins fp) elt te)
    {pins:List (Addr×Obj)} {s:Shared} {σ:St} {H:Hp} {Q:VK} {RR:Value->Addr->Result->Shared->Prop} (I:Inv X pins σ H s) (h:B5 xs.length wi g tc te σ H Q)
    (hRR:∀a C m H' s',Inv X pins σ H' s'->lV X pins H' C->s'.heap.Ns C m->Q (.ref a) H'->RR (.ref a) C (.ok .next) s') :
    wpAny (model X.prog X.w) X.A (eval iter X.env) (fun x s₁=>wpAny (model X.prog X.w) X.A (pyIter x) (fun it s₂=>wpAny (model X.prog X.w) X.A (newList []) (fun acc s₃ =>
      wpAny (model X.prog X.w) X.A (newFunctionEnv scope X.env.globals (j_ X.env.cells scope.names []) [] X.env.qual none .none (some X.env)) (fun cenv s₄ =>
        codeAny (model X.prog X.w) X.A (.compStart (.ListComp elt [⟨target,iter,ifs,0⟩] scope pos) 0 it acc { cenv with scope:=relabel scope X.env }) (RR acc cenv.locals) s₄) X.xe s₃) X.xe s₂) X.xe s₁) X.xe s:=by
  refine thn (hi pins s σ H _ I h) fun v s1 h1=>thn h1 fun itv s2 h2=>?_
  obtain⟨it,fp,tn,J,H2,e,I2,T,st2,f2,h3⟩:=h2
  subst e
  have ob2:∀b∈fp,∃o,s2.heap.get? b=some o:=fun b hb=>let ⟨o,q,_⟩:=T.obj _ _ st2 b hb;⟨o,q⟩
  have AV:H2 s2.heap.objs.size=none:=I2.fresh
  have I3:=I2.HV (its:=[]) (ys:=[]) (t':=s2.toks) .nil (Nat.zero_le _)
  refine wpAny_newObj_type (T := "list") ?_
  obtain⟨W,n,w0,turn⟩:=h3 s2.heap.objs.size AV
  generalize hs3:({ s2 with heap:=s2.heap.push { cls:=.type "list",data:=.seq ([]:List Value).toArray },toks:=s2.toks }:Shared)=s3 at I3
  have EH:∀b o,s2.heap.get? b=some o->s3.heap.get? b=some o:=fun b o q=>by rw[<-hs3];exact Heap.get?_push_of_some _ q
  have f3:∀b∈fp,lV X pins (upd H2 s2.heap.objs.size (.lst [])) b:=fun b hb=>by
    obtain⟨o,q⟩:=ob2 b hb
    obtain⟨q0,q1⟩:=f2 b hb
    exact⟨by rw[av (Nat.ne_of_lt (Heap.lt_size q))];exact q0,q1⟩
  have ob3:∀b∈fp,∃o,s3.heap.get? b=some o:=fun b hb=>let ⟨o,q⟩:=ob2 b hb;⟨o,EH b o q⟩
  have st3:tn 0 s3.heap:=T.keep _ _ _ st2 fun b _ o q=>EH b o q
  refine wpAny_newFunctionEnv (fun y hy z=>?_) (fun y hy=>nomatch hy) (fun h4 hns hsb=>?_) cok.kind
  · have:=List.all_eq_true.mp cok.AT y hy
    rw[z] at this
    simp at this
  have zp:∀b o,s3.heap.get? b=some o->h4.get? b=some o:=fun b o q=>(hsb.2 b (Nat.ne_of_lt (Heap.lt_size q))).trans (Heap.get?_push_of_some _ q)
  have J4:=tU (tk:=s3.toks+([]:List (Str×Value)).length) I3 cok f3 ob3 hns zp
  have st4:tn 0 h4:=T.keep _ _ _ st3 fun b _ o q=>zp b o q
  generalize hY:dw X scope (xs++N') s3.heap.objs.size s3 (upd H2 s2.heap.objs.size (.lst [])) pins fp=Y at J4
  have hP:Y.prog=X.prog:=by rw[<-hY];rfl
  have hw:Y.w=X.w:=by rw[<-hY];rfl
  have hK:Y.K=X.K:=by rw[<-hY];rfl
  have hcY:Y.calm=true:=by rw[<-hY];exact hc
  have stat:∀{H':Hp},(∀b∈fp,H' b=none)->∀b∈fp,lV Y [] H' b:=fun {H'} hn b hb=>by
    obtain⟨o,q⟩:=ob3 b hb
    rw[<-hY]
    refine⟨hn b hb,Nat.ne_of_lt (Heap.lt_size q),fun z=>?_,.inl hb,fun y c hy=>?_,fun p hp=>?_⟩
    · rcases List.mem_cons.mp (I3.iK b z) with w | w
      · exact(f3 b hb).2.1 w
      · exact(f3 b hb).2.2.1 w
    · have hx:=J4.ok.exf b (by rw[<-hY];exact hb)
      rw[<-hY] at hx
      exact hx.2 y c hy
    · have hp':p∈X.pn++pins:=by simpa [dw] using hp
      exact(f3 b hb).2.2.2.2.2 p hp'
  have loop:∀s5:Shared,Inv Y [] (List.replicate xs.length none++σ) (upd H2 s2.heap.objs.size (.lst [])) s5->tn 0 s5.heap ->
      codeAny (model X.prog X.w) X.A (.compLoop (.ListComp elt [⟨target,iter,ifs,0⟩] scope pos) 0 (.ref it) (.ref s2.heap.objs.size) Y.env) (RR (.ref s2.heap.objs.size) s3.heap.objs.size) s5:=by
    intro s5 J5 st5
    refine Df (fun k s'=>∃(i:Nat) (ys:List V) (H':Hp) (τ:St),k+i=n/\τ.length=xs.length/\Inv Y [] (τ++σ) H' s'/\tn i s'.heap/\(∀b∈fp,H' b=none)/\W i ys H') ?_ n
      ⟨0,[],_,List.replicate xs.length none,rfl,List.length_replicate ..,J5,st5,fun b hb=>(f3 b hb).1,w0⟩
    rintro k s6 ⟨i,ys,H6,τ,hk,hτ,J6,st6,fr6,w6⟩
    obtain⟨hacc,hlen,hcase⟩:=turn i ys H6 w6
    rcases hcase with ⟨hin,stop,hq⟩ | ⟨hin,go,step⟩
    · refine thn (A:=X.A) (by have:=T.done Y hP hw hK hcY i [] s6 (τ++σ) H6 (fun _ _=>False) J6 (stat fr6) st6 stop;rw[<-hY] at this;exact this) fun r s7 q7=>?_
      obtain⟨hr,J7⟩:=q7
      subst hr
      rw[hY] at J7
      obtain⟨m7,hn7,_⟩:=J7.loc
      have e1:Y.env.locals=s3.heap.objs.size:=by rw[<-hY];rfl
      rw[e1] at hn7
      have J7':Inv X pins σ H6 s7:=comp_back I3 f3 (by rw[hY];exact J7)
      refine hRR _ _ m7 H6 s7 J7' ?_ hn7 hq
      have e2:=J7.free
      rw[e1] at e2
      exact I3.rS (Nat.le_refl _) e2
    · refine thn (A:=X.A) (by have:=T.item Y hP hw hK hcY i [] s6 (τ++σ) H6 (fun _ _=>False) J6 (stat fr6) st6 go;rw[<-hY] at this;exact this) fun r s7 q7=>?_
      obtain⟨u,hr,q7⟩:=q7
      subst hr
      have hA:Y.A=X.A:=by rw[<-hY];rfl
      rw[hY] at q7
      rw[hA] at q7
      refine thn q7 fun _ s8 q8=>?_
      obtain⟨x8,H8,J8,r8,y8,st8,fr8⟩:=q8
      have J8':=J8.pinned (stat fr8) (T.obj _ _ st8)
      have g8:=hg s3.heap.objs.size s3 (upd H2 s2.heap.objs.size (.lst [])) pins fp
      have t8:=ht s3.heap.objs.size s3 (upd H2 s2.heap.objs.size (.lst [])) pins fp
      have e8:=he s3.heap.objs.size s3 (upd H2 s2.heap.objs.size (.lst [])) pins fp
      have a8:∀{Z:Cx},Z=Y->MtM Z "list.append" xL:=fun {Z} _=>ng
      have hxe:Y.xe=fun _ _=>False:=by rw[<-hY];rfl
      rw[hY] at g8 t8 e8
      have back:∀{τ2:St} {H9:Hp} {s9:Shared},Inv Y ([]++p7 fp s8.heap) τ2 H9 s9->Inv Y [] τ2 H9 s9/\tn (i+1) s9.heap/\∀b∈fp,H9 b=none:=fun {τ2 H9 s9} J9=>by
        refine⟨J9.l5,T.keep _ _ _ st8 fun b hb o q=>(J9.pin (b,o) (List.mem_append_right _ (List.mem_append_right _ (fL hb q)))).1,fun b hb=>?_⟩
        obtain⟨o,q,d⟩:=T.obj _ _ st8 b hb
        exact(J9.pin (b,o) (List.mem_append_right _ (List.mem_append_right _ (fL hb q)))).2.1
      have z1:=g8 _ s8 (τ++σ) H8 x8 u _ J8' r8 (step x8 H8 y8 τ hτ)
      rw[hP,hw,hA,hxe] at z1
      refine thn z1 fun _ s9 q9=>?_
      obtain⟨τ9,H9,J9,⟨τ',hτ',e9⟩,q9⟩:=q9
      subst e9
      have z2:=t8 _ s9 (τ'++σ) H9 _ J9 q9
      rw[hP,hw,hA,hxe] at z2
      refine thn z2 fun b s10 q10=>?_
      obtain⟨H10,J10,q10⟩:=q10
      cases b with
      | false =>
        rw[if_neg Bool.false_ne_true] at q10 ⊢
        obtain⟨b1,b2,b3⟩:=back J10
        exact⟨k-1,by omega,i+1,ys,H10,τ',by omega,hτ',b1,b2,b3,q10⟩
      | true =>
        rw[if_pos rfl] at q10 ⊢
        have z3:=e8 _ s10 (τ'++σ) H10 _ J10 q10
        rw[hP,hw,hA,hxe] at z3
        refine thn z3 fun y s11 q11=>?_
        obtain⟨v11,H11,J11,r11,AW,w11⟩:=q11
        have z4:=a8 rfl _ s11 (τ'++σ) H11 (.ref s2.heap.objs.size) [v11] (.ref s2.heap.objs.size) [y] (fun _ H'=>W (i+1) (ys++[v11]) H') J11 rfl (.cons r11 .nil) ⟨_,ys,v11,rfl,rfl,AW,hlen,w11⟩
        rw[hP,hw,hA,hxe] at z4
        refine thn z4 fun _ s12 q12=>?_
        obtain⟨_,H12,J12,_,w12⟩:=q12
        obtain⟨b1,b2,b3⟩:=back J12
        exact⟨k-1,by omega,i+1,ys++[v11],H12,τ',by omega,hτ',b1,b2,b3,w12⟩
  have Ij:({ newEnv scope s3.heap.objs.size X.env.globals (j_ X.env.cells scope.names []) X.env.qual none .none (some X.env) X.env.builtins with scope:=relabel scope X.env }:Env)=Y.env:=by rw[<-hY];rfl
  have l4:=loop _ J4 st4
  rw[<-Ij] at l4
  exact codeAny_compStart_list l4 (T.self _ 0 _ _ _ st4 l4)
theorem B6 {pins:List (Addr×Obj)}{s:Shared}{σ:St}{H:Hp}(I:Inv X pins σ H s)(cok:jz scope X.env.scope xs N' X.N): closureFor scope X.env=pure (j_ X.env.cells scope.names []):=by
  refine GA fun p hp hk=>?_
  have:X.env.scope.names.lookup p.1=some .cell\/X.env.scope.names.lookup p.1=some .free:=by
    have:=List.all_eq_true.mp cok.frees p hp
    simp[hk] at this
    exact this
  exact I.ok.has p.1 this
theorem B7 (hc:X.calm=true)(cok:jz scope X.env.scope xs N' X.N)(hi:PI X target iter wi)
    (hg:∀C s H pins fp,PG (dw X scope (xs++N') C s H pins fp) target g) (ht:∀C s H pins fp,PTs (dw X scope (xs++N') C s H pins fp) ifs tc) (he:∀C s H pins fp,PE (dw X scope (xs++N') C s H pins fp) elt te)
    (hs:∀x,foldedSetIterable iter X.env x=pure x:=by intro _;rfl):PE X (.ListComp elt [⟨target,iter,ifs,0⟩] scope pos) (B5 xs.length wi g tc te):=by
  intro pins s σ H Q I h
  rw[eval_ListComp]
  refine wpAny_comprehension_free (use:=none) rfl hs (B6 I cok) cok.kind cok.own (AU hc cok hi hg ht he I h fun a C m H' s' J fC hn q=>⟨m,hn,fun h' hs'=>?_⟩)
  obtain⟨f0,f1,f2,f3,f4,f5⟩:=fC
  exact⟨.ref a,H',J.turned (t':=s'.toks) (fun b o hb e=>(hs'.2 b hb).trans e) f0 f1 f3 f4 f5,rfl,q⟩
end
end L2

set_option maxHeartbeats 4000000
namespace L2
open PySem PySem.Spec PyProof.Rows
def bC (K:W.Frag)(mg:Str->Option Value)(x:Str)(st:Stmt)(ps:List Str)(dvs:List V): Prop :=
  ∃(f:Addr) (oc:Value) (od:Option Addr) (dV kV doc pm:Value) (an:Option Addr) (cdv ct:Value) (osl:Array (Option Value)) (ds:List Value),
    K.lookup f=some ⟨oc,od,.func (W.fnOf x x (bB st) (aY st) (ak st) dV kV doc pm an cdv ct),osl⟩/\W.codeIn K cdv x=true/\W.keepIn K (.ref f)=true ∧
    mg x=some (.ref f)/\Binds K (W.fnOf x x (bB st) (aY st) (ak st) dV kV doc pm an cdv ct) ps ds/\Vals dvs ds
def bg (K:W.Frag)(C:Addr)(m qual:Str)(st:Stmt)(ps:List Str)(dvs:List V): Prop :=
  ∃(f:Addr) (oc:Value) (od:Option Addr) (dV kV doc pm:Value) (an:Option Addr) (cdv ct:Value) (osl:Array (Option Value)) (ds:List Value),
    K.lookup f=some ⟨oc,od,.func (W.fnOf m qual (bB st) (aY st) (ak st) dV kV doc pm an cdv ct),osl⟩/\W.codeIn K cdv qual=true/\Meth K C m f ∧
    Binds K (W.fnOf m qual (bB st) (aY st) (ak st) dV kV doc pm an cdv ct) ps ds/\Vals dvs ds
def eM (K:W.Frag)(C:Addr)(qual:Str)(st:Stmt)(ps:List Str)(dvs:List V): Prop :=
  ∃(f:Addr) (oc:Value) (od:Option Addr) (dV kV doc pm:Value) (an:Option Addr) (cdv ct:Value) (osl:Array (Option Value)) (ds:List Value),
    K.lookup f=some ⟨oc,od,.func (W.fnOf "__init__" qual (bB st) (aY st) (ak st) dV kV doc pm an cdv ct),osl⟩/\W.codeIn K cdv qual=true/\Mk K C f ∧
    Binds K (W.fnOf "__init__" qual (bB st) (aY st) (ak st) dV kV doc pm an cdv ct) ps ds/\Vals dvs ds
def HasFn (P:Program)(w:World)(K:W.Frag)(mg:Str->Option Value)(base:Heap)(k:Nat)(x:Str)(ps:List Str)(sp:Sp)(dvs:List V): Prop :=
  ∃f fd ds,gv P w K mg base (CXE P w) k f fd ps sp/\mg x=some (.ref f)/\W.keepIn K (.ref f)=true/\Binds K fd ps ds/\Vals dvs ds
def aB (P:Program)(w:World)(K:W.Frag)(mg:Str->Option Value)(base:Heap)(C:Addr)(k:Nat)(m:Str)(ps:List Str)(sp:Sp)(dvs:List V): Prop :=
  ∃f fd ds,gv P w K mg base (CXE P w) k f fd ps sp/\Meth K C m f/\Binds K fd ps ds/\Vals dvs ds
def cf (P:Program)(w:World)(K:W.Frag)(mg:Str->Option Value)(base:Heap)(C:Addr)(k:Nat)(ps:List Str)(sp:Sp)(dvs:List V): Prop :=
  ∃f fd ds,gv P w K mg base (CXE P w) k f fd ps sp/\Mk K C f/\Binds K fd ps ds/\Vals dvs ds
section
variable {P:Program}{w:World}{K:W.Frag}{mg:Str->Option Value}{base:Heap}{C:Addr}{x m qual:Str}{st:Stmt}{N ps:List Str}{dvs:List V}{k:Nat}{sp:Sp}
theorem bC.ok (R:bC K mg x st ps dvs)(S:ay N ps (ak st))(len:∀vs H Q E,sp vs H Q E->vs.length=ps.length)
    (hbody:∀(f:Addr) (cdv:Value) (A:Around) (outer:List Env) (s:Shared) (H:Hp) (vs:List V) (Q:VK) (E:XK),c7 k (A.deeper (envOfC x (ak st) s.heap.objs.size f cdv))->sp vs H Q E ->
      ∃t,PSs (iq (CXE P w) P w K mg base N x (ak st) f cdv A outer s H E) (aY st) t/\t { nx:=fun _ H'=>Q .non H',rt:=Q } (start N vs) H):HasFn P w K mg base (k+1) x ps sp dvs:=by
  obtain⟨f,oc,od,dV,kV,doc,pm,an,cdv,ct,osl,ds,lk,hcd,kp,hm,hb,hd⟩:=R
  exact⟨f,_,ds,qZ lk hcd S len fun A outer s H vs Q E hr hsp=>hbody f cdv A outer s H vs Q E hr hsp,hm,kp,hb,hd⟩
theorem bg.ok (R:bg K C m qual st ps dvs)(S:ay N ps (ak st))(len:∀vs H Q E,sp vs H Q E->vs.length=ps.length)
    (hbody:∀(f:Addr) (cdv:Value) (A:Around) (outer:List Env) (s:Shared) (H:Hp) (vs:List V) (Q:VK) (E:XK),c7 k (A.deeper (envOfC qual (ak st) s.heap.objs.size f cdv))->sp vs H Q E ->
      ∃t,PSs (iq (CXE P w) P w K mg base N qual (ak st) f cdv A outer s H E) (aY st) t/\t { nx:=fun _ H'=>Q .non H',rt:=Q } (start N vs) H):aB P w K mg base C (k+1) m ps sp dvs:=by
  obtain⟨f,oc,od,dV,kV,doc,pm,an,cdv,ct,osl,ds,lk,hcd,hm,hb,hd⟩:=R
  exact⟨f,_,ds,qZ lk hcd S len fun A outer s H vs Q E hr hsp=>hbody f cdv A outer s H vs Q E hr hsp,hm,hb,hd⟩
theorem eM.ok (R:eM K C qual st ps dvs)(S:ay N ps (ak st))(len:∀vs H Q E,sp vs H Q E->vs.length=ps.length)
    (hbody:∀(f:Addr) (cdv:Value) (A:Around) (outer:List Env) (s:Shared) (H:Hp) (vs:List V) (Q:VK) (E:XK),c7 k (A.deeper (envOfC qual (ak st) s.heap.objs.size f cdv))->sp vs H Q E ->
      ∃t,PSs (iq (CXE P w) P w K mg base N qual (ak st) f cdv A outer s H E) (aY st) t/\t { nx:=fun _ H'=>Q .non H',rt:=Q } (start N vs) H):cf P w K mg base C (k+1) ps sp dvs:=by
  obtain⟨f,oc,od,dV,kV,doc,pm,an,cdv,ct,osl,ds,lk,hcd,hm,hb,hd⟩:=R
  exact⟨f,_,ds,qZ lk hcd S len fun A outer s H vs Q E hr hsp=>hbody f cdv A outer s H vs Q E hr hsp,hm,hb,hd⟩
end
section
variable {X:Cx}{C:Addr}{k:Nat}{ps:List Str}{sp:Sp}{dvs:List V}{E:St->XK}{x m:Str}{p pos apos:Pos}{e o:Expr}{es:List Expr}{ta:TE}{t:TA}
theorem bz (h:HasFn X.prog X.w X.K X.mg X.base k x ps sp dvs)(hr:c7 k X.A)(hg:Gl X x)(hx:bP (CXE X.prog X.w) X E)
    (ha:PA X (e::es) t) (hdb:(x==("__debug__" : Str))=false:=by decide) (he:starEach (e::es) X.env=(false,eval e X.env)::starEach es X.env:=by rfl) (hpl:(backTo pos (starEach es X.env)).any (·.1)=false:=by rfl) :
    PE X (.Call (.Name x p) (e::es) [] pos) (AK sp dvs E t):=by
  obtain⟨f,fd,ds,F,hm,hk,hb,hd⟩:=h
  exact Ew F hr hg hm hk hb hd hx ha hdb he hpl
theorem bu {pl:Sem Bool}(he:PE X o ta)(c:Cls X.K C)(h:aB X.prog X.w X.K X.mg X.base C k m ps sp dvs)(hr:c7 k X.A)(hx:bP (CXE X.prog X.w) X E)(ha:PA X (e::es) t)
    (hst:starEach (e::es) X.env=(false,eval e X.env)::starEach es X.env:=by rfl) (hpl:(backTo pos (starEach es X.env)).any (·.1)=false:=by rfl)
    (ht:eval (.Call (.Attribute o m apos) (e::es) [] pos) X.env=(do
      let ov <-eval o X.env
      standAt apos.atName
      let (f,first) <-holding [ov] (getMethod ov m pl)
      callWith pos f first (backTo pos (starEach (e::es) X.env)) (backToKw pos (keywordEach [] X.env))):=by rfl) :
    PE X (.Call (.Attribute o m apos) (e::es) [] pos) (xQ C m sp dvs E ta t):=by
  obtain⟨f,fd,ds,F,hm,hb,hd⟩:=h
  exact Ex he c hm F hr hb hd hx ha hst hpl ht
theorem gI {pl:Sem Bool}(he:PE X o ta)(c:Cls X.K C)(h:aB X.prog X.w X.K X.mg X.base C k m ps sp dvs)(hr:c7 k X.A)(hx:bP (CXE X.prog X.w) X E)
    (ht:eval (.Call (.Attribute o m apos) [] [] pos) X.env=(do
      let ov <-eval o X.env
      standAt apos.atName
      let (f,first) <-holding [ov] (getMethod ov m pl)
      callWith pos f first (backTo pos (starEach [] X.env)) (backToKw pos (keywordEach [] X.env))):=by rfl) :
    PE X (.Call (.Attribute o m apos) [] [] pos) (xQ C m sp dvs E ta Gh):=by
  obtain⟨f,fd,ds,F,hm,hb,hd⟩:=h
  exact Dc he c hm F hr hb hd hx ht
theorem iP (h:cf X.prog X.w X.K X.mg X.base C k ps sp dvs)(hr:c7 (k+1) X.A)(hg:Gl X x)(hm:X.mg x=some (.ref C))(hx:bP (CXE X.prog X.w) X E)
    (ha:PA X (e::es) t) (hdb:(x==("__debug__" : Str))=false:=by decide) (he:starEach (e::es) X.env=(false,eval e X.env)::starEach es X.env:=by rfl) (hpl:(backTo pos (starEach es X.env)).any (·.1)=false:=by rfl) :
    PE X (.Call (.Name x p) (e::es) [] pos) (AO C sp dvs E t):=by
  obtain⟨f,fd,ds,F,M,hb,hd⟩:=h
  exact Ey M F hr hg hm hb hd hx ha hdb he hpl
theorem wY {P:Program}{w:World}: bP (CXE P w) X (fun _=>E0):=fun _ _ _ _ _ _ _ hx=>by
  obtain⟨_,_,_,_,_,_,_,_,_,_,q⟩:=hx
  exact q.elim
theorem kb {n:Int} (hg:Gl X x) (hm:∃t,X.mg x=some (.int n t)) (hd:(x==("__debug__" : Str))=false:=by decide):PE X (.Name x pos) (tC (.int n)):=by
  obtain⟨t,hm⟩:=hm
  exact jn hg hm ⟨t,rfl⟩ hd
end
section
variable {X:Cx}{K:W.Frag}
theorem GB {e:Expr}{ta:TE}{f:Str}{pos:Pos}(h:X.K=K)(he:PE X e ta)(hb:attributeBase e f X.env (eval e X.env)=eval e X.env): PE X (.Attribute e f pos) (Je K ta f):=by subst h;exact aJ he hb
end
theorem qf {c A B:Prop}[Decidable c](h1:¬c->A)(h2:c->B): if (!decide c)=true then A else B:=by
  by_cases h:c
  · rw[decide_eq_true h];exact Gr (h2 h)
  · rw[decide_eq_false h];exact oV (h1 h)
theorem iw {c A B:Prop}[Decidable c](h1:c->A)(h2:¬c->B): if decide c=true then A else B:=by
  by_cases h:c
  · rw[decide_eq_true h];exact oV (h1 h)
  · rw[decide_eq_false h];exact Gr (h2 h)
theorem GC {i j:Int}{A B:Prop}(h1:i=j->A)(h2:¬i=j->B): if decide (V.int i=V.int j)=true then A else B :=
  iw (fun z=>h1 (by injection z)) fun z=>h2 fun q=>z (by rw[q])
theorem Jp {i j:Int}{A B:Prop}(h1:¬i=j->A)(h2:i=j->B): if (!decide (V.int i=V.int j))=true then A else B :=
  qf (fun z=>h1 fun q=>z (by rw[q])) fun z=>h2 (by injection z)
theorem aP:1<=sizeLine:=by rw[sizeLine_eq];decide
theorem aR {n:Nat}(h:n<=1000): n<=sizeLine:=by rw[sizeLine_eq];omega
theorem aH {H:Hp}{q:Addr}{u:HO}(h:H q=none): Same H (upd H q u):=fun b o z=>by rw[av (az z h)];exact z
theorem bv (K:W.Frag)(v:Value): W.kitOne K v v=some true:=by
  unfold W.kitOne
  rw[if_pos (by simp)]
theorem cu (K:W.Frag): W.kitOne K (.type "int") (.type "bool")=some false:=by
  unfold W.kitOne W.kitCls
  rw[if_neg (by decide)]
  have h1:W.kitMeta "bool" = true:=by decide +kernel
  simp only [h1,if_true]
  show Option.map (fun x=>x.contains (Value.type "bool")) (fastBuiltinMro "int")=some false
  decide +kernel
theorem filter_tt {α:Type}(l:List α): l.filter (fun _=>true)=l:=List.filter_eq_self.mpr fun _ _=>rfl
theorem EI {ns:List Int}{n:Int}(h0:0<=n)(h1:n < ns.length): atI (ns.map V.int) n=some (.int (ns.getD n.toNat 0)):=by
  have e:n=((n.toNat:Nat):Int):=by omega
  have hl:n.toNat < ns.length:=by omega
  rw[e]
  refine oU ?_
  rw[List.getElem?_map,List.getElem?_eq_getElem hl,Int.toNat_natCast,List.getD_eq_getElem?_getD,List.getElem?_eq_getElem hl]
  rfl
theorem EJ {ns:List Int}{k:Nat}(h:ns.length<=k): ns.getD k 0=0:=by
  rw[List.getD_eq_getElem?_getD,List.getElem?_eq_none h]
  rfl
theorem o3 (k:Int): ∀ns:List Int,inV (.int k) (ns.map V.int)=decide (k∈ns)
  | []=>rfl
  | n::r=>by
    have ih:=o3 k r
    unfold inV at *
    rw[List.map_cons,List.any_cons,ih]
    show ((n==k) || decide (k∈r))=_
    rw[Bool.eq_iff_iff]
    simp only [Bool.or_eq_true,beq_iff_eq,decide_eq_true_eq,List.mem_cons]
    constructor
    · rintro(h | h)
      · exact .inl h.symm
      · exact .inr h
    · rintro(h | h)
      · exact .inl h.symm
      · exact .inr h
theorem wZ:∀ns:List Int,(ns.map V.int).all nJ=true
  | []=>rfl
  | n::r=>by rw[List.map_cons,List.all_cons,wZ r];rfl
theorem EK (ns:List Int)(lo hi:Option Int): ∃ms:List Int,tM (ns.map V.int) lo hi=ms.map V.int/\ms.length<=ns.length:=by
  unfold tM
  refine⟨(ns.drop (HT.sIx (ns.map V.int).length 0 lo)).take (HT.sIx (ns.map V.int).length (ns.map V.int).length hi-HT.sIx (ns.map V.int).length 0 lo),?_,?_⟩
  · rw[List.map_take,List.map_drop]
  · rw[List.length_take,List.length_drop];omega
theorem c6 {ms:List Int}{i:Nat}{y:V}(h:(ms.map V.int)[i]?=some y): ∃c:Int,y=.int c/\ms[i]?=some c:=by
  rw[List.getElem?_map] at h
  cases e:ms[i]? with
  | none=>rw[e] at h;cases h
  | some c=>rw[e] at h;exact⟨c,(Option.some.inj h).symm,rfl⟩
end L2

set_option maxHeartbeats 4000000
namespace L2
open PySem PySem.Spec PyProof.Rows
section
variable {tc:TT}{te:TE}{σ:St}{H1:Hp}{acc:Addr}{QH:Hp->Prop}
theorem AX {lo:Int}{n k:Nat}(hacc:H1 acc=none)(f:Nat->V)(p:Nat->Bool)(hn:n < sizeLine)
    (hc:∀(i:Nat) (ys:List V),i < n->∀R:Bool->Hp->Prop,R (p i) (upd H1 acc (.lst ys))->tc (some (.int (lo+i))::σ) (upd H1 acc (.lst ys)) R)
    (he:∀(i:Nat) (ys:List V),i < n->p i=true->∀R:VK,R (f i) (upd H1 acc (.lst ys))->te (some (.int (lo+i))::σ) (upd H1 acc (.lst ys)) R)
    (q:QH (upd H1 acc (.lst (((List.range n).filter p).map f)))) (hk:k=1:=by rfl):∃(W:Nat->List V->Hp->Prop) (n':Nat),W 0 [] (upd H1 acc (.lst [])) ∧
  ∀i ys H2,W i ys H2->H2 acc=some (.lst ys)/\ys.length < sizeLine/\((i=n'/\(Itr lo n).stop i H2/\QH H2)\/(i < n'/\(Itr lo n).go i H2/\∀x H3,(Itr lo n).yld i H2 x H3->∀τ:St,τ.length=k->(wG 0) x (τ++σ) H3 fun τ2 H4 =>
    (∃τ':St,τ'.length=k/\τ2=τ'++σ)/\tc τ2 H4 fun b H5=>if b=true then te τ2 H5 fun v H6=>H6 acc=some (.lst ys)/\W (i+1) (ys++[v]) (upd H6 acc (.lst (ys++[v]))) else W (i+1) ys H5)):=by
  subst hk
  refine⟨fun i ys H2=>i<=n/\ys=((List.range i).filter p).map f/\H2=upd H1 acc (.lst ys),n,⟨Nat.zero_le _,rfl,rfl⟩,?_⟩
  rintro i ys H2 ⟨hi,hys,rfl⟩
  have hl:ys.length < sizeLine:=by
    rw[hys,List.length_map]
    have:=List.length_filter_le p (List.range i)
    rw[List.length_range] at this
    omega
  refine⟨aq,hl,?_⟩
  by_cases hlt:i < n
  · refine .inr ⟨hlt,hlt,?_⟩
    rintro x H3 ⟨rfl,rfl⟩ τ hτ
    obtain⟨t,rfl⟩:∃t,τ=[t]:=by
      match τ,hτ with
      | [t],_=>exact⟨t,rfl⟩
    refine⟨⟨[some (.int (lo+i))],rfl,rfl⟩,?_⟩
    show tc (some (.int (lo+i))::σ) _ _
    refine hc i ys hlt _ ?_
    have rs:List.range (i+1)=List.range i++[i]:=List.range_succ
    cases hp:p i with
    | true =>
      refine oV (he i ys hlt hp _ ⟨aq,hlt,?_,ip⟩)
      rw[rs,List.filter_append,List.map_append,hys]
      simp[List.filter,hp]
    | false =>
      refine Gr ⟨hlt,?_,rfl⟩
      rw[rs,List.filter_append,List.map_append,hys]
      simp[List.filter,hp]
  · have e:i=n:=by omega
    subst e
    refine .inl ⟨rfl,Nat.le_refl _,?_⟩
    have:=q
    rw[<-hys] at this
    exact this
end
section
variable {X:Cx}{pins:List (Addr×Obj)}{σ:St}{H:Hp}{s:Shared}
end
end L2

set_option maxHeartbeats 4000000
namespace L2
open PySem PySem.Spec PyProof.Rows PyProof.V PySem.SeqAt
mutual
theorem tV:∀d:PyData,d.canLay0=true->noMix d d=true
  | .none,_=>by simp[noMix]
  | .bool _,_=>by simp[noMix]
  | .int _,_=>by simp[noMix]
  | .str _,_=>by simp[noMix]
  | .list xs,h=>by
    rw[noMix]
    exact jA xs (by simpa [PyData.canLay0] using h)
  | .tuple xs,h=>by
    rw[noMix]
    exact jA xs (by simpa [PyData.canLay0] using h)
  | .dict _,h=>by simp[PyData.canLay0] at h
theorem jA:∀ds:List PyData,PyData.canLayAll0 ds=true->noMixAll ds ds=true
  | [],_=>by simp[noMixAll]
  | d::ds,h=>by
    simp only [PyData.canLayAll0,Bool.and_eq_true] at h
    rw[noMixAll,tV d h.1,jA ds h.2]
    rfl
end
def Tid (n:Nat)(d:PyData): Prop:=d.canLay0=true/\d.depth<=n
theorem Tid.shaped {n:Nat}{d:PyData}(h:Tid n d)(hn:n<=64): shaped d=true:=by
  show (d.canLay0&&decide (d.depth<=64))=true
  rw[h.1,decide_eq_true (Nat.le_trans h.2 hn)]
  rfl
theorem Tid.int (i:Int): Tid 1 (.int i):=⟨by simp[PyData.canLay0],by simp[PyData.depth]⟩
theorem Tid.str {x:Str}(h:PyData.canLay0 (.str x)=true): Tid 1 (.str x):=⟨h,by simp[PyData.depth]⟩
theorem Tid.all {n:Nat}: ∀{ds:List PyData},(∀d∈ds,Tid n d)->PyData.canLayAll0 ds=true/\PyData.depthAll ds<=n
  | [],_=>⟨by simp[PyData.canLayAll0],by simp[PyData.depthAll]⟩
  | d::ds,h=>by
    have h1:=h d List.mem_cons_self
    have h2:=Tid.all (ds:=ds) fun x hx=>h x (List.mem_cons_of_mem _ hx)
    refine⟨by simp[PyData.canLayAll0,h1.1,h2.1],?_⟩
    have:=h1.2
    have:=h2.2
    simp only [PyData.depthAll]
    omega
theorem Tid.tuple {n:Nat}{ds:List PyData}(h:∀d∈ds,Tid n d): Tid (n+1) (.tuple ds):=by
  have q:=Tid.all h
  refine⟨by simpa [PyData.canLay0] using q.1,?_⟩
  have:=q.2
  simp only [PyData.depth]
  omega
section
variable {K:W.Frag}{H:Hp}{x y:V}{d:PyData}{Q:VK}{n:Nat}
theorem w5 (h1:oZ K H x d)(h2:oZ K H y d)(t:Tid n d)(q:Q (.bl false) H)(hn:n<=64:=by decide): Jn K x y H Q :=
  ⟨d,d,h1,h2,t.shaped hn,t.shaped hn,tV d t.1,by rw[PySem.Spec.same_self];exact q⟩
end
end L2

namespace L2
open PySem PySem.Spec PyProof.Rows
section
variable {X:Cx}
end
def notStar:Expr->Bool
  | .Starred _ _=>false
  | _=>true
theorem Dg {e:Expr}{es:List Expr}{env:Env}(h:notStar e=true): starEach (e::es) env=(false,eval e env)::starEach es env:=by
  cases e<;>first | rfl | cases h
theorem ae {X:Cx}{e:Expr}{es:List Expr}{te:TE}{t:TA}(ha:PE X e te)(hr:PA X es t)(h:notStar e=true): PA X (e::es) (Hf te t):=oQ ha hr (Dg h)
theorem exW {p:(Nat->Nat->St->Hp->Prop)->Prop}(w:Nat->Nat->St->Hp->Prop)(h:p w): ∃w,p w:=⟨w,h⟩
theorem exN {p:(St->Hp->Prop)->Prop}(w:St->Hp->Prop)(h:p w): ∃w,p w:=⟨w,h⟩
theorem exD {p:PyData->Prop}(w:PyData)(h:p w): ∃w,p w:=⟨w,h⟩
theorem jk {p:(Nat->St->Hp->Prop)->Prop}(w:Nat->St->Hp->Prop)(h:p w): ∃w,p w:=⟨w,h⟩
theorem cz {H:Hp}{q b:Addr}{u o:HO}(h:H q=none)(e:H b=some o): upd H q u b=some o:=aH h b o e
theorem dS {H:Hp}{q b:Addr}{u o:HO}(h:b≠q)(e:H b=some o): upd H q u b=some o:=by rw[av h];exact e
theorem bT {f g:Str}{v:V}{r:List (Str×V)}{o:Option V}(h:¬g=f)(e:r.lookup g=o): ((f,v)::r).lookup g=o:=by
  have hb:(g==f)=false:=beq_eq_false_iff_ne.mpr h
  simp only [List.lookup,hb]
  exact e
theorem cA {H H':Hp}{q:Addr}{u:HO}(h:H' q=none)(e:Same H H'): Same H (upd H' q u):=e.trans (aH h)
theorem dU {f:Str}{v:V}{r:List (Str×V)}: ((f,v)::r).lookup f=some v:=by
  have hb:(f==f)=true:=beq_iff_eq.mpr rfl
  simp only [List.lookup,hb]
theorem lQ {f g:Str}{v x:V}{r:List (Str×V)}(h:¬g=f): gu f v ((g,x)::r)=(g,x)::gu f v r:=if_neg h
theorem kF {f:Str}{v:V}: gu f v []=[(f,v)]:=rfl
theorem c7.u1 {k:Nat}{A:Around}(r:c7 k A): A.units+1 < cLine:=by have:=r.un;omega
section
variable {X:Cx}
theorem EL (hu:X.A.units+1 < cLine): OpR X (compareOp .In) (fun x y H Q=>∃a o,y=.ref a/\lW H a x o/\Q (.bl o.isSome) H):=by
  intro pins s σ H x y v u Q I rx ry h
  obtain⟨a,o,rfl,g,q⟩:=h
  cases ry
  exact KA hu I g rx fun s3 I3=>⟨.bl o.isSome,H,I3,rfl,q⟩
theorem ke (hu:X.A.units+1 < cLine): OpR X (compareOp .NotIn) (fun x y H Q=>∃a o,y=.ref a/\lW H a x o/\Q (.bl (!o.isSome)) H):=by
  intro pins s σ H x y v u Q I rx ry h
  obtain⟨a,o,rfl,g,q⟩:=h
  cases ry
  exact Gs hu I g rx fun s3 I3=>⟨.bl (!o.isSome),H,I3,rfl,q⟩
end
def Fr (fp fp':List Addr)(H H':Hp): Prop:=(∀b u,H b=some u->b∉fp->H' b=some u)/\∀b,b∈fp'->b∈fp\/H b=none
theorem Fr.refl (fp:List Addr)(H:Hp): Fr fp fp H H:=⟨fun _ _ h _=>h,fun _ h=>.inl h⟩
theorem Fr.same {fp:List Addr}{H H':Hp}(h:Same H H'): Fr fp fp H H':=⟨fun b u z _=>h b u z,fun _ h=>.inl h⟩
theorem Fr.out {fp fp':List Addr}{H H':Hp}(h:Fr fp fp' H H'){b:Addr}{u:HO}(e:H b=some u)(n:b∉fp): H' b=some u/\b∉fp' :=
  ⟨h.1 b u e n,fun z=>(h.2 b z).elim (fun q=>n q) fun q=>by rw[e] at q;cases q⟩
theorem Fr.trans {fp fp' Dh:List Addr}{H H' H'':Hp}(h:Fr fp fp' H H')(k:Fr fp' Dh H' H''): Fr fp Dh H H'':=by
  refine⟨fun b u e n=>?_,fun b hb=>?_⟩
  · obtain⟨e1,n1⟩:=h.out e n
    exact k.1 b u e1 n1
  · rcases k.2 b hb with q | q
    · exact h.2 b q
    · by_cases n:b∈fp
      · exact .inl n
      · refine .inr ?_
        cases e:H b with
        | none=>rfl
        | some u=>rw[h.1 b u e n] at q;cases q
theorem Fr.put {fp:List Addr}{H:Hp}{b:Addr}{o:HO}(h:b∈fp): Fr fp fp H (upd H b o) :=
  ⟨fun c u e n=>by rw[av fun z=>n (by rw[z];exact h)];exact e,fun _ z=>.inl z⟩
theorem Fr.new {fp:List Addr}{H:Hp}{b:Addr}{o:HO}(h:H b=none): Fr fp (b::fp) H (upd H b o) :=
  ⟨fun c u e n=>by rw[av (az e h)];exact e,fun c z=>(List.mem_cons.mp z).elim (fun z=>.inr (by rw[z];exact h)) fun z=>.inl z⟩
section
variable {X:Cx}
end
section
variable {X:Cx}
end
end L2

set_option maxHeartbeats 4000000
namespace L2
open PySem PySem.Spec PyProof.Rows
end L2

set_option maxHeartbeats 4000000
namespace L2
open PySem PySem.Spec PyProof.Rows
structure Hi (K:W.Frag)(C:Addr)(m:Str)(f:Addr): Prop where
  sp:W.specialIn K (.ref C) "__getattribute__" = some (some (.builtin "type.__getattribute__"))
  fi:∃mc,W.readsIn K C mc=true/\W.findCls K (.ref C) mc m=some (.val (.ref f))
  kp:W.keepIn K (.ref f)=true
def zq (P:Program)(w:World)(K:W.Frag)(mg:Str->Option Value)(base:Heap)(C:Addr)(k:Nat)(m:Str)(ps:List Str)(sp:Sp)(dvs:List V): Prop :=
  ∃f fd ds,gv P w K mg base (CXE P w) k f fd ps sp/\Hi K C m f/\Binds K fd ps ds/\Vals dvs ds
section
variable {P:Program}{w:World}{K:W.Frag}{mg:Str->Option Value}{base:Heap}{C:Addr}{x m qual:Str}{st:Stmt}{N ps:List Str}{dvs:List V}{k:Nat}{sp:Sp}
end
section
variable {X:Cx}{C:Addr}{k:Nat}{ps:List Str}{sp:Sp}{dvs:List V}{E:St->XK}{x m:Str}{p pos apos:Pos}{e o:Expr}{es:List Expr}{ta:TE}{t:TA}
theorem ER {pl:Sem Bool}(hg:Gl X x)(hm:X.mg x=some (.ref C))(h:zq X.prog X.w X.K X.mg X.base C k m ps sp dvs)(hr:c7 k X.A)(hx:bP (CXE X.prog X.w) X E)(ha:PA X (e::es) t)
    (hdb:(x==("__debug__" : Str))=false:=by decide)
    (hst:starEach (e::es) X.env=(false,eval e X.env)::starEach es X.env:=by rfl) (hpl:(backTo pos (starEach es X.env)).any (·.1)=false:=by rfl)
    (ht:eval (.Call (.Attribute (.Name x p) m apos) (e::es) [] pos) X.env=(do
      let ov <-eval (.Name x p) X.env
      standAt apos.atName
      let (f,first) <-holding [ov] (getMethod ov m pl)
      callWith pos f first (backTo pos (starEach (e::es) X.env)) (backToKw pos (keywordEach [] X.env))):=by rfl) :
    PE X (.Call (.Attribute (.Name x p) m apos) (e::es) [] pos) (AK sp dvs E t):=by
  obtain⟨f,fd,ds,F,hc,hb,hd⟩:=h
  obtain⟨mc,h1,h2⟩:=hc.fi
  intro pins s σ H Q I h
  refine W.methodCall_KW (pl:=pl) (eP I hg hm ?_ hdb) ht
  refine W.method_cls I.kIn hc.sp (W.cls_value I.kIn h1 h2 rfl ?_)
  have I':Inv X pins σ H { s with toks:=s.toks+1 }:=I.tok _
  refine W.callWith_K (first:=[]) (h₀:=X.base) I.ok.mod.kin hc.kp (thn (ha pos pins _ σ H _ I' h) fun us s1 ⟨vs,H1,I1,r,q⟩=>⟨I1.kIn,?_⟩) hst hpl
  exact oY F hr hb hd hx I1 r q
def KD (X:Cx)(k:Nat)(m:Str)(dvs:List V)(E:St->XK)(ta:TE)(t:TA): TE:=fun σ H Q=>ta σ H fun x H1=>∃a C dx fs ps sp,x=.ref a/\H1 a=some (.ins C dx fs)/\Cls X.K C/\aB X.prog X.w X.K X.mg X.base C k m ps sp dvs/\fs.lookup m=none ∧
  t σ H1 fun vs H2=>sp (.ref a::(vs++dvs)) H2 Q (E σ)
theorem EV {pl:Sem Bool}(he:PE X o ta)(hr:c7 k X.A)(hx:bP (CXE X.prog X.w) X E)(ha:PA X (e::es) t)
    (hst:starEach (e::es) X.env=(false,eval e X.env)::starEach es X.env:=by rfl) (hpl:(backTo pos (starEach es X.env)).any (·.1)=false:=by rfl)
    (ht:eval (.Call (.Attribute o m apos) (e::es) [] pos) X.env=(do
      let ov <-eval o X.env
      standAt apos.atName
      let (f,first) <-holding [ov] (getMethod ov m pl)
      callWith pos f first (backTo pos (starEach (e::es) X.env)) (backToKw pos (keywordEach [] X.env))):=by rfl) :
    PE X (.Call (.Attribute o m apos) (e::es) [] pos) (KD X k m dvs E ta t):=by
  intro pins s σ H Q I h
  refine W.methodCall_KW (pl:=pl) (thn (he pins s σ H _ I h) fun u s1 ⟨x,H1,I1,rx,a,C,dx,fs,ps,sp,ex,ea,c,⟨f,fd,ds,F,hm,hb,hd⟩,l,q⟩=>?_) ht
  subst ex
  obtain rfl:u=Value.ref a:=rx
  refine nY I1 ea c hm l ?_
  refine W.callWith_K (first:=[.ref a]) (h₀:=X.base) I.ok.mod.kin hm.kp (thn (ha pos pins s1 σ H1 _ I1 q) fun us s2 ⟨vs,H2,I2,r,q2⟩=>⟨I2.kIn,?_⟩) hst hpl
  exact oY (us:=.ref a::us) (vs:=.ref a::vs) F hr hb hd hx I2 (.cons rfl r) q2
end
section
variable {X:Cx}{P:Program}{w:World}{K:W.Frag}{mg:Str->Option Value}{base:Heap}{m:Str}{dvs:List V}{k:Nat}{E:St->XK}{ta:TE}{t:TA}{o e:Expr}{es:List Expr}{pos apos:Pos}
end
structure TopD (P:Params)(K:W.Frag)(a:Addr): Prop where
  lk:∃es n,K.lookup a=some ⟨.type "dict",none,.dict es n,#[]⟩/\W.KeysLit P es.toList
  sy:(a==sysModules)=false
def GD (K:W.Frag)(a:Addr)(ty:TE): TE:=fun σ H Q=>ty σ H fun y H1=>∃x v u,y=.str x/\W.nsIn K a x=some (some u)/\RelV v u/\Q v H1
section
variable {X:Cx}{a:Addr}{x:Str}{i:Expr}{ty:TE}{p pos:Pos}
theorem Di (hg:Gl X x) (hm:X.mg x=some (.ref a)) (td:TopD X.w.params X.K a) (hi:PE X i ty) (hs:HX i) (hdb:(x==("__debug__" : Str))=false:=by decide):PE X (.Subscript (.Name x p) i pos) (GD X.K a ty):=by
  intro pins s σ H Q I h
  obtain⟨es,n,hl,hk⟩:=td.lk
  refine B1 PySem.F.slot_dict_getitem.lookup hs (eP I hg hm ?_ hdb)
  refine thn (hi pins s σ H _ I h) fun iv s2 ⟨y,H2,I2,ry,z,v,u,ey,hn,rv,q⟩=>?_
  subst ey
  obtain⟨t,rfl⟩:=ry
  have hmp:=W.mapOf_K (prog:=X.prog) (w:=X.w) I2.kIn hl hk
  exact⟨hmp.typeIs,wpAny_getItem_of (strKind_is X.prog X.w z t) hmp (W.find_K hl hn) ⟨v,H2,I2.tok _,rv,q⟩⟩
end
section
variable {P:Program}{w:World}{K:W.Frag}{mg:Str->Option Value}{base:Heap}{C f:Addr}{m:Str}{ps:List Str}{dvs:List V}{ds:List Value}{k:Nat}{sp:Sp}{fd:FuncData}
theorem B8 (F:gv P w K mg base (CXE P w) k f fd ps sp)(h:Meth K C m f)(hb:Binds K fd ps ds)(hd:Vals dvs ds): aB P w K mg base C k m ps sp dvs:=⟨f,fd,ds,F,h,hb,hd⟩
theorem Jq (F:gv P w K mg base (CXE P w) k f fd ps sp)(h:Mk K C f)(hb:Binds K fd ps ds)(hd:Vals dvs ds): cf P w K mg base C k ps sp dvs:=⟨f,fd,ds,F,h,hb,hd⟩
theorem Jr (F:gv P w K mg base (CXE P w) k f fd ps sp)(h:Hi K C m f)(hb:Binds K fd ps ds)(hd:Vals dvs ds): zq P w K mg base C k m ps sp dvs:=⟨f,fd,ds,F,h,hb,hd⟩
theorem aB.mono {j:Nat}(h:aB P w K mg base C j m ps sp dvs)(hj:j<=k): aB P w K mg base C k m ps sp dvs:=by
  obtain⟨f,fd,ds,F,hm,hb,hd⟩:=h
  exact⟨f,fd,ds,⟨F.len,fun A outer s H args us vs Q E hr=>F.run A outer s H args us vs Q E (hr.mono hj)⟩,hm,hb,hd⟩
end
section
variable {X:Cx}{x:Str}{pos:Pos}
end
theorem Dj {its:Array Value}{n:Nat}(h:its.size=n)(hn:n<=1000:=by decide): its.size<=sizeLine:=by rw[h];exact aR hn
end L2

set_option maxHeartbeats 4000000
namespace L2
open PySem PySem.Spec PyProof.Rows
section
variable {X:Cx}{pins:List (Addr×Obj)}{σ:St}{H:Hp}{s:Shared}
end
end L2

set_option maxHeartbeats 4000000
namespace L2
open PySem PySem.Spec PyProof.Rows
def nK (kvs:List (Key×V))(ks:List Int): Prop:=kvs.map (·.1)=ks.map Sum.inl
section
variable {X:Cx}
def Js (td ty tx:TE): TE:=fun σ H Q=>td σ H fun x H1=>∃a,x=.ref a/\IsD H1 a/\ty σ H1 fun y H2=>tx σ H2 fun z H3=>∃kvs k,H3 a=some (.dK kvs)/\y=kV k/\kvs.length < sizeLine ∧
  (∀v,bf kvs k=some v->Q v H3)/\(bf kvs k=none->Q z (upd H3 a (.dK (putK kvs k z))))
variable {pins:List (Addr×Obj)}{σ:St}{H:Hp}{s:Shared}{a:Addr}{kvs:List (Key×V)}{k:Key}{A:Around}{E:Value->Shared->Prop}{u:Value}
theorem EW {z:V}{r:Value}{Q:Value->Shared->Prop}(I:Inv X pins σ H s)(e:H a=some (.dK kvs))(ry:RelV (kV k) u)(rz:RelV z r)(hz:kvs.length < sizeLine)
    (h1:∀v w' s',bf kvs k=some v->Inv X pins σ H s'->RelV v w'->Q w' s') (h2:∀s',bf kvs k=none->Inv X pins σ (upd H a (.dK (putK kvs k z))) s'->Q r s') :
    wpAny (model X.prog X.w) A (call (.builtin "dict.setdefault") [.ref a,u,r]) Q E s:=by
  obtain⟨zl,hd,vs,rel,dd⟩:=B0 I.hok e
  refine call_meetsIn PySem.F.slot_dict_setdefault dd.typeIs PySem.F.entry_dict_setdefault (PySem.F.args_dict_setdefault_3 _ _ _) (kt_meets_setdefault (cx X.prog X.w) a (oX ry) hd r)
    ⟨vs,dd,by rw[<-rel.length];exact zl,fun v hv=>?_,fun hn h' dd' hs=>?_⟩
  · cases l:bf kvs k with
    | none =>
      have hn:valueAt vs k=none:=fJ.none_of (by rw[<-l];exact rel.val k)
      rw[hn] at hv;cases hv
    | some v0 =>
      obtain⟨w',hw,rw'⟩:=fJ.some_of (v:=v0) (o:=valueAt vs k) (by rw[<-l];exact rel.val k)
      rw[hw] at hv
      cases hv
      exact h1 v0 _ _ l (I.tok _) rw'
  · have l:bf kvs k=none:=by
      cases l:bf kvs k with
      | none=>rfl
      | some v0 =>
        obtain⟨w',hw,_⟩:=fJ.some_of (v:=v0) (o:=valueAt vs k) (by rw[<-l];exact rel.val k)
        rw[hw] at hn;cases hn
    have he:∃q,h'.get? a=some q:=let ⟨q,_,_,hq,_⟩:=dd';⟨q,hq⟩
    refine h2 _ l (sY I (by rw[e];exact True.intro) hs he (AJ ?_ hd (rel.put k rz) dd'))
    have:=dv kvs k z
    omega
variable {o e' f:Expr}{apos cpos:Pos}{td ty tx:TE}
theorem rV (ho:PE X o td) (he:PE X e' ty) (hf:PE X f tx) (m:M2 X o "setdefault" apos e' f cpos):PE X (.Call (.Attribute o "setdefault" apos) [e',f] [] cpos) (Js td ty tx):=by
  intro pins s σ H Q I h
  refine wpAny_Call_method m.base m.few m.line PySem.F.plainAttrs_dict PySem.F.slot_dict_setdefault PySem.F.type_dict_setdefault (thn (ho pins s σ H _ I h) fun u s1 ⟨x,H1,I1,rx,a,ex,d,q1⟩=>?_)
  subst ex
  obtain rfl:u=Value.ref a:=rx
  obtain⟨t1,t2,_⟩:=xN I1 d
  refine⟨t1,t2,?_⟩
  rw[m.trees]
  refine Calls.callWith_builtin rfl (Calls.evalArgs_plain (Calls.spliced_cons (thn (he pins s1 σ H1 _ I1 q1) fun iv s2 ⟨y,H2,I2,ry,q2⟩ =>
    Calls.spliced_cons (thn (hf pins s2 σ H2 _ I2 q2) fun fv s3 ⟨z,H3,I3,rz,kvs,k,ea,ey,hz,q3,q4⟩=>Calls.spliced_nil ?_))))
  subst ey
  exact EW I3 ea ry rz hz (fun v w' s4 l I4 rw'=>⟨v,_,I4,rw',q3 v l⟩) fun s4 l I4=>⟨z,_,I4,rz,q4 l⟩
end
end L2

set_option maxHeartbeats 4000000
namespace L2
open PySem PyProof.Rows
theorem EY {x y:Int}(hx:0<=x)(hy:0<=y): Builtin.bitOr x y=((x.toNat ||| y.toNat:Nat):Int):=by
  unfold Builtin.bitOr Builtin.bitAnd
  have h1:¬0<=Builtin.bitNot x:=by unfold Builtin.bitNot;omega
  have h2:¬0<=Builtin.bitNot y:=by unfold Builtin.bitNot;omega
  simp only [h1,h2,decide_false]
  have e1:∀z:Int,Builtin.bitNot (Builtin.bitNot z)=z:=fun z=>by unfold Builtin.bitNot;omega
  rw[e1,e1,e1]
section
variable {x y:Int}{k:Nat}
theorem o4:(0:Int) < 2^k:=Int.pow_pos (by decide)
theorem Ik:0<=x%2^k:=Int.emod_nonneg _ (Int.ne_of_gt o4)
theorem EZ (hx:0<=x): 0<=x / 2^k:=Int.ediv_nonneg hx (Int.le_of_lt o4)
end
theorem zt (k:Nat): ((2^k:Nat):Int)=(2:Int)^k:=by
  rw[Int.natCast_pow]
  rfl
theorem E1 {n m:Int}{k:Nat}(h0:0<=n)(h1:0<=m)(h2:m < 2^k): Builtin.bitOr (n*2^k) m=n*2^k+m:=by
  have hp:(0:Int)<=n*2^k:=Int.mul_nonneg h0 (Int.le_of_lt (Int.pow_pos (by decide)))
  rw[EY hp h1]
  obtain⟨a,rfl⟩:=Int.eq_ofNat_of_zero_le h0
  obtain⟨b,rfl⟩:=Int.eq_ofNat_of_zero_le h1
  have e:(a:Int)*2^k=((2^k*a:Nat):Int):=by rw[Int.natCast_mul,zt,Int.mul_comm]
  rw[e,Int.toNat_natCast,Int.toNat_natCast]
  have hb:b < 2^k:=by
    have:=zt k
    omega
  rw[<-Nat.two_pow_add_eq_or_of_lt hb a]
  exact Int.natCast_add _ _
end L2

set_option maxHeartbeats 4000000
namespace L2
open PySem PyProof.Rows
end L2

set_option maxHeartbeats 4000000
namespace L2
open PySem PySem.Spec PyProof.Rows
section
variable {X:Cx}{pins:List (Addr×Obj)}{σ:St}{H:Hp}{s:Shared}
theorem Inv.Il (I:Inv X pins σ H s){a:Addr}{ns:List Int}(h:SqT X.K H a (ns.map V.int)): ∃vs:List Value,IsTup s.heap a vs.toArray/\IntsAre vs ns/\ns.length<=sizeLine:=by
  obtain⟨its,rv,p,hz⟩:=I.tuple h
  exact⟨its,p,kE rv,by simpa using hz⟩
theorem Dk (hc:X.calm=true): lP X (.builtin "sum") (fun xs H Q=>∃(p:Addr) (ns:List Int),xs=[.ref p]/\SqT X.K H p (ns.map V.int)/\Q (.int ns.sum) H):=by
  intro pins s σ H xs us Q I r h
  obtain⟨p,ns,rfl,hq,q⟩:=h
  obtain⟨u,rfl,ru⟩:=vals1 r
  cases ru
  obtain⟨vs,hl,hi,_⟩:=I.Il hq
  obtain⟨ys,hx⟩:=hi.allInts.items
  have hl':s.heap.IsTuple p (intItems ys):=hx ▸ (show s.heap.IsTuple p vs.toArray from hl)
  have hlt:p < s.heap.objs.size:=by obtain⟨_,e,_⟩:=id hl';exact Heap.lt_size e
  refine call_sum_walkG (wpAny_pyIter_tuple hl' ?_)
  refine⟨s.heap.objs.size,_,_,_,_,_,numAt ys,rfl,Walks.tuple (A:=X.A.in1) (I.ok.hd hc) s.heap.objs.size p (Nat.ne_of_lt hlt) (intItems ys),⟨⟨_,Heap.get?_push_size _ rfl,rfl,rfl⟩,hl'.push _⟩,fun b hb=>?_,(fun _ _=>intItems_at),fun h' tk t' hk=>?_⟩
  · have hz:∀o:Obj,(s.heap.push o).objs.size=s.heap.objs.size+1:=fun o=>Array.size_push _
    rcases List.mem_cons.mp hb with e | hb
    · rw[e,hz];exact Nat.lt_succ_self _
    · rw[List.mem_singleton.mp hb,hz];exact Nat.lt_succ_of_lt hlt
  · refine⟨.int ns.sum,H,I.kept (LSm.kept_iter hk),⟨t',?_⟩,q⟩
    have e1:ns=ys.toList.map (·.1):=by
      rw[<-nums_intItems,<-hx]
      exact(show numsOf vs.toArray.toList=ns from hi.numsOf).symm
    have e2:(intItems ys).size=ys.size:=by simp[intItems]
    rw[e2,preSum_eq,List.take_of_length_le (by simp),e1]
end
end L2

set_option maxHeartbeats 4000000
namespace L2
def o5:List Int->Int->List Int
  | [],_=>[]
  | w::ws,r=>(r%2^w.toNat)::o5 ws (r / 2^w.toNat)
def parts (ws:List Int)(r:Int): List Int:=(o5 ws.reverse r).reverse
def span (ws:List Int): Int:=2^ws.sum.toNat
def glue (l:List (Int×Int)): Int:=l.foldl (fun a wp=>a*2^wp.1.toNat+wp.2) 0
theorem iQ (ws:List Int)(w r:Int): parts (ws++[w]) r=parts ws (r / 2^w.toNat)++[r%2^w.toNat]:=by
  unfold parts
  rw[List.reverse_append]
  show (o5 (w::ws.reverse) r).reverse=_
  rw[o5,List.reverse_cons]
theorem Dl (l:List (Int×Int))(w p:Int): glue (l++[(w,p)])=glue l*2^w.toNat+p:=by
  unfold glue
  rw[List.foldl_append]
  rfl
theorem o6 (ws:List Int): ∀r,(parts ws r).length=ws.length:=by
  have h:∀(l:List Int) (r:Int),(o5 l r).length=l.length:=fun l=>by
    induction l with
    | nil=>intro r;rfl
    | cons w l ih=>intro r;rw[o5,List.length_cons,ih,List.length_cons]
  intro r
  unfold parts
  rw[List.length_reverse,h,List.length_reverse]
theorem snocInd {α:Type}{P:List α->Prop}(h0:P [])(h1:∀l a,P l->P (l++[a]))(l:List α): P l:=by
  have:∀l:List α,P l.reverse:=fun l=>by
    induction l with
    | nil=>exact h0
    | cons a l ih=>rw[List.reverse_cons];exact h1 _ _ ih
  have h:=this l.reverse
  rw[List.reverse_reverse] at h
  exact h
theorem zu (ws:List Int): 0 < span ws:=Int.pow_pos (by decide)
theorem w8 {ws:List Int}{w:Int}(h:∀x∈ws,0<=x)(hw:0<=w): span (ws++[w])=span ws*2^w.toNat:=by
  unfold span
  have hs:0<=ws.sum:=by
    clear hw
    induction ws with
    | nil=>simp
    | cons x r ih =>
      rw[List.sum_cons]
      have:=h x List.mem_cons_self
      have:=ih fun y hy=>h y (List.mem_cons_of_mem _ hy)
      omega
  rw[List.sum_append,List.sum_cons,List.sum_nil,Int.add_zero,Int.toNat_add hs hw,Int.pow_add]
def Fit:List Int->List Int->Prop
  | [],[]=>True
  | w::ws,p::ps=>(0<=p/\p < 2^w.toNat)/\Fit ws ps
  | _,_=>False
theorem Fit.length:∀{ws ps:List Int},Fit ws ps->ws.length=ps.length
  | [],[],_=>rfl
  | _::_,_::_,h=>by rw[List.length_cons,List.length_cons,Fit.length h.2]
  | [],_::_,h=>h.elim
  | _::_,[],h=>h.elim
theorem Fit.snoc:∀{ws ps:List Int} {w p:Int},Fit ws ps->0<=p->p < 2^w.toNat->Fit (ws++[w]) (ps++[p])
  | [],[],_,_,_,h0,h1=>⟨⟨h0,h1⟩,trivial⟩
  | _::_,_::_,_,_,h,h0,h1=>⟨h.1,Fit.snoc h.2 h0 h1⟩
  | [],_::_,_,_,h,_,_=>h.elim
  | _::_,[],_,_,h,_,_=>h.elim
theorem Dm:∀(ws:List Int) (r:Int),Fit ws (parts ws r):=by
  intro ws
  induction ws using snocInd with
  | h0=>intro r;exact trivial
  | h1 l w ih =>
    intro r
    rw[iQ]
    exact(ih _).snoc Ik (Int.emod_lt_of_pos _ o4)
theorem Io {r m:Int}{k:Nat}(h:r < m*2^k): r / 2^k < m:=Int.ediv_lt_of_lt_mul o4 h
theorem tW:∀(ws:List Int),(∀x∈ws,0<=x)->∀{r:Int},0<=r->r < span ws->glue (ws.zip (parts ws r))=r:=by
  intro ws
  induction ws using snocInd with
  | h0 =>
    intro _ r h0 h1
    have e:span []=1:=rfl
    rw[e] at h1
    have:r=0:=by omega
    subst this
    rfl
  | h1 l w ih =>
    intro hw r h0 h1
    have hl:∀x∈l,0<=x:=fun x hx=>hw x (List.mem_append_left _ hx)
    rw[w8 hl (hw w (by simp))] at h1
    rw[iQ,List.zip_append (by rw[o6]),List.zip_cons_cons,List.zip_nil_right,Dl,ih hl (EZ h0) (Io h1),Int.mul_comm]
    exact Int.mul_ediv_add_emod r _
theorem Dp {ws:List Int}(hw:∀x∈ws,0<=x){a b:Int}(a0:0<=a)(a1:a < span ws)(b0:0<=b)(b1:b < span ws): parts ws a=parts ws b↔a=b:=by
  constructor
  · intro h
    rw[<-tW ws hw a0 a1,<-tW ws hw b0 b1,h]
  · intro h;rw[h]
end L2

set_option maxHeartbeats 4000000
namespace PySem
open Sem (wp)
open AutoSeq1 (wpAny_loadPart')
section
variable {prog:Program}{w:World}{A:Around}{E:Value->Shared->Prop}{s:Shared}
theorem vB {R:Result->Shared->Prop}{r:Addr}{a b c:Int}{t u v:Tok}{n:Nat}{oI:Obj}{St:Nat->Heap->Prop}(hr:IsRange s.heap r a b c t u v)
    (hit:∀(E:Value->Shared->Prop) (Q:Value->Shared->Prop),Q (.ref s.heap.objs.size) { s with heap:=s.heap.push oI }->wpAny (model prog w) A.in1 (pyIter (.ref r)) Q E s)
    (W:Walks prog w A.in1 s.heap.objs.size [s.heap.objs.size] [s.heap.objs.size] n (fun i v=>∃t,v=.int (a+i*c) t) St) (st:St 0 (s.heap.push oI))
    (hn:Builtin.Range.rangeSize a b c=n) (hlen:n<=2^24) (S:Addr) (res:Value) (c₀:Nat) (hS:s.heap.get? S=some { cls:=.type "list",data:=.seq #[] c₀ })
    (hR:∀h' tk acc' c',(∀b o,b≠S->s.heap.get? b=some o->h'.get? b=some o)->h'.get? S=some { cls:=.type "list",dict:=none,data:=.seq acc' c',slots:=#[] } ->
      ItemsOf (fun i v=>∃t,v=.int (a+i*c) t) acc' n->R (.ok (.ret res)) { s with heap:=h',toks:=tk }) :
    wpAny (model prog w) A.in1 (Builtin.List.listExtendWith (.ref S) (.ref r) res)
      (fun fin s'=>match fin with | .done f=>R (.ok f) s' | .again c'=>c'.quiet=true/\codeAny (model prog w) A c' R s') (fun e s'=>R (.error e) s') s:=by
  have hSr:S≠r:=fun e=>by rw[e,hr] at hS;simp at hS
  have hSlt:S < s.heap.objs.size:=Heap.lt_size hS
  have hSI:S≠s.heap.objs.size:=Nat.ne_of_lt hSlt
  have hSf:S∉[s.heap.objs.size]:=fun hm=>hSI (List.mem_singleton.mp hm)
  have key:∀(h:Heap) (c₁ tk:Nat),St 0 h->(∀b o,b≠S->s.heap.get? b=some o->h.get? b=some o) ->
      h.get? S=some { cls:=.type "list",data:=.seq #[] c₁ }->codeAny (model prog w) A (.builtin "list.extend.loop" ⟨[.ref S,.ref s.heap.objs.size,res],[]⟩) R { s with heap:=h,toks:=tk }:=by
    intro h c₁ tk hst hk hS₁
    refine codeAny_extend_loopS W.toS (by rw[sizeLine_eq];omega) S hSf res n 0 _ #[] c₁ rfl (Nat.zero_le _) hst hS₁ (ItemsOf.nil _) fun s' acc' c' hm hS' hacc=>?_
    rw[Moved.eq_with hm]
    refine hR s'.heap s'.toks acc' c' (fun b o hb e=>hm.heap b o (fun hmem=>?_) (hk b o hb e)) hS' hacc
    rcases List.mem_cons.mp hmem with e' | hmem
    · exact hb e'
    · exact absurd (Heap.lt_size e) (by rw[List.mem_singleton.mp hmem];exact Nat.lt_irrefl _)
  unfold Builtin.List.listExtendWith
  refine wpAny_bind (wpAny_typeOf (T := "range") ⟨_,hr,rfl⟩ ?_)
  have h1:Builtin.List.listSameRef (.ref S) (.ref r)=false:=by simp[Builtin.List.listSameRef,hSr]
  have h2:(Value.type "range" == Value.type "list")=false:=by decide
  have h3:(Value.type "range" == Value.type "tuple")=false:=by decide
  simp only [h1,h2,h3,Bool.or_false,Bool.false_eq_true,if_false]
  refine wpAny_bind (hit _ _ ?_)
  refine wpAny_bind (wpAny_holding (wpAny_hint_range (n:=n) (Heap.get?_push_of_some _ hr) hn hlen ?_))
  have hS₁:=Heap.get?_push_of_some oI hS
  refine wpAny_ite_split (fun _=>?_) (fun _=>wpAny_pure ⟨plainId_quiet F.plain_extend_loop _,key _ c₀ _ st (fun b o _ e=>Heap.get?_push_of_some _ e) hS₁⟩)
  refine wpAny_bind (wpAny_rule ?_)
  refine wpAny_bind ?_
  show wpAny _ _ (updateSeq S (·.push .none) >>= fun _=>updateSeq S (·.pop)) _ _ _
  refine wpAny_bind (wpAny_updateSeq hS₁ rfl ?_)
  have hS₂:=Heap.get?_update_self (Obj.mapSeq (·.push Value.none)) hS₁ rfl
  refine wpAny_updateSeq (hz:=by seq_fits) hS₂ rfl ?_
  have hS₃:=Heap.get?_update_self (Obj.mapSeq (·.pop)) hS₂ rfl
  refine wpAny_pure ⟨plainId_quiet F.plain_extend_loop _,key _ _ _ ?_ (fun b o hb e=>?_) hS₃⟩
  · refine W.frame 0 _ _ st fun b hb o e=>?_
    have hbS:b≠S:=fun h=>hSf (h ▸ hb)
    exact(Heap.get?_update_other _ _ (Ne.symm hbS)).trans ((Heap.get?_update_other _ _ (Ne.symm hbS)).trans e)
  · exact(Heap.get?_update_other _ _ (Ne.symm hb)).trans ((Heap.get?_update_other _ _ (Ne.symm hb)).trans (Heap.get?_push_of_some _ e))
theorem qg {R:Result->Shared->Prop}{r:Addr}{a b c:Int}{t u v:Tok}{n:Nat}(hr:IsRange s.heap r a b c t u v)
    (src:∀s':Shared,IsRange s'.heap r a b c t u v->∃(oI:Obj) (St:Nat->Heap->Prop),(∀(E:Value->Shared->Prop) (Q:Value->Shared->Prop),Q (.ref s'.heap.objs.size) { s' with heap:=s'.heap.push oI }->wpAny (model prog w) A.in1 (pyIter (.ref r)) Q E s') ∧
      Walks prog w A.in1 s'.heap.objs.size [s'.heap.objs.size] [s'.heap.objs.size] n (fun i v=>∃t,v=.int (a+i*c) t) St/\St 0 (s'.heap.push oI))
    (hn:Builtin.Range.rangeSize a b c=n) (hlen:n<=2^24) (S:Addr) (hS:s.heap.get? S=some { cls:=.type "list",data:=.seq #[] })
    (hR:∀h' tk acc' c',(∀b o,b≠S->s.heap.get? b=some o->h'.get? b=some o)->h'.get? S=some { cls:=.type "list",dict:=none,data:=.seq acc' c',slots:=#[] } ->
      ItemsOf (fun i v=>∃t,v=.int (a+i*c) t) acc' n->R (.ok (.ret .none)) { s with heap:=h',toks:=tk }) :
    wpAny (model prog w) A.in1 (Builtin.«list.__init__» ⟨[.ref S,.ref r],[]⟩)
      (fun fin s'=>match fin with | .done f=>R (.ok f) s' | .again c'=>c'.quiet=true/\codeAny (model prog w) A c' R s') (fun e s'=>R (.error e) s') s:=by
  have hSr:S≠r:=fun e=>by rw[e,hr] at hS;simp at hS
  show wpAny _ _ (do let old <-Builtin.List.listItems (.ref S);Builtin.List.listUpdate (.ref S) (fun _=>#[]);letGo old.toList.reverse;Builtin.List.listExtendWith (.ref S) (.ref r) .none) _ _ s
  refine wpAny_bind ?_
  unfold Builtin.List.listItems
  refine wpAny_bind (wpAny_seqItems hS rfl (wpAny_pure ?_))
  show wpAny _ _ (updateSeq S (fun _=>#[]) >>= fun _=>letGo (#[]:Array Value).toList.reverse >>= fun _=>Builtin.List.listExtendWith (.ref S) (.ref r) .none) _ _ s
  refine wpAny_bind (wpAny_updateSeq hS rfl ?_)
  have hS₂:=Heap.get?_update_self (Obj.mapSeq (fun _=>(#[]:Array Value))) hS rfl
  have oth:∀b o,b≠S->s.heap.get? b=some o->(s.heap.update S (Obj.mapSeq (fun _=>(#[]:Array Value)))).get? b=some o :=
    fun b o hb e=>(Heap.get?_update_other _ _ (Ne.symm hb)).trans e
  refine wpAny_bind (wpAny_letGo ?_)
  obtain⟨oI,St,hit,W,st⟩:=src { s with heap:=s.heap.update S (Obj.mapSeq (fun _=>(#[]:Array Value))) } (oth r _ (Ne.symm hSr) hr)
  refine vB (s:={ s with heap:=s.heap.update S (Obj.mapSeq (fun _=>(#[]:Array Value))) }) (oth r _ (Ne.symm hSr) hr) hit W st hn hlen S .none _ hS₂ fun h' tk acc' c' hk hS' hacc=>?_
  exact hR h' tk acc' c' (fun b o hb e=>hk b o hb (oth b o hb e)) hS' hacc
theorem qh {Q:Value->Shared->Prop}{r:Addr}{a b c:Int}{t u v:Tok}{n:Nat}(hh:A.handled=none)(hr:IsRange s.heap r a b c t u v)
    (hn:Builtin.Range.rangeSize a b c=n) (hlen:n<=2^24)
    (hQ:∀h' tk acc' c',(∀b o,s.heap.get? b=some o->h'.get? b=some o) ->
      h'.get? s.heap.objs.size=some { cls:=.type "list",dict:=none,data:=.seq acc' c',slots:=#[] }->ItemsOf (fun i v=>∃t,v=.int (a+i*c) t) acc' n->Q (.ref s.heap.objs.size) { s with heap:=h',toks:=tk }) :
    wpAny (model prog w) A (call (.type "list") [.ref r]) Q E s:=by
  cases hs:Builtin.Range.small a b c with
  | true=>exact call_list_range hh hr hs hn hlen hQ
  | false =>
    refine callType_codes (Q₁:=fun obj s₁=>obj=.ref s.heap.objs.size/\s₁={ s with heap:=s.heap.push { cls:=.type "list",data:=.seq #[] } }) F.called_list (F.typeCall_list_1 _) F.entry_list_init
      (code_list_new _ ⟨rfl,rfl⟩) fun obj s₁ h₁=>?_
    obtain⟨rfl,rfl⟩:=h₁
    have hS:(s.heap.push { cls:=.type "list",data:=.seq #[] }).get? s.heap.objs.size=some { cls:=.type "list",data:=.seq #[] }:=Heap.get?_push_size _ rfl
    refine⟨⟨_,hS,rfl⟩,F.args_list_init_2 _ _,qg (A:=A.in1) (Heap.get?_push_of_some _ hr) (fun s' hr'=>⟨_,_,fun E' Q' q=>wpAny_pyIter_longrange hr' hs q,Walks.longrange (A:=A.in1.in1) hh _ a c n,?_⟩) hn hlen _ hS fun h' tk acc' c' hk hS' hacc=>?_⟩
    · rw[hn]
      simpa using Heap.get?_push_size _ rfl
    · exact⟨rfl,hQ h' tk acc' c' (fun b o e=>hk b o (Nat.ne_of_lt (Heap.lt_size e)) (Heap.get?_push_of_some _ e)) hS' hacc⟩
end
end PySem

set_option maxHeartbeats 4000000
namespace L2
open PySem PySem.Spec PyProof.Rows
theorem AY {n:Int}(h0:0<=n)(h1:n<=2^100): n.natAbs < 2^1000:=by
  have e:(2:Nat)^100 < 2^1000:=Nat.pow_lt_pow_right (by decide) (by decide)
  have e2:((2^100:Nat):Int)=2^100:=by decide
  omega
section
variable {X:Cx}{pins:List (Addr×Obj)}{σ:St}{H:Hp}{s:Shared}
def Ip (i j:Int): Prop:=0<=j/\j<=1000000/\i.natAbs < 2^1000
theorem xS:OpR X (binaryOp .LShift) (rI Ip fun i j=>.int (i*2^j.toNat)):=opI fun i j _ _ _ _ _ hc q=>by
  refine lshift_int hc.1 ?_ q
  have hb:Builtin.Int.intBits i<=1000:=intBits_le_iff.mpr hc.2.2
  have:=hc.2.1
  omega
def jm (lo:Int)(n:Nat): List Int:=(List.range n).map fun i:Nat=>lo+(i:Int)
def GF (ta:TA): TE:=fun σ H Q=>ta σ H fun vs H1=>∃i j:Int,vs=[.int i,.int j]/\∀p,H1 p=none->Q (.ref p) (upd H1 p (.rng i j))
theorem Dq {a b:Expr} {ta:TA} {p pos:Pos} (hg:Gl X "range") (hm:X.mg "range" = none) (ha:PA X [a,b] ta) (hs:starEach [a,b] X.env=[(false,eval a X.env),(false,eval b X.env)]:=by rfl) (hs2:starEach [b] X.env=[(false,eval b X.env)]:=by rfl) :
    PE X (.Call (.Name "range" p) [a,b] [] pos) (GF ta):=by
  intro pins s σ H Q I h
  refine Call_ (iM I hg hm boot_range (PyProof.Rows.callWith_type1 (thn (ha pos pins s σ H _ I h) fun us s1 ⟨vs,H1,I1,r1,q1⟩=>?_) (by rw[hs,hs2]) (by rw[hs2];rfl)))
  obtain⟨i,j,e,q⟩:=q1
  subst e
  cases r1 with
  | cons r rr =>
    cases rr with
    | cons r' rr =>
      cases rr
      obtain⟨t,rfl⟩:=r
      obtain⟨t',rfl⟩:=r'
      refine call_range_2 ?_
      have I2:=I1.laid (t':=s1.toks+1) (a:=s1.heap.objs.size) (o:=.rng i j) (h':=s1.heap.push { cls:=.type "range",data:=.fields #[.int i t,.int j t',.int 1 s1.toks] }) (fun b o e=>Heap.get?_push_of_some _ e) (Nat.le_refl _) ⟨t,t',_,Heap.get?_push_size _ rfl⟩
      exact⟨.ref s1.heap.objs.size,_,I2,rfl,q _ (I1.hok.fresh (Nat.le_refl _))⟩
theorem rg:∀{xs:List V} {us:List Value},xs.length=us.length->(∀(i:Nat) (x:V) (u:Value),xs[i]?=some x->us[i]?=some u->RelV x u)->Vals xs us
  | [],[],_,_=>.nil
  | [],_::_,h,_=>by cases h
  | _::_,[],h,_=>by cases h
  | x::xs,u::us,h,k=>.cons (k 0 x u rfl rfl) (rg (Nat.succ.inj h) fun i y v e1 e2=>k (i+1) y v (by simpa using e1) (by simpa using e2))
theorem vC (hc:X.calm=true): lP X (.type "list") (fun xs H Q=>∃(r:Addr) (lo hi:Int),xs=[.ref r]/\H r=some (.rng lo hi)/\hi-lo<=1000000/\∀l,H l=none->Q (.ref l) (upd H l (.lst ((jm lo (hi-lo).toNat).map V.int)))):=by
  intro pins s σ H xs us Q I r h
  obtain⟨q,lo,hi,rfl,hq,hb,k⟩:=h
  obtain⟨u,rfl,ru⟩:=vals1 r
  cases ru
  obtain⟨t,u,v,e⟩:=I.hok q _ hq
  refine qh (n:=(hi-lo).toNat) (I.ok.hd hc) e ?_ (by omega) fun h' tk acc c kp hS hacc=>?_
  · rw[rangeSize_one];split<;>omega
  · have I3:Inv X pins σ (upd H s.heap.objs.size (.lst ((jm lo (hi-lo).toNat).map V.int))) { s with heap:=h',toks:=tk }:=I.laid (t':=tk) kp (Nat.le_refl _)
      (show b4 X.prog X.w _ _ _ (.lst _) from ⟨by rw[List.length_map,jm,List.length_map,List.length_range,sizeLine_eq];omega,acc.toList,c,rg (by rw[List.length_map,jm,List.length_map,List.length_range,Array.length_toList,hacc.1]) (fun i x u e1 e2=>?_),by rw[Array.toArray_toList];exact hS⟩)
    · exact⟨.ref _,_,I3,rfl,k _ (I.hok.fresh (Nat.le_refl _))⟩
    · rw[Array.getElem?_toList] at e2
      obtain⟨t',rfl⟩:=hacc.2 i u e2
      unfold jm at e1
      rw[List.map_map,List.getElem?_map] at e1
      have hi':i < (hi-lo).toNat:=by rw[<-hacc.1];exact(Array.getElem?_eq_some_iff.mp e2).1
      rw[List.getElem?_range hi'] at e1
      cases e1
      exact⟨t',by rw[Int.mul_one]⟩
end
end L2

set_option maxHeartbeats 4000000
namespace PySem
namespace F
theorem o7:typeLookup (.type "tuple") "__reversed__" = pure none:=by rw[typeLookup_type,builtinLookup_eq_fast];kernel_rfl
theorem w9:Manifest.owners.lookup (String.ofList ['d', 'e', 's', 'r', 'e', 'v', 'e', 'r'].reverse)=some Manifest.sig_reversed:=by kernel_rfl
theorem d9:Slot "reversed" "__next__" "reversed.__next__" :=
  .of (owner := "reversed") (n := "__next__") (by rw[typeLookup_type,builtinLookup_eq_fast];kernel_rfl) (by decide +kernel) (by decide +kernel) (by decide +kernel)
    (by first | exact .inl (by decide +kernel) | exact .inr (by decide +kernel)) (by rw[isSubtype_type];kernel_rfl)
theorem l9:entryFor table "reversed.__next__" = some Builtin.«reversed.__next__» := entryFor_of_tree (by kernel_rfl)
theorem lR (a:Value): argsOk "reversed.__next__" ⟨[a],[]⟩:=by
  unfold argsOk;rw[signature?_of (id := "reversed.__next__") (n:=['_', '_', 't', 'x', 'e', 'n', '_', '_']) (o:=['d', 'e', 's', 'r', 'e', 'v', 'e', 'r']) (by kernel_rfl) w9];kernel_rfl
theorem nL:Slot "reversed" "__iter__" "reversed.__iter__" :=
  .of (owner := "reversed") (n := "__iter__") (by rw[typeLookup_type,builtinLookup_eq_fast];kernel_rfl) (by decide +kernel) (by decide +kernel) (by decide +kernel)
    (by first | exact .inl (by decide +kernel) | exact .inr (by decide +kernel)) (by rw[isSubtype_type];kernel_rfl)
theorem rW (a:Value): argsOk "reversed.__iter__" ⟨[a],[]⟩:=by
  unfold argsOk;rw[signature?_of (id := "reversed.__iter__") (n:=['_', '_', 'r', 'e', 't', 'i', '_', '_']) (o:=['d', 'e', 's', 'r', 'e', 'v', 'e', 'r']) (by kernel_rfl) w9];kernel_rfl
theorem tX:entryFor table "reversed.__iter__" = some Builtin.«dict_keyiterator.__iter__» :=
  entryFor_alias (id' := "dict_keyiterator.__iter__") (by kernel_rfl) (by first | rfl | decide +kernel | (unfold String.splitOn;simp +decide [String.splitOnAux])) (by decide +kernel) (by kernel_rfl)
theorem vD:Slot "reversed" "__init__" "object.__init__" :=
  .of (owner := "object") (n := "__init__") (by rw[typeLookup_type,builtinLookup_eq_fast];kernel_rfl) (by decide +kernel) (by decide +kernel) (by decide +kernel)
    (by first | exact .inl (by decide +kernel) | exact .inr (by decide +kernel)) (by rw[isSubtype_type];kernel_rfl)
theorem gJ:TypeCalled "reversed" "reversed.__new__" "object.__init__" :=
  ⟨by decide +kernel,by decide +kernel,⟨_,_,mro_reversed⟩,made_reversed,by decide +kernel,sub_reversed_self,vD⟩
end F
section
variable {prog:Program}{w:World}{A:Around}{E:Value->Shared->Prop}{s:Shared}
open PyProof.Rows
def tf (l:Addr)(i:Int): Obj:={ cls:=.type "reversed",data:=.fields #[.ref l,rawInt i] }
def Heap.iR (h:Heap)(a l:Addr)(i:Int): Prop:=∃o,h.get? a=some o/\o.cls=.type "reversed" ∧ o.data=.fields #[.ref l,rawInt i]
theorem Heap.iR.typeIs {a l:Addr}{i:Int}(x:s.heap.iR a l i): s.TypeIs (.ref a) "reversed" := let ⟨o,ho,hc,_⟩:=x;⟨o,ho,hc⟩
theorem Heap.iR.at {h h':Heap}{a l:Addr}{i:Int}(x:h.iR a l i)(e:∀o,h.get? a=some o->h'.get? a=some o): h'.iR a l i:=let ⟨o,ho,r⟩:=x;⟨o,e _ ho,r⟩
theorem nZ {l:Addr}{items:Array Value}{Q₁:Value->Shared->Prop}(hl:IsTup s.heap l items)(hfit:(items.size:Int) < 2^63)
    (h:∀tk,Q₁ (.ref s.heap.objs.size) { s with heap:=s.heap.push (tf l ((items.size:Int)-1)),toks:=tk }) :
    codeAny (model prog w) A (.call (.builtin "reversed.__new__") ⟨[.type "reversed",.ref l],[]⟩) (wants Q₁ E) s:=by
  have hT:s.TypeIs (.ref l) "tuple" := hl.typeIs
  refine codeAny_of_tree ?_
  show wpAny _ A.in1 (do checkBuiltinCall "reversed.__new__" ⟨[.type "reversed",.ref l],[]⟩;again (.builtin "reversed.__new__" ⟨[.type "reversed",.ref l],[]⟩)) _ _ s
  refine wpAny_bind (wpAny_of_eq (F.newCall_reversed_1 _) (wpAny_pure ⟨plainId_quiet F.plain_reversed_new _,codeAny_builtin F.entry_reversed_new ?_⟩))
  rw[Around.under_plainId F.plain_reversed_new _]
  unfold Builtin.«reversed.__new__»
  refine wpAny_bind (wpAny_of_eq (newClass_reversed _) ?_)
  try dsimp only
  refine wpAny_bind (wpAny_of_eq (a:=()) (by first | rfl | kernel_rfl) ?_)
  refine wpAny_bind (wpAny_of_eq (a:=()) (by first | rfl | kernel_rfl) ?_)
  try dsimp only
  refine wpAny_bind (wpAny_specialOf hT F.o7 ?_)
  try dsimp only
  refine wpAny_bind ?_
  refine wpAny_bind (m:=isInstance (.ref l) (.type "dict")) (wpAny_isInstance (T := "tuple") (b:=false) hT (by rw[isSubtype_type];kernel_rfl) ?_)
  rw[if_neg Bool.false_ne_true]
  refine wpAny_bind (m:=specialOf (.ref l) (Str.ofString "__getitem__")) (wpAny_specialOf hT F.slot_tuple_getitem.lookup ?_)
  show wpAny _ _ (if (["tuple.__getitem__", "str.__getitem__", "bytes.__getitem__", "bytearray.__getitem__", "memoryview.__getitem__", "numpy.ndarray.__getitem__", "sqlite3.Row.__getitem__"].contains "tuple.__getitem__")=true then pure true else _) _ _ _
  rw[if_pos (by decide +kernel)]
  refine wpAny_pure ?_
  rw[if_neg (by decide)]
  refine wpAny_bind (len_tuple hl hfit ?_)
  refine wpAny_bind (m:=asInt? _) (wpAny_pure ?_)
  dsimp only
  show wpAny _ _ (newObj (.type "reversed") (.fields [Value.ref l,rawInt ((items.size:Int)-1)].toArray) >>= _) _ _ _
  refine wpAny_bind (wpAny_newObj_type (wpAny_pure (h _)))
theorem o8 {l:Addr}{items:Array Value}{Q:Value->Shared->Prop}(hl:IsTup s.heap l items)(hfit:(items.size:Int) < 2^63)
    (h:∀tk,Q (.ref s.heap.objs.size) { s with heap:=s.heap.push (tf l ((items.size:Int)-1)),toks:=tk }):wpAny (model prog w) A (call (.type "reversed") [.ref l]) Q E s:=by
  refine callType_codes (Q₁:=fun obj s₁=>s₁.TypeIs obj "reversed" ∧ Q obj s₁) F.gJ (F.typeCall_reversed_1 _) F.entry_object_init
    (nZ hl hfit fun tk=>⟨⟨_,Heap.get?_push_size _ rfl,rfl⟩,h tk⟩) fun obj s₁ h₁=>?_
  exact⟨h₁.1,F.args_object_init_2 obj _,object_init_meets F.gJ.init.lookup F.gJ.made (by decide) prog w A.in1 _ s₁ ⟨h₁.1,rfl,h₁.2⟩⟩
theorem Jt {i n:Nat}(h:i < n): seqIndex? (i:Int) n=some i:=by
  unfold seqIndex?
  have h1:¬(i:Int) < 0:=by omega
  have h2:((i:Int) < (n:Int)):=by omega
  simp only [h1,if_false]
  simp[h2]
theorem tY {it l:Addr}{i:Nat}{items:Array Value}{x:Value}{Q:Option Value->Shared->Prop}(hit:s.heap.iR it l (i:Int))(hl:IsTup s.heap l items)(hx:items[i]?=some x)(hfit:(items.size:Int) < 2^63)
    (hQ:∀h' tk,h'.iR it l ((i:Int)-1)->Heap.SameBut it s.heap h'->Q (some x) { s with heap:=h',toks:=tk }):wpAny (model prog w) A (pyNext (.ref it)) Q E s:=by
  obtain⟨o,ho,hc,hd⟩:=id hit
  have hT:s.TypeIs (.ref l) "tuple" := hl.typeIs
  unfold pyNext
  refine wpAny_bind (wpAny_attempt (wpAny_callSpecial?_slot (name:=Str.ofString "__next__") hit.typeIs F.d9
    (wpAny_call_entry F.d9 hit.typeIs F.l9 ?_ (F.lR _))))
  unfold Builtin.«reversed.__next__»
  refine wpAny_bind (wpAny_of_eq (a:=(Value.ref it,[])) rfl ?_)
  try dsimp only
  refine wpAny_bind (wpAny_field ho hd (x:=.ref l) rfl ?_)
  refine wpAny_bind (wpAny_field ho hd (x:=rawInt (i:Int)) rfl ?_)
  show wpAny _ _ (if (i:Int) < 0 then _ else _) _ _ s
  rw[if_neg (by omega)]
  refine wpAny_bind (wpAny_specialOf hT F.slot_tuple_getitem.lookup ?_)
  rw[if_neg (by decide)]
  refine wpAny_bind (wpAny_mkInt ?_)
  refine wpAny_bind (wpAny_attempt (getItem_tuple (j:=i) (s:={ s with toks:=s.toks+1 }) hl (by omega) (by have:=(Array.getElem?_eq_some_iff.mp hx).1;omega) (Jt (Array.getElem?_eq_some_iff.mp hx).1) hx ?_))
  show wpAny _ _ (field (.ref it) 1 >>= _) _ _ _
  refine wpAny_bind (wpAny_field ho hd (x:=rawInt (i:Int)) rfl ?_)
  show wpAny _ _ (setField (.ref it) 1 (rawInt ((i:Int)-1)) >>= _) _ _ _
  refine wpAny_bind (wpAny_setField ho hd (by simp) ?_)
  refine wpAny_pure ⟨x,rfl,wpAny_pure (hQ _ _ ?_ (Heap.SameBut.update ..))⟩
  exact⟨_,Heap.get?_update_self _ ho (Obj.isFreed_of_fields (Obj.data_mapFields hd _)),(Obj.cls_mapFields ..).trans hc,by
    rw[Obj.data_mapFields hd];simp⟩
theorem vE {it l:Addr}{Q:Option Value->Shared->Prop}(hh:A.handled=none)(hit:s.heap.iR it l (-1))
    (hQ:∀h',Heap.ExtBut it s.heap h'->Q none { s with heap:=h' }):wpAny (model prog w) A (pyNext (.ref it)) Q E s:=by
  obtain⟨o,ho,hc,hd⟩:=id hit
  unfold pyNext
  refine wpAny_bind (wpAny_attempt (wpAny_callSpecial?_slot (name:=Str.ofString "__next__") hit.typeIs F.d9
    (wpAny_call_entry F.d9 hit.typeIs F.l9 ?_ (F.lR _))))
  unfold Builtin.«reversed.__next__»
  refine wpAny_bind (wpAny_of_eq (a:=(Value.ref it,[])) rfl ?_)
  try dsimp only
  refine wpAny_bind (wpAny_field ho hd (x:=.ref l) rfl ?_)
  refine wpAny_bind (wpAny_field ho hd (x:=rawInt (-1)) rfl ?_)
  show wpAny _ _ (if (-1:Int) < 0 then _ else _) _ _ s
  rw[if_pos (by decide)]
  refine wpAny_bind (wpAny_rule ?_)
  refine wpAny_bind ?_
  refine wpAny_bind (m:=setField (.ref it) 1 (rawInt (-1))) (wpAny_setField ho hd (by simp) ?_)
  have d2:=Obj.data_mapFields hd (·.setIfInBounds 1 (rawInt (-1)))
  have e2:=Heap.get?_update_self (Obj.mapFields (·.setIfInBounds 1 (rawInt (-1)))) ho (Obj.isFreed_of_fields d2)
  refine wpAny_setField e2 d2 (by simp) ?_
  refine wpAny_bind ?_
  show wpAny _ _ (newExc (.type "StopIteration") [] >>= _) _ _ _
  refine wpAny_bind ?_
  simp only [newExc,newTuple]
  refine wpAny_bind (wpAny_newObj_type ?_ (by size_fits))
  refine wpAny_bind (m:=firstArgMember _ _) (wpAny_of_eq (a:=Value.none) (by first | rfl | (simp only [firstArgMember];rfl)) ?_)
  refine wpAny_newObj_type ?_ (by size_fits)
  simp only [raiseNew]
  refine wpAny_bind (wpAny_handled ?_)
  first | rw[show A.in1.handled=none from hh] | rw[hh]
  refine wpAny_bind (wpAny_pure (wpAny_throw ?_))
  refine wpAny_bind (wpAny_isInstance (T := "StopIteration") (b:=true) ⟨_,Heap.get?_push_size _ rfl,rfl⟩ isSubtype_stop ?_)
  refine wpAny_pure (hQ _ ?_)
  refine Heap.ExtBut.push (Heap.ExtBut.push (fun b o' hb e=>?_) _) _
  rw[Heap.get?_update_other _ _ (Ne.symm hb),Heap.get?_update_other _ _ (Ne.symm hb)]
  exact e
theorem w_ {it l:Addr}{i:Int}{Q:Value->Shared->Prop}(hit:s.heap.iR it l i)(h:Q (.ref it) s): wpAny (model prog w) A (pyIter (.ref it)) Q E s:=by
  refine wpAny_pyIter_slot hit.typeIs F.nL (wpAny_call_entry F.nL hit.typeIs F.tX ?_ (F.rW _))
  show wpAny _ _ (ret (.ref it)) _ _ s
  exact wpAny_pure ⟨_,rfl, "reversed",_,hit.typeIs,F.d9.lookup,h⟩
end
namespace F
theorem Dr:typeLookup (.type "list_reverseiterator") "__len__" = pure none:=by rw[typeLookup_type,builtinLookup_eq_fast];kernel_rfl
theorem E2:typeLookup (.type "list_reverseiterator") "__length_hint__" = pure (some (.builtin "list_reverseiterator.__length_hint__")):=by rw[typeLookup_type,builtinLookup_eq_fast];kernel_rfl
end F
section
open Sem (wp)
variable {prog:Program}{w:World}{A:Around}{s:Shared}{R:Result->Shared->Prop}
variable {I:Addr}{fp wr:List Addr}{G:Array GenState->Array GenState->Prop}{n:Nat}{P:Nat->Value->Prop}{St:Nat->Shared->Prop}
end
section
variable {prog:Program}{w:World}{A:Around}{E:Value->Shared->Prop}{s:Shared}
variable {I:Addr}{fp wr:List Addr}{G:Array GenState->Array GenState->Prop}{n:Nat}{P:Nat->Value->Prop}{St:Nat->Shared->Prop}
theorem zv {Q:List Value->Shared->Prop} (W:WalksS prog w A.in1 I fp wr G n P St) (hT:∀i s,St i s->s.TypeIs (.ref I) "list_reverseiterator") (hst:St 0 s) (hfp:∀b∈fp,b < s.heap.objs.size) (hI:I∈fp)
    (hQ:∀s' acc,Moved wr G s s'->ItemsOf P acc n->Q acc.toList s') (hn:n<=sizeLine):wpAny (model prog w) A (collect (.ref I)) Q E s:=by
  have hSf:s.heap.objs.size∉fp:=fun hm=>Nat.lt_irrefl _ (hfp _ hm)
  unfold collect
  refine wpAny_bind (wpAny_runValue (codeAny_builtin F.entry_proto_collect ?_))
  rw[Around.under_plainId F.plain_proto_collect _]
  show wpAny _ A.in1 (newList [] >>= fun l=>again (.builtin "list.__iadd__" ⟨[l,.ref I],[]⟩)) _ _ s
  refine wpAny_bind (wpAny_newObj_type ?_)
  refine wpAny_pure ⟨plainId_quiet F.plain_list_iadd _,codeAny_builtin F.entry_list_iadd ?_⟩
  rw[Around.under_plainId F.plain_list_iadd _]
  have hst₁:=W.frame 0 s (s.heap.push { cls:=.type "list",data:=.seq ([]:List Value).toArray }) s.toks hst (Nat.le_refl _) fun b _ o e=>Heap.get?_push_of_some _ e
  have hS₁:(s.heap.push { cls:=.type "list",data:=.seq ([]:List Value).toArray }).get? s.heap.objs.size=some { cls:=.type "list",data:=.seq ([]:List Value).toArray }:=Heap.get?_push_size _ rfl
  show wpAny _ A.in1 (Builtin.List.listExtendWith (.ref s.heap.objs.size) (.ref I) (.ref s.heap.objs.size)) _ _ _
  have hSI:s.heap.objs.size≠I:=fun e=>hSf (e ▸ hI)
  have h1:Builtin.List.listSameRef (.ref s.heap.objs.size) (.ref I)=false:=by simp[Builtin.List.listSameRef,hSI]
  unfold Builtin.List.listExtendWith
  refine wpAny_bind (wpAny_typeOf (hT 0 _ hst₁) ?_)
  rw[if_neg (by rw[h1];decide)]
  refine wpAny_bind (W.self 0 _ _ _ hst₁ ?_)
  refine wpAny_bind (wpAny_holding ?_)
  unfold Builtin.List.listLengthHint
  refine wpAny_bind (wpAny_specialOf (hT 0 _ hst₁) F.Dr ?_)
  show wpAny _ A.in1 (specialOf (Value.ref I) (Str.ofString "__length_hint__") >>= _) _ _ _
  refine wpAny_bind (wpAny_specialOf (hT 0 _ hst₁) F.E2 ?_)
  generalize hid:("list_reverseiterator.__length_hint__" : String)=id0
  wp_delta
  rw[show splitId id0=some ("list_reverseiterator", "__length_hint__") from by subst hid;decide +kernel]
  subst hid
  refine wpAny_bind (wpAny_isInstance (b:=true) (hT 0 _ hst₁) (by rw[isSubtype_type];kernel_rfl) ?_)
  refine wpAny_pure ?_
  rw[if_neg (by decide)]
  refine wpAny_pure ⟨plainId_quiet F.plain_extend_loop _,codeAny_extend_loopS W hn _ hSf _ n 0 _ _ _ rfl (Nat.zero_le _) hst₁ hS₁ (ItemsOf.nil P) fun s' acc' c' hm hS' hacc=>?_⟩
  show wpAny _ A (load s.heap.objs.size >>= _) _ _ s'
  refine wpAny_bind (wpAny_load hS' ?_)
  exact wpAny_pure (hQ s' acc' (Moved.drop_new (o:={ cls:=.type "list",data:=.seq ([]:List Value).toArray }) (tk:=s.toks) hm (Nat.le_refl _)) hacc)
theorem n6 {Q₁:Value->Shared->Prop} (W:WalksS prog w A.in1.in1 I fp wr G n P St) (hT:∀i s,St i s->s.TypeIs (.ref I) "list_reverseiterator") (hst:St 0 s) (hfp:∀b∈fp,b < s.heap.objs.size) (hI:I∈fp)
    (h:∀s' acc,Moved wr G s s'->ItemsOf P acc n->Q₁ (.ref s'.heap.objs.size) { s' with heap:=s'.heap.push { cls:=.type "tuple",data:=.seq acc } }) (hsz:n<=sizeLine) :
    codeAny (model prog w) A (.call (.builtin "tuple.__new__") ⟨[.type "tuple",.ref I],[]⟩) (wants Q₁ E) s:=by
  refine codeAny_of_tree ?_
  show wpAny _ A.in1 (do checkBuiltinCall "tuple.__new__" ⟨[.type "tuple",.ref I],[]⟩;again (.builtin "tuple.__new__" ⟨[.type "tuple",.ref I],[]⟩)) _ _ s
  refine wpAny_bind (wpAny_of_eq (F.newCall_tuple_1 _) (wpAny_pure ⟨plainId_quiet F.plain_tuple_new _,codeAny_builtin F.entry_tuple_new ?_⟩))
  rw[Around.under_plainId F.plain_tuple_new _]
  have hsub:=sub_tuple_self
  have hinit:=init_tuple_lookup
  have hmh:=madeHere_tuple
  have hTI:=hT 0 s hst
  wp_walk using wpAny_typeOf hTI,zv (hn:=hsz) W hT hst hfp hI
  intro s' acc hm hacc
  show wpAny _ _ (Builtin.Tuple.tupleExact acc.toList.toArray >>= fun v=>ret v) _ _ _
  unfold Builtin.Tuple.tupleExact
  refine wpAny_bind (wpAny_newObj_type ?_ (by show acc.toList.toArray.size<=sizeLine;simp only [Array.toArray_toList];rw[hacc.1];exact hsz))
  refine wpAny_pure ?_
  have e:acc.toList.toArray=acc:=by simp
  rw[e]
  exact h s' acc hm hacc
theorem tZ {Q:Value->Shared->Prop} (W:WalksS prog w A.in1.in1.in1 I fp wr G n P St) (hT:∀i s,St i s->s.TypeIs (.ref I) "list_reverseiterator") (hst:St 0 s) (hfp:∀b∈fp,b < s.heap.objs.size) (hI:I∈fp)
    (hQ:∀s' acc,Moved wr G s s'->ItemsOf P acc n->Q (.ref s'.heap.objs.size) { s' with heap:=s'.heap.push { cls:=.type "tuple",data:=.seq acc } }) (hsz:n<=sizeLine) :
    wpAny (model prog w) A (call (.type "tuple") [.ref I]) Q E s:=by
  refine callType_codes (Q₁:=fun obj s₁=>s₁.TypeIs obj "tuple" ∧ Q obj s₁) F.called_tuple (F.typeCall_tuple_1 _) F.entry_object_init
    (n6 W hT hst hfp hI (fun s' acc hm hacc=>⟨⟨_,Heap.get?_push_size _ rfl,rfl⟩,hQ s' acc hm hacc⟩) hsz) fun obj s₁ h₁=>?_
  exact⟨h₁.1,F.args_object_init_2 obj _,object_init_meets F.called_tuple.init.lookup F.called_tuple.made (by decide) prog w A.in1 _ s₁ ⟨h₁.1,rfl,h₁.2⟩⟩
end
end PySem

set_option maxHeartbeats 4000000
namespace L2
open PySem PySem.Spec PyProof.Rows
def Ds (K:W.Frag)(a:Addr)(n:Nat): It :=
  ⟨fun i H=>i < n/\∃xs,SqT K H a xs/\xs.length=n,fun i H x H'=>H'=H/\∀xs,SqT K H a xs->xs[n-1-i]?=some x,fun i _=>i=n⟩
theorem zx {P:Program}{w:World}{K:W.Frag}{tg:Expr}(a it:Addr)(n:Nat): Turn P w K tg (Ds K a n) [it] it (fun i h=>h.iR it a ((n:Int)-1-(i:Int))) where
  mem:=by simp
  obj:=fun i h st b hb=>by
    have e:b=it:=by simpa using hb
    subst e
    obtain⟨o,e,c,d⟩:=st
    exact⟨o,e,fun v z=>by rw[d] at z;cases z⟩
  keep:=fun i h h' st k=>st.at fun o e=>k it (by simp) o e
  item:=by
    intro X hP hw hK hc i pins s σ H E I hf st hg
    subst hP hw hK
    obtain⟨hi,xs,hq,hl⟩:=hg
    obtain⟨its,rv,p,hz⟩:=I.tuple hq
    have hx:xs[n-1-i]?=some (xs[n-1-i]'(by omega)):=List.getElem?_eq_getElem (by omega)
    obtain⟨u,hu,ru⟩:=rv.get hx
    obtain⟨f0,f1,f2,f3,f4,f5⟩:=hf it (by simp)
    have e1:(n:Int)-1-(i:Int)=((n-1-i:Nat):Int):=by omega
    rw[e1] at st
    have hlen:=rv.length
    refine tY st p (x:=u) (by simpa using hu) (by rw[sizeLine_eq] at hz;simp only [List.size_toArray];omega) fun h' tk st' sb=>?_
    have e2:((n-1-i:Nat):Int)-1=(n:Int)-1-((i+1:Nat):Int):=by omega
    rw[e2] at st'
    have I1:Inv X pins σ H { s with heap:=h',toks:=tk }:=I.turned (t':=tk) (fun b o hb e=>(sb.2 b hb).trans e) f0 f1 f3 f4 f5
    obtain⟨o,e,c,d⟩:=id st'
    exact⟨u,rfl,wH (s:={ s with heap:=h',toks:=tk }) e c d (by decide) ⟨_,H,I1,ru,⟨rfl,fun ys hy=>by rw[I.p6 hy hq];exact hx⟩,st',fun b hb=>(hf b hb).1⟩⟩
  done:=by
    intro X hP hw hK hc i pins s σ H E I hf st hg
    subst hP hw hK
    have hg:i=n:=hg
    subst hg
    obtain⟨f0,f1,f2,f3,f4,f5⟩:=hf it (by simp)
    have e1:(i:Int)-1-(i:Int)=-1:=by omega
    rw[e1] at st
    exact vE (I.ok.hd hc) st fun h' eb=>⟨rfl,I.turned (t':=s.toks) (fun b o hb e=>eb b o hb e) f0 f1 f3 f4 f5⟩
  self:=fun _ _ _ _ _ st h=>w_ st h
theorem E3 {K:W.Frag}{a:Addr}{xs:List V}{g:TG}{tb:TS}{D:Ends}{σ:St}{H:Hp}(Pv:Nat->St->Hp->Prop)(h0:Pv 0 σ H)(hl:∀i σ H,i<=xs.length->Pv i σ H->SqT K H a xs)
    (hs:∀i x σ H,xs.reverse[i]?=some x->Pv i σ H->g x σ H fun σ2 H2=>tb { D with nx:=Pv (i+1),ct:=Pv (i+1),bk:=D.nx } σ2 H2) (hd:∀σ H,Pv xs.length σ H->D.nx σ H) :
    ∃W:Nat->Nat->St->Hp->Prop,(∃m,W 0 m σ H)/\∀i m σ H,W i m σ H ->
      ((Ds K a xs.length).stop i H/\D.nx σ H)\/((Ds K a xs.length).go i H/\∃N:St->Hp->Prop,(∀σ' H',N σ' H'->∃m',m' < m/\W (i+1) m' σ' H')/\∀x H',(Ds K a xs.length).yld i H x H'->g x σ H' fun σ2 H2=>tb { D with nx:=N,ct:=N,bk:=D.nx } σ2 H2):=by
  refine⟨fun i m σ H=>m=xs.length-i/\i<=xs.length/\Pv i σ H,⟨xs.length,by simp,Nat.zero_le _,h0⟩,?_⟩
  rintro i m σ H ⟨rfl,hi,p⟩
  have q:=hl i σ H hi p
  by_cases hlt:i < xs.length
  · refine .inr ⟨⟨hlt,xs,q,rfl⟩,Pv (i+1),fun σ' H' p'=>⟨xs.length-(i+1),by omega,rfl,hlt,p'⟩,fun x H' y=>?_⟩
    obtain⟨e,y⟩:=y
    subst e
    exact hs i x σ _ (by rw[List.getElem?_reverse hlt];exact y xs q) p
  · have e:i=xs.length:=by omega
    subst e
    exact .inl ⟨rfl,hd σ H p⟩
section
variable {X:Cx}{tg l:Expr}{tl:TE}{p pos:Pos}
def Ju (K:W.Frag)(tl:TE): TI:=fun σ H R=>tl σ H fun x H1=>∃a xs,x=.ref a/\SqT K H1 a xs/\R (Ds K a xs.length) H1
theorem GH (hg:Gl X "reversed") (hm:X.mg "reversed" = none) (hl:PE X l tl) (hs:starEach [l] X.env=[(false,eval l X.env)]:=by rfl):PI X tg (.Call (.Name "reversed" p) [l] [] pos) (Ju X.K tl):=by
  intro pins s σ H R I h
  refine Call_ (iM I hg hm PyProof.Rows.Boot.«reversed» (PyProof.Rows.callWith_type1 (thn (oQ hl aj hs pos pins s σ H (fun vs H1=>match vs with | [x]=>∃a xs,x=.ref a/\SqT X.K H1 a xs/\R (Ds X.K a xs.length) H1 | _=>False) I h) fun us s1 ⟨vs,H1,I1,r1,q1⟩=>?_) hs rfl))
  match vs,q1 with
  | [x],q1 =>
    obtain⟨a,xs,rfl,hq,q⟩:=q1
    obtain⟨u,rfl,ru⟩:=vals1 r1
    cases ru
    obtain⟨its,rv,pl,hz⟩:=I1.tuple hq
    have hlen:=rv.length
    refine o8 pl (by rw[sizeLine_eq] at hz;simp only [List.size_toArray];omega) fun tk=>?_
    have it0:(s1.heap.push (tf a ((its.toArray.size:Int)-1))).iR s1.heap.objs.size a ((xs.length:Int)-1-((0:Nat):Int)):=⟨_,Heap.get?_push_size _ rfl,rfl,by
      show Data.fields #[.ref a,rawInt ((its.toArray.size:Int)-1)]=_
      rw[List.size_toArray,<-hlen]
      simp⟩
    refine w_ (s:={ s1 with heap:=s1.heap.push (tf a ((its.toArray.size:Int)-1)),toks:=tk }) it0 ?_
    refine⟨s1.heap.objs.size,[s1.heap.objs.size],_,_,H1,rfl,I1.kept (t':=tk) fun b o e=>Heap.get?_push_of_some _ e,zx a _ xs.length,it0,fun b hb=>?_,q⟩
    have e:b=s1.heap.objs.size:=by simpa using hb
    subst e
    exact I1.rS (Nat.le_refl _) (I1.hok.fresh (Nat.le_refl _))
def GI (K:W.Frag)(tl:TE): TE:=fun σ H Q=>tl σ H fun x H1=>∃a xs,x=.ref a/\SqL K H1 a xs/\∀t,H1 t=none->Q (.ref t) (upd H1 t (.tup xs.reverse))
theorem zy:∀{xs:List V} {us:List Value},Vals xs us->Vals xs.reverse us.reverse
  | [],_,r=>by cases r;exact .nil
  | x::xs,_,r=>by
    cases r with
    | cons r1 r2 =>
      rw[List.reverse_cons,List.reverse_cons]
      exact(zy r2).append (.cons r1 .nil)
theorem Dt {xs:List V}{its:List Value}(rv:Vals xs its){acc:Array Value}(h:ItemsOf (fun i v=>its.toArray[its.toArray.size-1-i]?=some v) acc its.toArray.size): Vals xs.reverse acc.toList:=by
  have e:acc.toList=its.reverse:=by
    refine List.ext_getElem? fun i=>?_
    by_cases hi:i < its.length
    · have hs:acc.size=its.toArray.size:=h.1
      have hi':i < acc.size:=by rw[hs];simpa using hi
      have:=h.2 i acc[i] (by simp[hi'])
      rw[Array.getElem?_toList,Array.getElem?_eq_getElem hi',List.getElem?_reverse hi]
      simp only [List.size_toArray,List.getElem?_toArray] at this
      exact this.symm
    · have hs:acc.size=its.toArray.size:=h.1
      have:acc.toList.length<=i:=by rw[Array.length_toList,hs];simpa using hi
      rw[List.getElem?_eq_none this,List.getElem?_eq_none (by simpa using hi)]
  rw[e]
  exact zy rv
theorem GJ {pins:List (Addr×Obj)} {σ:St} {H:Hp} {s:Shared} {Q:VK} {p2 pos2:Pos} {mk:List V->HO} (hg:Gl X "reversed") (hm:X.mg "reversed" = none) (hl:PE X l tl) (hs:starEach [l] X.env=[(false,eval l X.env)]) (I:Inv X pins σ H s)
    (h:tl σ H fun x H1=>∃a xs,x=.ref a/\SqL X.K H1 a xs/\∀t,H1 t=none->Q (.ref t) (upd H1 t (mk xs.reverse))) {R:Value->Shared->Prop}
    (hR:∀(s1:Shared) (H1:Hp) (a:Addr) (xs:List V) (its:List Value),Inv X pins σ H1 s1->Vals xs its->PlainL s1.heap a its.toArray->xs.length<=sizeLine->(∀t,H1 t=none->Q (.ref t) (upd H1 t (mk xs.reverse))) ->
      R (.ref s1.heap.objs.size) { s1 with heap:=s1.heap.push (revObj a ((its.toArray.size:Int)-1)) }) :
    wpAny (model X.prog X.w) X.A (eval (.Call (.Name "reversed" p2) [l] [] pos2) X.env) R X.xe s:=by
  refine Call_ (iM I hg hm PyProof.Rows.Boot.«reversed» (PyProof.Rows.callWith_type1 (thn (oQ hl aj hs pos2 pins s σ H (fun vs H1=>match vs with | [x]=>∃a xs,x=.ref a/\SqL X.K H1 a xs/\∀t,H1 t=none->Q (.ref t) (upd H1 t (mk xs.reverse)) | _=>False) I h) fun us s1 ⟨vs,H1,I1,r1,q1⟩=>?_) hs rfl))
  match vs,q1 with
  | [x],q1 =>
    obtain⟨a,xs,rfl,hq,q⟩:=q1
    obtain⟨u,rfl,ru⟩:=vals1 r1
    cases ru
    obtain⟨its,rv,pl,hz⟩:=I1.list hq
    exact call_reversed_list pl.isList (hR s1 H1 a xs its I1 rv pl hz q)
theorem xT {p2 pos2:Pos} (hc:X.calm=true) (hg1:Gl X "tuple") (hm1:X.mg "tuple" = none) (hg:Gl X "reversed") (hm:X.mg "reversed" = none) (hl:PE X l tl) (hs:starEach [l] X.env=[(false,eval l X.env)]:=by rfl)
    (hs2:starEach [.Call (.Name "reversed" p2) [l] [] pos2] X.env=[(false,eval (.Call (.Name "reversed" p2) [l] [] pos2) X.env)]:=by rfl) :
    PE X (.Call (.Name "tuple" p) [.Call (.Name "reversed" p2) [l] [] pos2] [] pos) (GI X.K tl):=by
  intro pins s σ H Q I h
  refine Call_ (iM I hg1 hm1 PyProof.Rows.Boot.«tuple» (PyProof.Rows.callWith_type1 ?_ hs2 rfl))
  rw[hs2]
  show wpAny _ _ (spliced ((false,eval (.Call (.Name "reversed" p2) [l] [] pos2) X.env)::backTo pos [])) _ _ s
  refine Calls.spliced_cons (GJ (mk:=.tup) hg hm hl hs I h fun s1 H1 a xs its I1 rv pl hz q=>Calls.spliced_nil ?_)
  have hlen:=rv.length
  have hlt:a < s1.heap.objs.size:=by obtain⟨_,e,_⟩:=id pl.isList;exact Heap.lt_size e
  have fp:=I1.rS (H':=H1) (Nat.le_refl _) (I1.hok.fresh (Nat.le_refl _))
  obtain⟨f0,f1,f2,f3,f4,f5⟩:=fp
  have I2:Inv X pins σ H1 { s1 with heap:=s1.heap.push (revObj a ((its.toArray.size:Int)-1)) }:=I1.kept (t':=s1.toks) fun b o e=>Heap.get?_push_of_some _ e
  have hsz:(s1.heap.push (revObj a ((its.toArray.size:Int)-1))).objs.size=s1.heap.objs.size+1:=Array.size_push _
  refine tZ (Walks.listRev (A:=X.A.in1.in1.in1) (I1.ok.hd hc) s1.heap.objs.size a (Nat.ne_of_lt hlt) its.toArray).toS (fun i s st=>st.2.1.typeIs) ⟨Nat.zero_le _,⟨_,Heap.get?_push_size _ rfl,rfl,by simp[revObj]⟩,pl.isList.push _⟩ (fun b hb=>?_) (by simp) (fun s' acc hm hacc=>?_) (by rw[List.size_toArray,<-hlen];exact hz)
  · rcases List.mem_cons.mp hb with e | hb
    · rw[e,hsz];exact Nat.lt_succ_self _
    · rw[List.mem_singleton.mp hb,hsz];exact Nat.lt_succ_of_lt hlt
  · rw[Moved.eq_with hm]
    have kp:∀b o,b≠s1.heap.objs.size->(s1.heap.push (revObj a ((its.toArray.size:Int)-1))).get? b=some o->s'.heap.get? b=some o:=fun b o nb e=>hm.heap b o (fun z=>nb (List.mem_singleton.mp z)) e
    have I3:Inv X pins σ H1 { s1 with heap:=s'.heap,toks:=s'.toks }:=I2.turned (t':=s'.toks) kp f0 f1 f3 f4 f5
    have I4:Inv X pins σ (upd H1 s'.heap.objs.size (.tup xs.reverse)) { s1 with heap:=s'.heap.push { cls:=.type "tuple",data:=.seq acc },toks:=s'.toks }:=I3.laid (t':=s'.toks) (fun b o e=>Heap.get?_push_of_some _ e) (Nat.le_refl _)
      (show b4 X.prog X.w _ _ _ (.tup xs.reverse) from ⟨by rw[List.length_reverse];exact hz,acc.toList,Dt rv hacc,by rw[Array.toArray_toList];exact IsTup.new _ _⟩)
    exact⟨.ref _,_,I4,rfl,q _ (I3.hok.fresh (Nat.le_refl _))⟩
end
end L2

set_option maxHeartbeats 4000000
namespace L2
open PySem PySem.Spec PyProof.Rows
end L2

set_option maxHeartbeats 4000000
namespace L2
open PySem PySem.Spec PyProof.Rows
def Itd (lo:Int)(n:Nat): It:=⟨fun i _=>i < n,fun i H x H'=>x=.int (lo-(i:Int))/\H'=H,fun i _=>n<=i⟩
theorem Du {P:Program}{w:World}{K:W.Frag}{tg:Expr}(it:Addr)(lo:Int)(n:Nat): Turn P w K tg (Itd lo n) [it] it (fun i h=>IsRangeIter h it (lo+(i:Nat)*(-1)) ((n:Int)-(i:Nat)) (-1)) where
  mem:=by simp
  obj:=fun i h st b hb=>by
    have e:b=it:=by simpa using hb
    subst e
    exact⟨_,st,fun v z=>by
      have z':Data.fields _=Data.cell v:=z
      cases z'⟩
  keep:=fun i h h' st k=>k it (by simp) _ st
  item:=by
    intro X hP hw hK hc i pins s σ H E I hf st hg
    subst hP hw hK
    obtain⟨f0,f1,f2,f3,f4,f5⟩:=hf it (by simp)
    have W:=Walks.range (prog:=X.prog) (w:=X.w) (I.ok.hd hc) it lo (-1) n
    refine W.item i s _ _ hg st fun v h' tk hv st' kk=>?_
    obtain⟨t,rfl⟩:=hv
    have I1:Inv X pins σ H { s with heap:=h',toks:=tk }:=I.turned (fun b o hb e=>kk b o (by simpa using hb) e) f0 f1 f3 f4 f5
    refine⟨_,rfl,wH (s:={ s with heap:=h',toks:=tk }) (n := "range_iterator") st' rfl rfl (by decide) ⟨.int (lo-i),H,I1,⟨t,?_⟩,⟨rfl,rfl⟩,st',fun b hb=>(hf b hb).1⟩⟩
    rw[Int.mul_neg,Int.mul_one,<-Int.sub_eq_add_neg]
  done:=by
    intro X hP hw hK hc i pins s σ H E I hf st hg
    subst hP hw hK
    obtain⟨f0,f1,f2,f3,f4,f5⟩:=hf it (by simp)
    exact wpAny_pyNext_range_end (I.ok.hd hc) st (by have:n<=i:=hg;omega) fun h' eb=>⟨rfl,I.turned (t':=s.toks) (fun b o hb e=>eb b o hb e) f0 f1 f3 f4 f5⟩
  self:=fun _ _ _ _ _ st h=>wpAny_pyIter_rangeiter st h
theorem xc (lo hi:Int): Builtin.Range.rangeSize lo hi (-1)=(((lo-hi).toNat:Nat):Int):=by
  unfold Builtin.Range.rangeSize
  have:(-(-1:Int))=1:=rfl
  rw[if_neg (by decide),this,Int.ediv_one]
  split<;>omega
section
variable {X:Cx}{tg:Expr}
theorem small_down {lo hi:Int}(h1:-(2^60)<=lo)(h2:lo < 2^60)(h3:-(2^60)<=hi)(h4:hi < 2^60): Builtin.Range.small lo hi (-1)=true:=by
  unfold Builtin.Range.small
  rw[xc]
  unfold Builtin.Range.rangeFitsLong
  simp
  omega
theorem AZ {pins:List (Addr×Obj)}{σ:St}{H:Hp}{s:Shared}{R:It->Hp->Prop}{E:Value->Shared->Prop}{lo hi:Int}{t u v:Tok}{tk:Nat}(I:Inv X pins σ H s)(h1:-(2^60)<=lo)(h2:lo < 2^60)(h3:-(2^60)<=hi)(h4:hi < 2^60)
    (q:R (Itd lo (lo-hi).toNat) H):wpAny (model X.prog X.w) X.A (pyIter (.ref s.heap.objs.size)) (PIE X pins σ tg R) E { s with heap:=s.heap.push { cls:=.type "range",data:=.fields #[.int lo t,.int hi u,.int (-1) v] },toks:=tk }:=by
  refine wpAny_pyIter_range (IsRange.new ..) (small_down h1 h2 h3 h4) ?_
  have I1:Inv X pins σ H { s with heap:=s.heap.push { cls:=.type "range",data:=.fields #[.int lo t,.int hi u,.int (-1) v] },toks:=tk }:=I.kept fun b o e=>Heap.get?_push_of_some _ e
  refine⟨(s.heap.push { cls:=.type "range",data:=.fields #[.int lo t,.int hi u,.int (-1) v] }).objs.size,[(s.heap.push { cls:=.type "range",data:=.fields #[.int lo t,.int hi u,.int (-1) v] }).objs.size],_,_,H,rfl,
    I1.kept (t':=tk) fun b o e=>Heap.get?_push_of_some _ e,Du _ lo (lo-hi).toNat,?_,fun b hb=>?_,q⟩
  · have e1:lo+((0:Nat):Int)*(-1)=lo:=by simp
    have e2:(((lo-hi).toNat:Nat):Int)-((0:Nat):Int)=Builtin.Range.rangeSize lo hi (-1):=by rw[xc];omega
    show IsRangeIter _ _ (lo+((0:Nat):Int)*(-1)) ((((lo-hi).toNat:Nat):Int)-((0:Nat):Int)) (-1)
    rw[e1,e2]
    exact Heap.get?_push_size _ rfl
  · have e:b=(s.heap.push { cls:=.type "range",data:=.fields #[.int lo t,.int hi u,.int (-1) v] }).objs.size:=by simpa using hb
    subst e
    exact I1.rS (Nat.le_refl _) (I1.hok.fresh (Nat.le_refl _))
def Jv (ta:TA): TI:=fun σ H R=>ta σ H fun vs H1=>∃i j:Int,vs=[.int i,.int j,.int (-1)]/\(-(2^60)<=i/\i < 2^60/\-(2^60)<=j/\j < 2^60)/\R (Itd i (i-j).toNat) H1
theorem Dv {a b c:Expr} {ta:TA} {p pos:Pos} (hg:Gl X "range") (hm:X.mg "range" = none) (ha:PA X [a,b,c] ta) (hs:starEach [a,b,c] X.env=[(false,eval a X.env),(false,eval b X.env),(false,eval c X.env)]:=by rfl) (hs2:starEach [b,c] X.env=[(false,eval b X.env),(false,eval c X.env)]:=by rfl) :
    PI X tg (.Call (.Name "range" p) [a,b,c] [] pos) (Jv ta):=by
  intro pins s σ H R I h
  refine Call_ (iM I hg hm boot_range (PyProof.Rows.callWith_type1 (thn (ha pos pins s σ H _ I h) fun us s1 ⟨vs,H1,I1,r1,q1⟩=>?_) (by rw[hs,hs2]) (by rw[hs2];rfl)))
  obtain⟨i,j,e,⟨q1,q2,q3,q4⟩,q⟩:=q1
  subst e
  cases r1 with
  | cons r rr =>
    cases rr with
    | cons r' rr =>
      cases rr with
      | cons r'' rr =>
        cases rr
        obtain⟨t,rfl⟩:=r
        obtain⟨t',rfl⟩:=r'
        obtain⟨t'',rfl⟩:=r''
        exact call_range_3 (by decide) (AZ I1 q1 q2 q3 q4 q) (.inl (by unfold Builtin.divisionGoesByPylong;rfl))
end
theorem E4 {lo:Int}{n:Nat}{g:TG}{tb:TS}{D:Ends}{σ:St}{H:Hp}(Pv:Nat->St->Hp->Prop)(h0:Pv 0 σ H)
    (hs:∀i σ H,i < n->Pv i σ H->g (.int (lo-(i:Int))) σ H fun σ2 H2=>tb { D with nx:=Pv (i+1),ct:=Pv (i+1),bk:=D.nx } σ2 H2) (hd:∀σ H,Pv n σ H->D.nx σ H) :
    ∃W:Nat->Nat->St->Hp->Prop,(∃m,W 0 m σ H)/\∀i m σ H,W i m σ H ->
      ((Itd lo n).stop i H/\D.nx σ H)\/((Itd lo n).go i H/\∃N:St->Hp->Prop,(∀σ' H',N σ' H'->∃m',m' < m/\W (i+1) m' σ' H')/\∀x H',(Itd lo n).yld i H x H'->g x σ H' fun σ2 H2=>tb { D with nx:=N,ct:=N,bk:=D.nx } σ2 H2):=by
  refine⟨fun i m σ H=>m=n-i/\i<=n/\Pv i σ H,⟨n,by simp,Nat.zero_le _,h0⟩,?_⟩
  rintro i m σ H ⟨rfl,hi,p⟩
  by_cases hlt:i < n
  · refine .inr ⟨hlt,Pv (i+1),fun σ' H' p'=>⟨n-(i+1),by omega,rfl,hlt,p'⟩,fun x H' y=>?_⟩
    obtain⟨rfl,rfl⟩:=y
    exact hs i σ _ hlt p
  · have e:i=n:=by omega
    subst e
    exact .inl ⟨Nat.le_refl _,hd σ H p⟩
end L2

set_option maxHeartbeats 4000000
namespace L2
open PySem PySem.Spec PyProof.Rows
section
variable {X:Cx}{pins:List (Addr×Obj)}{σ:St}{H:Hp}{s:Shared}{a:Addr}
end
end L2

set_option maxHeartbeats 4000000
namespace L2
open PySem PySem.Spec PyProof.Rows
section
variable {X:Cx}
end
end L2

set_option maxHeartbeats 4000000
namespace L2
open PySem PySem.Spec PyProof.Rows
section
variable {X:Cx}{tg:Expr}
end
end L2


set_option maxHeartbeats 4000000
namespace PySem
section
variable {prog:Program}{w:World}{A:Around}{E:Value->Shared->Prop}{s:Shared}
theorem rX {it t:Addr}{i:Nat}{items}{x:Value}{Q:Value->Shared->Prop}(hit:s.heap.IsTupleIter it t i)(ht:s.heap.IsTuple t items)(hx:items[i]?=some x)
    (hQ:∀h',h'.IsTupleIter it t (i+1)->Heap.SameBut it s.heap h'->Q x { s with heap:=h' }):wpAny (model prog w) A (Builtin.SmallTypes.nextOf (.ref it)) Q E s:=by
  obtain⟨o,ho,hc,hd⟩:=id hit
  obtain⟨ol,hol,_,nl,hdl⟩:=ht
  unfold Builtin.SmallTypes.nextOf
  refine wpAny_bind (wpAny_callSpecial?_slot (name:=Str.ofString "__next__") hit.typeIs F.slot_tuple_iterator_next
    (wpAny_call_entry F.slot_tuple_iterator_next hit.typeIs F.entry_tuple_iterator_next ?_ (F.args_tuple_iterator_next_1 _)))
  show wpAny _ _ (field (.ref it) 0 >>= _) _ _ s
  refine wpAny_bind (wpAny_field ho hd (x:=.ref t) rfl ?_)
  show wpAny _ _ (if (Value.ref t==Value.none)=true then _ else _) _ _ s
  rw[if_neg (show ¬((Value.ref t==Value.none)=true) from Bool.false_ne_true)]
  show wpAny _ _ (field (.ref it) 1 >>= _) _ _ s
  refine wpAny_bind (wpAny_field ho hd (x:=.int i 0) rfl ?_)
  show wpAny _ _ (seqItems? (.ref t) >>= _) _ _ s
  refine wpAny_bind (wpAny_seqItems hol hdl ?_)
  simp only [Int.toNat_natCast,hx]
  refine wpAny_bind (wpAny_setField ho hd (by simp) (wpAny_pure ⟨x,rfl,wpAny_pure (hQ _ ?_ (Heap.SameBut.update ..))⟩))
  exact⟨_,Heap.get?_update_self _ ho (Obj.isFreed_of_fields (Obj.data_mapFields hd _)),(Obj.cls_mapFields ..).trans hc,by
    rw[Obj.data_mapFields hd];simp[rawInt]⟩
theorem t9 {it t:Addr}{i:Nat}{items}{Q:Value->Shared->Prop}(hh:A.handled=none)(hit:s.heap.IsTupleIter it t i)(ht:s.heap.IsTuple t items)(hx:items[i]?=none)
    (hE:∀h' e,Heap.ExtBut it s.heap h'->(∃o,h'.get? e=some o/\o.cls=.type "StopIteration")->E (.ref e) { s with heap:=h' }):wpAny (model prog w) A (Builtin.SmallTypes.nextOf (.ref it)) Q E s:=by
  obtain⟨o,ho,hc,hd⟩:=id hit
  obtain⟨ol,hol,_,nl,hdl⟩:=ht
  unfold Builtin.SmallTypes.nextOf
  refine wpAny_bind (wpAny_callSpecial?_slot (name:=Str.ofString "__next__") hit.typeIs F.slot_tuple_iterator_next
    (wpAny_call_entry F.slot_tuple_iterator_next hit.typeIs F.entry_tuple_iterator_next ?_ (F.args_tuple_iterator_next_1 _)))
  show wpAny _ _ (field (.ref it) 0 >>= _) _ _ s
  refine wpAny_bind (wpAny_field ho hd (x:=.ref t) rfl ?_)
  show wpAny _ _ (if (Value.ref t==Value.none)=true then _ else _) _ _ s
  rw[if_neg (show ¬((Value.ref t==Value.none)=true) from Bool.false_ne_true)]
  show wpAny _ _ (field (.ref it) 1 >>= _) _ _ s
  refine wpAny_bind (wpAny_field ho hd (x:=.int i 0) rfl ?_)
  show wpAny _ _ (seqItems? (.ref t) >>= _) _ _ s
  refine wpAny_bind (wpAny_seqItems hol hdl ?_)
  simp only [Int.toNat_natCast,hx]
  refine wpAny_bind (wpAny_rule (wpAny_bind (wpAny_setField ho hd (by simp) ?_)))
  show wpAny _ _ (newExc (.type "StopIteration") [] >>= _) _ _ _
  refine wpAny_bind ?_
  simp only [newExc,newTuple]
  refine wpAny_bind (wpAny_newObj_type ?_ (by size_fits))
  refine wpAny_bind (m:=firstArgMember _ _) (wpAny_of_eq (a:=Value.none) (by first | rfl | (simp only [firstArgMember];rfl)) ?_)
  refine wpAny_newObj_type ?_ (by size_fits)
  simp only [raiseNew]
  refine wpAny_bind (wpAny_handled ?_)
  first | rw[show A.in1.handled=none from hh] | rw[hh]
  refine wpAny_bind (wpAny_pure (wpAny_throw ?_))
  exact hE _ _ (((Heap.SameBut.update ..).extBut.push _).push _) ⟨_,Heap.get?_push_size _ rfl,rfl⟩
end
structure n8 (prog:Program)(w:World)(i l:Addr)(xs:Array Value)(P:Nat->Heap->Prop): Prop where
  item:∀(A:Around) (E:Value->Shared->Prop) (s:Shared) (k:Nat) (x:Value) (Q:Value->Shared->Prop),P k s.heap->xs[k]?=some x->(∀h',P (k+1) h'->Heap.SameBut i s.heap h'->Q x { s with heap:=h' })->wpAny (model prog w) A (Builtin.SmallTypes.nextOf (.ref i)) Q E s
  stop:∀(A:Around) (E:Value->Shared->Prop) (s:Shared) (k:Nat) (Q:Value->Shared->Prop),A.handled=none->P k s.heap->xs[k]?=none ->
    (∀h' e,Heap.ExtBut i s.heap h'->(∃o,h'.get? e=some o/\o.cls=.type "StopIteration")->E (.ref e) { s with heap:=h' })->wpAny (model prog w) A (Builtin.SmallTypes.nextOf (.ref i)) Q E s
  keep:∀k h h',P k h->(∀b,b=i\/b=l->∀o,h.get? b=some o->h'.get? b=some o)->P k h'
  at_:∀k h,P k h->∃o,h.get? i=some o
theorem n8.list {prog:Program}{w:World}{i l:Addr}(ne:l≠i)(xs:Array Value): n8 prog w i l xs fun k h=>h.IsListIter i l k/\h.IsList l xs where
  item:=fun A E s k x Q p hx q=>wpAny_nextOf_list_item p.1 p.2 hx fun h' hit sb=>q h' ⟨hit,p.2.extBut sb.extBut ne⟩ sb
  stop:=fun A E s k Q hh p hx q=>wpAny_nextOf_list_end hh p.1 p.2 hx q
  keep:=fun k h h' p q=>⟨p.1.at fun o e=>q i (.inl rfl) o e,p.2.at fun o e=>q l (.inr rfl) o e⟩
  at_:=fun k h p=>by obtain⟨o,e,_⟩:=p.1;exact⟨o,e⟩
theorem n8.tup {prog:Program}{w:World}{i l:Addr}(ne:l≠i)(xs:Array Value): n8 prog w i l xs fun k h=>h.IsTupleIter i l k/\h.IsTuple l xs where
  item:=fun A E s k x Q p hx q=>rX p.1 p.2 hx fun h' hit sb=>q h' ⟨hit,p.2.extBut sb.extBut ne⟩ sb
  stop:=fun A E s k Q hh p hx q=>t9 hh p.1 p.2 hx q
  keep:=fun k h h' p q=>⟨p.1.at fun o e=>q i (.inl rfl) o e,p.2.at fun o e=>q l (.inr rfl) o e⟩
  at_:=fun k h p=>by obtain⟨o,e,_⟩:=p.1;exact⟨o,e⟩
section
variable {prog:Program}{w:World}{A:Around}{E:Value->Shared->Prop}{s:Shared}{z TI TO i1 i2 l1 l2:Addr}{xs ys:Array Value}{P1 P2:Nat->Heap->Prop}
theorem Dw {k:Nat}{x y a b:Value}{Q:Value->Shared->Prop}(D:ZipApart z TI TO i1 i2 l1 l2)(S1:n8 prog w i1 l1 xs P1)(S2:n8 prog w i2 l2 ys P2)
    (hz:IsZip s.heap z TI TO .none) (hTI:IsPair s.heap TI (.ref i1) (.ref i2)) (hTO:IsPair s.heap TO a b) (h1:P1 k s.heap) (h2:P2 k s.heap) (hx:xs[k]?=some x) (hy:ys[k]?=some y)
    (hQ:∀h',IsZip h' z TI TO (rawInt s.heap.objs.size)->IsPair h' TO x y->P1 (k+1) h'->P2 (k+1) h'->IsPair h' s.heap.objs.size x y->h'.objs.size=s.heap.objs.size+1 ->
      (∀c o,c≠z->c≠TO->c≠i1->c≠i2->s.heap.get? c=some o->h'.get? c=some o)->Q (.ref s.heap.objs.size) { s with heap:=h' }) :
    wpAny (model prog w) A (Builtin.«zip.__next__» ⟨[.ref z],[]⟩) (fun fin s'=>∃v,fin=.done (.ret v)/\Q v s') E s:=by
  have kp1:∀{k h h' c},c≠i1->c≠l1->Heap.ExtBut c h h'->P1 k h->P1 k h':=fun n1 n2 hs p=>S1.keep _ _ _ p fun b hb o e=>hs b o (by rcases hb with rfl | rfl;exact n1.symm;exact n2.symm) e
  have kp2:∀{k h h' c},c≠i2->c≠l2->Heap.ExtBut c h h'->P2 k h->P2 k h':=fun n1 n2 hs p=>S2.keep _ _ _ p fun b hb o e=>hs b o (by rcases hb with rfl | rfl;exact n1.symm;exact n2.symm) e
  show wpAny _ _ (field (.ref z) 2 >>= _) _ _ _
  refine wpAny_bind (wpAny_field hz rfl (x:=.bool false) rfl ?_)
  show wpAny _ _ (field (.ref z) 3 >>= _) _ _ _
  refine wpAny_bind (wpAny_field hz rfl (x:=.ref TI) rfl ?_)
  refine wpAny_bind (wpAny_seqItems hTI rfl ?_)
  show wpAny _ _ (Builtin.SmallTypes.ownedTupleIsFree (.ref z) >>= _) _ _ _
  refine wpAny_bind ?_
  unfold Builtin.SmallTypes.ownedTupleIsFree
  refine wpAny_bind (wpAny_field hz rfl (x:=.none) rfl (wpAny_pure ?_))
  simp only [if_true]
  refine wpAny_bind (wpAny_rule ?_)
  refine wpAny_bind (wpAny_field hz rfl (x:=.ref TO) rfl ?_)
  refine wpAny_bind (wpAny_setField_rec hz (by simp) fun h₁ hz₁ hs₁=>?_)
  replace hz₁:IsZip h₁ z TI TO .ellipsis:=hz₁
  refine wpAny_bind ?_
  simp only [List.zipIdx_cons,List.zipIdx_nil,List.forIn_cons,List.forIn_nil]
  refine wpAny_bind (wpAny_bind (wpAny_onRaise ?_))
  show wpAny _ _ (Builtin.SmallTypes.nextOf (.ref i1) >>= _) _ _ _
  refine wpAny_bind (S1.item _ _ _ k x _ (kp1 D.i1z.symm D.l1z.symm hs₁.extBut h1) hx fun h₂ h1₂ hs₂=>wpAny_pure ?_)
  have hTO₂:IsPair h₂ TO a b:=hs₂.extBut _ _ D.TOi1 (hs₁.extBut _ _ D.TOz hTO)
  refine wpAny_bind (wpAny_seqItems hTO₂ rfl ?_)
  refine wpAny_bind (wpAny_updateSeq_pair hTO₂ fun h₃ hTO₃ hs₃=>?_)
  replace hTO₃:IsPair h₃ TO x b:=hTO₃
  refine wpAny_bind (wpAny_letGo (wpAny_pure ?_))
  refine wpAny_bind (wpAny_bind (wpAny_onRaise ?_))
  show wpAny _ _ (Builtin.SmallTypes.nextOf (.ref i2) >>= _) _ _ _
  refine wpAny_bind (S2.item _ _ _ k y _ (kp2 D.TOi2 D.l2TO.symm hs₃.extBut (kp2 D.i12 D.l2i1.symm hs₂.extBut (kp2 D.i2z.symm D.l2z.symm hs₁.extBut h2))) hy fun h₄ h2₄ hs₄=>wpAny_pure ?_)
  have hTO₄:IsPair h₄ TO x b:=hs₄.extBut _ _ D.TOi2 hTO₃
  refine wpAny_bind (wpAny_seqItems hTO₄ rfl ?_)
  refine wpAny_bind (wpAny_updateSeq_pair hTO₄ fun h₅ hTO₅ hs₅=>?_)
  replace hTO₅:IsPair h₅ TO x y:=hTO₅
  refine wpAny_bind (wpAny_letGo (wpAny_pure (wpAny_pure ?_)))
  refine wpAny_bind (wpAny_seqItems hTO₅ rfl ?_)
  refine wpAny_bind (wpAny_newTuple ?_)
  have hsz:h₅.objs.size=s.heap.objs.size:=by rw[hs₅.1,hs₄.1,hs₃.1,hs₂.1,hs₁.1]
  have hz₅:IsZip h₅ z TI TO .ellipsis:=hs₅.extBut _ _ D.TOz.symm (hs₄.extBut _ _ D.i2z.symm (hs₃.extBut _ _ D.TOz.symm (hs₂.extBut _ _ D.i1z.symm hz₁)))
  have hk₅:∀c o,c≠z->c≠TO->c≠i1->c≠i2->s.heap.get? c=some o->h₅.get? c=some o:=fun c o c1 c2 c3 c4 e =>
    hs₅.extBut _ _ c2 (hs₄.extBut _ _ c4 (hs₃.extBut _ _ c2 (hs₂.extBut _ _ c3 (hs₁.extBut _ _ c1 e))))
  have h1₅:P1 (k+1) h₅:=kp1 D.TOi1 D.l1TO.symm hs₅.extBut (kp1 D.i12.symm D.l1i2.symm hs₄.extBut (kp1 D.TOi1 D.l1TO.symm hs₃.extBut h1₂))
  have h2₅:P2 (k+1) h₅:=kp2 D.TOi2 D.l2TO.symm hs₅.extBut h2₄
  have hzlt:z < h₅.objs.size:=Heap.lt_size hz₅
  show wpAny _ _ (Builtin.SmallTypes.ownedTupleHandOut (.ref z) (.ref h₅.objs.size) >>= _) _ _ _
  refine wpAny_bind ?_
  unfold Builtin.SmallTypes.ownedTupleHandOut
  have hz₆:IsZip (h₅.push { cls:=.type "tuple",data:=.seq #[x,y] }) z TI TO .ellipsis:=Heap.get?_push_of_some _ hz₅
  refine wpAny_bind (wpAny_setField_rec hz₆ (by simp) fun h₇ hz₇ hs₇=>?_)
  replace hz₇:IsZip h₇ z TI TO (rawInt h₅.objs.size):=hz₇
  refine wpAny_setField_rec hz₇ (by simp) fun h₈ hz₈ hs₈=>?_
  replace hz₈:IsZip h₈ z TI TO (rawInt h₅.objs.size):=hz₈
  have up:∀c o,c≠z->h₅.get? c=some o->h₈.get? c=some o:=fun c o c1 e=>hs₈.extBut _ _ c1 (hs₇.extBut _ _ c1 (Heap.get?_push_of_some _ e))
  have hT₈:IsPair h₈ h₅.objs.size x y:=hs₈.extBut _ _ (Nat.ne_of_gt hzlt) (hs₇.extBut _ _ (Nat.ne_of_gt hzlt) (Heap.get?_push_size _ rfl))
  have hz8:h₈.objs.size=h₅.objs.size+1:=by rw[hs₈.1,hs₇.1,Heap.size_push]
  rw[hsz] at hz₈ hT₈ hz8
  refine wpAny_pure ⟨_,rfl,?_⟩
  show Q (.ref h₅.objs.size) _
  rw[hsz]
  exact hQ h₈ hz₈ (up _ _ D.TOz hTO₅) (S1.keep _ _ _ h1₅ fun b hb o e=>up b o (by rcases hb with rfl | rfl;exact D.i1z;exact D.l1z) e) (S2.keep _ _ _ h2₅ fun b hb o e=>up b o (by rcases hb with rfl | rfl;exact D.i2z;exact D.l2z) e) hT₈ hz8 fun c o c1 c2 c3 c4 e=>up c o c1 (hk₅ c o c1 c2 c3 c4 e)
theorem E5 {k:Nat}{a b:Value}{Q:Fin->Shared->Prop}(hh:A.handled=none)(D:ZipApart z TI TO i1 i2 l1 l2)(S1:n8 prog w i1 l1 xs P1)(S2:n8 prog w i2 l2 ys P2)
    (hz:IsZip s.heap z TI TO .none) (hTI:IsPair s.heap TI (.ref i1) (.ref i2)) (hTO:IsPair s.heap TO a b) (h1:P1 k s.heap) (h2:P2 k s.heap) (hend:xs[k]?=none\/ys[k]?=none)
    (hE:∀h' e,(∀c o,c≠z->c≠TO->c≠i1->c≠i2->s.heap.get? c=some o->h'.get? c=some o)->(∃o,h'.get? e=some o/\o.cls=.type "StopIteration")->E (.ref e) { s with heap:=h' }) :
    wpAny (model prog w) A (Builtin.«zip.__next__» ⟨[.ref z],[]⟩) Q E s:=by
  have kp1:∀{k h h' c},c≠i1->c≠l1->Heap.ExtBut c h h'->P1 k h->P1 k h':=fun n1 n2 hs p=>S1.keep _ _ _ p fun b hb o e=>hs b o (by rcases hb with rfl | rfl;exact n1.symm;exact n2.symm) e
  have kp2:∀{k h h' c},c≠i2->c≠l2->Heap.ExtBut c h h'->P2 k h->P2 k h':=fun n1 n2 hs p=>S2.keep _ _ _ p fun b hb o e=>hs b o (by rcases hb with rfl | rfl;exact n1.symm;exact n2.symm) e
  show wpAny _ _ (field (.ref z) 2 >>= _) _ _ _
  refine wpAny_bind (wpAny_field hz rfl (x:=.bool false) rfl ?_)
  show wpAny _ _ (field (.ref z) 3 >>= _) _ _ _
  refine wpAny_bind (wpAny_field hz rfl (x:=.ref TI) rfl ?_)
  refine wpAny_bind (wpAny_seqItems hTI rfl ?_)
  show wpAny _ _ (Builtin.SmallTypes.ownedTupleIsFree (.ref z) >>= _) _ _ _
  refine wpAny_bind ?_
  unfold Builtin.SmallTypes.ownedTupleIsFree
  refine wpAny_bind (wpAny_field hz rfl (x:=.none) rfl (wpAny_pure ?_))
  simp only [if_true]
  refine wpAny_bind (wpAny_rule ?_)
  refine wpAny_bind (wpAny_field hz rfl (x:=.ref TO) rfl ?_)
  refine wpAny_bind (wpAny_setField_rec hz (by simp) fun h₁ hz₁ hs₁=>?_)
  replace hz₁:IsZip h₁ z TI TO .ellipsis:=hz₁
  refine wpAny_bind ?_
  simp only [List.zipIdx_cons,List.zipIdx_nil,List.forIn_cons,List.forIn_nil]
  refine wpAny_bind (wpAny_bind (wpAny_onRaise ?_))
  show wpAny _ _ (Builtin.SmallTypes.nextOf (.ref i1) >>= _) _ _ _
  cases hx:xs[k]? with
  | none =>
    refine wpAny_bind (S1.stop _ _ _ k _ hh (kp1 D.i1z.symm D.l1z.symm hs₁.extBut h1) hx fun h₂ e hs₂ he=>?_)
    obtain⟨oe,hoe,hce⟩:=he
    have hz₂:IsZip h₂ z TI TO .ellipsis:=hs₂ _ _ D.i1z.symm hz₁
    have hez:e≠z:=fun x=>by subst x;rw[hz₂] at hoe;cases hoe;simp at hce
    refine wpAny_setField_rec hz₂ (by simp) fun h₃ _ hs₃=>hE h₃ e (fun c o c1 _ c3 _ x=>hs₃.extBut _ _ c1 (hs₂ _ _ c3 (hs₁.extBut _ _ c1 x))) ⟨oe,hs₃.extBut _ _ hez hoe,hce⟩
  | some x =>
    have hy:ys[k]?=none:=by rcases hend with h | h;rw[hx] at h;cases h;exact h
    refine wpAny_bind (S1.item _ _ _ k x _ (kp1 D.i1z.symm D.l1z.symm hs₁.extBut h1) hx fun h₂ h1₂ hs₂=>wpAny_pure ?_)
    have hTO₂:IsPair h₂ TO a b:=hs₂.extBut _ _ D.TOi1 (hs₁.extBut _ _ D.TOz hTO)
    refine wpAny_bind (wpAny_seqItems hTO₂ rfl ?_)
    refine wpAny_bind (wpAny_updateSeq_pair hTO₂ fun h₃ hTO₃ hs₃=>?_)
    refine wpAny_bind (wpAny_letGo (wpAny_pure ?_))
    refine wpAny_bind (wpAny_bind (wpAny_onRaise ?_))
    show wpAny _ _ (Builtin.SmallTypes.nextOf (.ref i2) >>= _) _ _ _
    refine wpAny_bind (S2.stop _ _ _ k _ hh (kp2 D.TOi2 D.l2TO.symm hs₃.extBut (kp2 D.i12 D.l2i1.symm hs₂.extBut (kp2 D.i2z.symm D.l2z.symm hs₁.extBut h2))) hy fun h₄ e hs₄ he=>?_)
    obtain⟨oe,hoe,hce⟩:=he
    have hz₄:IsZip h₄ z TI TO .ellipsis:=hs₄ _ _ D.i2z.symm (hs₃.extBut _ _ D.TOz.symm (hs₂.extBut _ _ D.i1z.symm hz₁))
    have hez:e≠z:=fun x=>by subst x;rw[hz₄] at hoe;cases hoe;simp at hce
    refine wpAny_setField_rec hz₄ (by simp) fun h₅ _ hs₅=>hE h₅ e (fun c o c1 c2 c3 c4 x=>hs₅.extBut _ _ c1 (hs₄ _ _ c4 (hs₃.extBut _ _ c2 (hs₂.extBut _ _ c3 (hs₁.extBut _ _ c1 x))))) ⟨oe,hs₅.extBut _ _ hez hoe,hce⟩
theorem A0 {k:Nat}{x y a b:Value}{Q:Option Value->Shared->Prop}(D:ZipApart z TI TO i1 i2 l1 l2)(S1:n8 prog w i1 l1 xs P1)(S2:n8 prog w i2 l2 ys P2)
    (hz:IsZip s.heap z TI TO .none) (hTI:IsPair s.heap TI (.ref i1) (.ref i2)) (hTO:IsPair s.heap TO a b) (h1:P1 k s.heap) (h2:P2 k s.heap) (hx:xs[k]?=some x) (hy:ys[k]?=some y)
    (hQ:∀h',IsZip h' z TI TO (rawInt s.heap.objs.size)->IsPair h' TO x y->P1 (k+1) h'->P2 (k+1) h'->IsPair h' s.heap.objs.size x y->h'.objs.size=s.heap.objs.size+1 ->
      (∀c o,c≠z->c≠TO->c≠i1->c≠i2->s.heap.get? c=some o->h'.get? c=some o)->Q (some (.ref s.heap.objs.size)) { s with heap:=h' }) :
    wpAny (model prog w) A (pyNext (.ref z)) Q E s:=by
  have hT:s.TypeIs (.ref z) "zip" := ⟨_,hz,rfl⟩
  unfold pyNext
  exact wpAny_bind (wpAny_attempt (wpAny_callSpecial?_slot (name:=Str.ofString "__next__") hT F.slot_zip_next
    (wpAny_call_entry F.slot_zip_next hT F.entry_zip_next
      (Dw D S1 S2 hz hTI hTO h1 h2 hx hy fun h' a1 a2 a3 a4 a5 a6 a7=>wpAny_pure (hQ h' a1 a2 a3 a4 a5 a6 a7)) (F.args_zip_next_1 _))))
theorem Dx {k:Nat}{a b:Value}{Q:Option Value->Shared->Prop}(hh:A.handled=none)(D:ZipApart z TI TO i1 i2 l1 l2)(S1:n8 prog w i1 l1 xs P1)(S2:n8 prog w i2 l2 ys P2)
    (hz:IsZip s.heap z TI TO .none) (hTI:IsPair s.heap TI (.ref i1) (.ref i2)) (hTO:IsPair s.heap TO a b) (h1:P1 k s.heap) (h2:P2 k s.heap) (hend:xs[k]?=none\/ys[k]?=none)
    (hQ:∀h',(∀c o,c≠z->c≠TO->c≠i1->c≠i2->s.heap.get? c=some o->h'.get? c=some o)->Q none { s with heap:=h' }):wpAny (model prog w) A (pyNext (.ref z)) Q E s:=by
  have hT:s.TypeIs (.ref z) "zip" := ⟨_,hz,rfl⟩
  unfold pyNext
  refine wpAny_bind (wpAny_attempt (wpAny_callSpecial?_slot (name:=Str.ofString "__next__") hT F.slot_zip_next
    (wpAny_call_entry F.slot_zip_next hT F.entry_zip_next (E5 hh D S1 S2 hz hTI hTO h1 h2 hend fun h' e hk he=>?_) (F.args_zip_next_1 _))))
  obtain⟨o,ho,hc⟩:=he
  refine wpAny_bind (wpAny_isInstance (T := "StopIteration") (b:=true) ⟨o,ho,hc⟩ isSubtype_stop ?_)
  exact wpAny_pure (hQ _ hk)
theorem A3 (l1 l2:Addr)(o1 o2:Obj)(C1 C2:Heap->Prop)(k1:∀h o,C1 h->C1 (h.push o))(k2:∀h o,C2 h->C2 (h.push o))
    (it1:∀(prog:Program) (w:World) (A:Around) (E:Value->Shared->Prop) (s:Shared) (Q:Value->Shared->Prop),C1 s.heap->Q (.ref s.heap.objs.size) { s with heap:=s.heap.push o1 }->wpAny (model prog w) A (pyIter (.ref l1)) Q E s)
    (it2:∀(prog:Program) (w:World) (A:Around) (E:Value->Shared->Prop) (s:Shared) (Q:Value->Shared->Prop),C2 s.heap->Q (.ref s.heap.objs.size) { s with heap:=s.heap.push o2 }->wpAny (model prog w) A (pyIter (.ref l2)) Q E s) :
    Meets (Builtin.«zip.__new__» ⟨[.type "zip",.ref l1,.ref l2],[]⟩) (fun _ R s=>C1 s.heap/\C2 s.heap ∧
      R (.ok (.ret (.ref ((((s.heap.push o1).push o2).push { cls:=.type "tuple",data:=.seq #[.ref s.heap.objs.size,.ref (s.heap.push o1).objs.size] }).push { cls:=.type "tuple",data:=.seq #[.none,.none] }).objs.size)))
        { s with heap:=((((s.heap.push o1).push o2).push { cls:=.type "tuple",data:=.seq #[.ref s.heap.objs.size,.ref (s.heap.push o1).objs.size] }).push { cls:=.type "tuple",data:=.seq #[.none,.none] }).push { cls:=.type "zip",data:=.fields #[.none,.bool false,.bool false,.ref ((s.heap.push o1).push o2).objs.size,.ref (((s.heap.push o1).push o2).push { cls:=.type "tuple",data:=.seq #[.ref s.heap.objs.size,.ref (s.heap.push o1).objs.size] }).objs.size] } }) :=
  .of_wp fun prog w A R s h=>by
    obtain⟨hp,g,d,tk,os⟩:=s;obtain⟨c1,c2,h⟩:=h
    have hsub:=sub_zip
    have i1:=fun (A:Around) (E:Value->Shared->Prop) (Q:Value->Shared->Prop)=>it1 prog w A E ⟨hp,g,d,tk,os⟩ Q c1
    have i2:=fun (A:Around) (E:Value->Shared->Prop) (Q:Value->Shared->Prop)=>it2 prog w A E ⟨hp.push o1,g,d,tk,os⟩ Q (k2 _ _ c2)
    wp_walk using i1 _ _ _,i2 _ _ _
    exact⟨_,rfl,h⟩
end
end PySem

set_option maxHeartbeats 4000000
namespace L2
open PySem PySem.Spec PyProof.Rows
def sqB (b:Bool)(K:W.Frag)(H:Hp)(l:Addr)(xs:List V): Prop:=match b with
  | true=>SqT K H l xs
  | false=>SqL K H l xs
def itB (b:Bool)(h:Heap)(i l:Addr)(k:Nat): Prop:=match b with
  | true=>h.IsTupleIter i l k
  | false=>h.IsListIter i l k
def ctB (b:Bool)(h:Heap)(l:Addr)(xs:Array Value): Prop:=match b with
  | true=>h.IsTuple l xs
  | false=>h.IsList l xs
def itO (b:Bool)(l:Addr): Obj:={ cls:=.type (if b then "tuple_iterator" else "list_iterator"),data:=.fields #[.ref l,.int 0 0] }
theorem GK {prog:Program}{w:World}{i l:Addr}(b:Bool)(ne:l≠i)(xs:Array Value): n8 prog w i l xs fun k h=>itB b h i l k/\ctB b h l xs:=by
  cases b
  · exact n8.list ne xs
  · exact n8.tup ne xs
theorem itB.obj {b:Bool}{h:Heap}{i l:Addr}{k:Nat}(x:itB b h i l k): ∃o,h.get? i=some o/\∀v,o.data≠.cell v:=by
  cases b
  · obtain⟨o,e,c,d⟩:=x;exact⟨o,e,fun v z=>by rw[d] at z;cases z⟩
  · obtain⟨o,e,c,d⟩:=x;exact⟨o,e,fun v z=>by rw[d] at z;cases z⟩
theorem itB.at {b:Bool}{h h':Heap}{i l:Addr}{k:Nat}(x:itB b h i l k)(e:∀o,h.get? i=some o->h'.get? i=some o): itB b h' i l k:=by
  cases b
  · exact Heap.IsListIter.at x e
  · exact Heap.IsTupleIter.at x e
theorem ctB.at {b:Bool}{h h':Heap}{l:Addr}{xs:Array Value}(x:ctB b h l xs)(e:∀o,h.get? l=some o->h'.get? l=some o): ctB b h' l xs:=by
  cases b
  · exact Heap.IsList.at x e
  · exact Heap.IsTuple.at x e
theorem ctB.lt {b:Bool}{h:Heap}{l:Addr}{xs:Array Value}(x:ctB b h l xs): l < h.objs.size:=by
  cases b
  · obtain⟨o,e,_⟩:=x;exact Heap.lt_size e
  · obtain⟨o,e,_⟩:=x;exact Heap.lt_size e
theorem E6 {b:Bool}{h:Heap}{i l:Addr}(e:h.get? i=some (itO b l)): itB b h i l 0:=by
  cases b
  · exact⟨_,e,rfl,rfl⟩
  · exact⟨_,e,rfl,rfl⟩
theorem Hj {b:Bool}{l:Addr}{xs:Array Value}(prog:Program)(w:World)(A:Around)(E:Value->Shared->Prop)(s:Shared)(Q:Value->Shared->Prop)(x:ctB b s.heap l xs)(q:Q (.ref s.heap.objs.size) { s with heap:=s.heap.push (itO b l) }):
    wpAny (model prog w) A (pyIter (.ref l)) Q E s:=by
  cases b
  · exact wpAny_pyIter_list x q
  · exact wpAny_pyIter_tuple x q
section
variable {X:Cx}{pins:List (Addr×Obj)}{σ:St}{H:Hp}{s:Shared}
theorem Inv.Dy (I:Inv X pins σ H s){b:Bool}{l:Addr}{xs:List V}(h:sqB b X.K H l xs): ∃its:List Value,Vals xs its/\ctB b s.heap l its.toArray/\xs.length<=sizeLine:=by
  cases b
  · obtain⟨its,r,p,z⟩:=I.list h;exact⟨its,r,p.isList,z⟩
  · obtain⟨its,r,p,z⟩:=I.tuple h;exact⟨its,r,p,z⟩
theorem Inv.Jw (I:Inv X pins σ H s){b:Bool}{l:Addr}{xs ys:List V}(h:sqB b X.K H l xs)(h':sqB b X.K H l ys): xs=ys:=by
  cases b
  · exact I.y9 h h'
  · exact I.p6 h h'
theorem Inv.xU {h':Heap}{t':Nat}{ch:List Addr}(I:Inv X pins σ H s)(k:∀b o,b∉ch->s.heap.get? b=some o->h'.get? b=some o)(f:∀b∈ch,lV X pins H b): Inv X pins σ H { s with heap:=h',toks:=t' }:=by
  have nit:∀b u,H b=some u->b∉ch:=fun b u e z=>by rw[(f b z).1] at e;cases e
  refine I.step (g':=s.gens) (d':=s.drawn) (ch:=ch) (fun b hb=>?_) (fun b o _ _ hc e _=>k b o hc e) (fun b o _ _ hc e _=>⟨o.slots,k b o hc e⟩) (fun _ _ _ _ n=>n)
    (fun b o hc e=>⟨o,k b o hc e⟩) (fun _ _ e=>e) (fun _ _ _ e=>e) (fun b ps e=>⟨#[],by rw[e];simp⟩) (fun m hm=>?_) (fun b u e=>?_) I.bare
  · obtain⟨f0,f1,f2,f3,f4,f5⟩:=f b hb
    exact⟨f3,f1,f4,f5⟩
  · obtain⟨o,es,ep,ho,r⟩:=hm
    exact⟨o,es,ep,k _ o (fun z=>(f _ z).2.1 rfl) ho,r⟩
  · refine(I.hok b u e).stay (fun c v hc q=>k c v ?_ q) (fun _ q=>q) fun _ _ q=>q
    rcases hc with z | z
    · rw[z];exact nit b u e
    · exact nit c _ z
end
def Itz (b1 b2:Bool)(K:W.Frag)(l1 l2:Addr): It :=
  ⟨fun i H=>∃xs ys,sqB b1 K H l1 xs/\sqB b2 K H l2 ys/\i < xs.length/\i < ys.length,
   fun i H v H'=>∃T,v=.ref T/\H T=none/\∀xs ys x y,sqB b1 K H l1 xs->sqB b2 K H l2 ys->xs[i]?=some x->ys[i]?=some y->H'=upd H T (.tup [x,y]),
   fun i H=>∃xs ys,sqB b1 K H l1 xs/\sqB b2 K H l2 ys/\(xs.length<=i\/ys.length<=i)⟩
def ZAt (b1 b2:Bool)(z TI TO i1 i2 l1 l2:Addr)(i:Nat)(h:Heap): Prop:=IsZip h z TI TO .none/\IsPair h TI (.ref i1) (.ref i2)/\(∃a b,IsPair h TO a b)/\itB b1 h i1 l1 i/\itB b2 h i2 l2 i
theorem E7 {P:Program}{w:World}{K:W.Frag}{elts:List Expr}{kk}{pos:Pos}(b1 b2:Bool)(z TI TO i1 i2 l1 l2:Addr)(D:ZipApart z TI TO i1 i2 l1 l2):
    Turn P w K (.Tuple elts kk pos) (Itz b1 b2 K l1 l2) [z,TI,TO,i1,i2] z (ZAt b1 b2 z TI TO i1 i2 l1 l2) where
  mem:=by simp
  obj:=fun i h st b hb=>by
    obtain⟨hz,hTI,⟨a,c,hTO⟩,h1,h2⟩:=st
    simp only [List.mem_cons,List.not_mem_nil,or_false] at hb
    rcases hb with rfl | rfl | rfl | rfl | rfl
    · exact⟨_,hz,fun v z=>by cases z⟩
    · exact⟨_,hTI,fun v z=>by cases z⟩
    · exact⟨_,hTO,fun v z=>by cases z⟩
    · exact h1.obj
    · exact h2.obj
  keep:=fun i h h' st k=>by
    obtain⟨hz,hTI,⟨a,c,hTO⟩,h1,h2⟩:=st
    exact⟨k z (by simp) _ hz,k TI (by simp) _ hTI,⟨a,c,k TO (by simp) _ hTO⟩,h1.at fun o e=>k i1 (by simp) o e,h2.at fun o e=>k i2 (by simp) o e⟩
  item:=by
    intro X hP hw hK hc i pins s σ H E I hf st hg
    subst hP hw hK
    obtain⟨xs,ys,q1,q2,l1',l2'⟩:=hg
    obtain⟨GL,r1,c1,z1⟩:=I.Dy q1
    obtain⟨its2,r2,c2,z2⟩:=I.Dy q2
    obtain⟨hz,hTI,⟨a,c,hTO⟩,h1,h2⟩:=st
    have ex:xs[i]?=some xs[i]:=List.getElem?_eq_getElem l1'
    have ey:ys[i]?=some ys[i]:=List.getElem?_eq_getElem l2'
    obtain⟨u,hu,ru⟩:=r1.get ex
    obtain⟨v,hv,rv⟩:=r2.get ey
    refine A0 D (GK b1 D.l1i1 GL.toArray) (GK b2 D.l2i2 its2.toArray) hz hTI hTO ⟨h1,c1⟩ ⟨h2,c2⟩ (x:=u) (y:=v) (by simpa using hu) (by simpa using hv) fun h' a1 a2 a3 a4 a5 a6 hk=>?_
    refine⟨_,rfl,wpAny_letOwnedTupleGo_zip (s:={ s with heap:=h' }) a1 fun h'' hz'' sb=>?_⟩
    have nT:∀b∈[z,TI,TO,i1,i2],s.heap.objs.size≠b:=fun b hb e=>by
      simp only [List.mem_cons,List.not_mem_nil,or_false] at hb
      rcases hb with rfl | rfl | rfl | rfl | rfl
      · exact Nat.lt_irrefl _ (e ▸ Heap.lt_size hz)
      · exact Nat.lt_irrefl _ (e ▸ Heap.lt_size hTI)
      · exact Nat.lt_irrefl _ (e ▸ Heap.lt_size hTO)
      · obtain⟨_,q,_⟩:=h1.obj;exact Nat.lt_irrefl _ (e ▸ Heap.lt_size q)
      · obtain⟨_,q,_⟩:=h2.obj;exact Nat.lt_irrefl _ (e ▸ Heap.lt_size q)
    have kp:∀b o,b∉[z,TO,i1,i2]->s.heap.get? b=some o->h''.get? b=some o:=fun b o hb e=>by
      simp only [List.mem_cons,List.not_mem_nil,or_false,not_or] at hb
      exact sb.extBut b o hb.1 (hk b o hb.1 hb.2.1 hb.2.2.1 hb.2.2.2 e)
    have I1:Inv X pins σ H { s with heap:=h'' }:=I.xU (t':=s.toks) (ch:=[z,TO,i1,i2]) kp fun b hb=>hf b (by
      simp only [List.mem_cons,List.not_mem_nil,or_false] at hb ⊢
      rcases hb with z | z | z | z<;>simp[z])
    have T'':IsPair h'' s.heap.objs.size u v:=sb.extBut _ _ (nT z (by simp)) a5
    have hfree:H s.heap.objs.size=none:=I.hok.fresh (Nat.le_refl _)
    have I2:Inv X pins σ (upd H s.heap.objs.size (.tup [xs[i],ys[i]])) { s with heap:=h'' }:=by
      have Im:Inv X pins σ (upd H s.heap.objs.size (.tup [xs[i],ys[i]])) { s with heap:=s.heap.push { cls:=.type "tuple",data:=.seq #[u,v] } }:=I.laid (t':=s.toks) (fun b o e=>Heap.get?_push_of_some _ e) (Nat.le_refl _)
        (show b4 X.prog X.w _ _ _ (.tup [xs[i],ys[i]]) from ⟨aR (by show 2<=1000;decide),[u,v],.cons ru (.cons rv .nil),⟨_,Heap.get?_push_size _ rfl,rfl,_,rfl⟩⟩)
      refine Inv.xU (s:={ s with heap:=s.heap.push { cls:=.type "tuple",data:=.seq #[u,v] } }) (t':=s.toks) (ch:=[z,TO,i1,i2]) Im (fun b o hb e=>?_) fun b hb=>?_
      · rcases Heap.get?_push_cases e with ⟨rfl,rfl⟩ | e
        · exact T''
        · exact kp b o hb e
      · have hb':b∈[z,TI,TO,i1,i2]:=by
          simp only [List.mem_cons,List.not_mem_nil,or_false] at hb ⊢
          rcases hb with z | z | z | z<;>simp[z]
        obtain⟨f0,f1⟩:=hf b hb'
        exact⟨by rw[av (nT b hb').symm];exact f0,f1⟩
    refine⟨.ref s.heap.objs.size,_,I2,rfl,⟨_,rfl,hfree,fun xs' ys' x' y' e1 e2 e3 e4=>?_⟩,⟨hz'',sb.extBut _ _ D.TIz (hk _ _ D.TIz D.TITO D.TIi1 D.TIi2 hTI),⟨u,v,sb.extBut _ _ D.TOz a2⟩,a3.1.at fun o e=>sb.extBut _ _ D.i1z e,a4.1.at fun o e=>sb.extBut _ _ D.i2z e⟩,fun b hb=>?_⟩
    · rw[I.Jw e1 q1,ex] at e3
      rw[I.Jw e2 q2,ey] at e4
      cases e3;cases e4;rfl
    · rw[av (nT b hb).symm];exact(hf b hb).1
  done:=by
    intro X hP hw hK hc i pins s σ H E I hf st hg
    subst hP hw hK
    obtain⟨xs,ys,q1,q2,hl⟩:=hg
    obtain⟨GL,r1,c1,z1⟩:=I.Dy q1
    obtain⟨its2,r2,c2,z2⟩:=I.Dy q2
    obtain⟨hz,hTI,⟨a,c,hTO⟩,h1,h2⟩:=st
    have e1:=r1.length
    have e2:=r2.length
    refine Dx (I.ok.hd hc) D (GK b1 D.l1i1 GL.toArray) (GK b2 D.l2i2 its2.toArray) hz hTI hTO ⟨h1,c1⟩ ⟨h2,c2⟩ (by
      rcases hl with h | h
      · exact .inl (by rw[Array.getElem?_eq_none];simp;omega)
      · exact .inr (by rw[Array.getElem?_eq_none];simp;omega)) fun h' hk=>⟨rfl,I.xU (t':=s.toks) (ch:=[z,TO,i1,i2]) (fun b o hb e=>by
        simp only [List.mem_cons,List.not_mem_nil,or_false,not_or] at hb
        exact hk b o hb.1 hb.2.1 hb.2.2.1 hb.2.2.2 e) fun b hb=>hf b (by
        simp only [List.mem_cons,List.not_mem_nil,or_false] at hb ⊢
        rcases hb with z | z | z | z<;>simp[z])⟩
  self:=fun _ _ _ _ _ st h=>wpAny_pyIter_zip st.1 h
theorem Dz {prog:Program}{w:World}{A:Around}{E:Value->Shared->Prop}{s:Shared}{b1 b2:Bool}{l1 l2:Addr}{xs ys:Array Value}{Q:Value->Shared->Prop}(c1:ctB b1 s.heap l1 xs)(c2:ctB b2 s.heap l2 ys)
    (h:∀h',ZAt b1 b2 (s.heap.objs.size+4) (s.heap.objs.size+2) (s.heap.objs.size+3) s.heap.objs.size (s.heap.objs.size+1) l1 l2 0 h'->(∀c o,s.heap.get? c=some o->h'.get? c=some o)->Q (.ref (s.heap.objs.size+4)) { s with heap:=h' }) :
    wpAny (model prog w) A (call (.type "zip") [.ref l1,.ref l2]) Q E s:=by
  refine callType_new F.called_zip (by decide) (F.typeCall_zip_2 _ _) (F.newCall_zip_2 _ _) (fun obj=>F.args_object_init_3 obj _ _) F.entry_zip_new
    (A3 l1 l2 (itO b1 l1) (itO b2 l2) (fun h=>ctB b1 h l1 xs) (fun h=>ctB b2 h l2 ys) (fun h o x=>x.at fun o' e=>Heap.get?_push_of_some _ e) (fun h o x=>x.at fun o' e=>Heap.get?_push_of_some _ e) (fun prog w A E s Q x q=>Hj prog w A E s Q x q) (fun prog w A E s Q x q=>Hj prog w A E s Q x q)) ⟨c1,c2,?_⟩
  generalize hh1:s.heap.push (itO b1 l1)=H1
  have z1:H1.objs.size=s.heap.objs.size+1:=by rw[<-hh1];exact Heap.size_push ..
  have e1:H1.get? s.heap.objs.size=some (itO b1 l1):=by rw[<-hh1];exact Heap.get?_push_size _ rfl
  have k1:∀c o,s.heap.get? c=some o->H1.get? c=some o:=fun c o e=>by rw[<-hh1];exact Heap.get?_push_of_some _ e
  generalize hh2:H1.push (itO b2 l2)=H2
  have z2:H2.objs.size=s.heap.objs.size+2:=by rw[<-hh2,Heap.size_push,z1]
  have e2:H2.get? (s.heap.objs.size+1)=some (itO b2 l2):=by rw[<-hh2,<-z1];exact Heap.get?_push_size _ rfl
  have k2:∀c o,H1.get? c=some o->H2.get? c=some o:=fun c o e=>by rw[<-hh2];exact Heap.get?_push_of_some _ e
  rw[z1]
  generalize hh3:H2.push { cls:=.type "tuple",data:=.seq #[.ref s.heap.objs.size,.ref (s.heap.objs.size+1)] }=H3
  have z3:H3.objs.size=s.heap.objs.size+3:=by rw[<-hh3,Heap.size_push,z2]
  have e3:IsPair H3 (s.heap.objs.size+2) (.ref s.heap.objs.size) (.ref (s.heap.objs.size+1)):=by rw[<-hh3,<-z2];exact Heap.get?_push_size _ rfl
  have k3:∀c o,H2.get? c=some o->H3.get? c=some o:=fun c o e=>by rw[<-hh3];exact Heap.get?_push_of_some _ e
  generalize hh4:H3.push { cls:=.type "tuple",data:=.seq #[.none,.none] }=H4
  have z4:H4.objs.size=s.heap.objs.size+4:=by rw[<-hh4,Heap.size_push,z3]
  have e4:IsPair H4 (s.heap.objs.size+3) .none .none:=by rw[<-hh4,<-z3];exact Heap.get?_push_size _ rfl
  have k4:∀c o,H3.get? c=some o->H4.get? c=some o:=fun c o e=>by rw[<-hh4];exact Heap.get?_push_of_some _ e
  rw[z2,z3,z4]
  have e5:IsZip (H4.push { cls:=.type "zip",data:=.fields #[.none,.bool false,.bool false,.ref (s.heap.objs.size+2),.ref (s.heap.objs.size+3)] }) (s.heap.objs.size+4) (s.heap.objs.size+2) (s.heap.objs.size+3) .none:=by rw[<-z4];exact Heap.get?_push_size _ rfl
  have k5:∀c o,H4.get? c=some o->(H4.push { cls:=.type "zip",data:=.fields #[.none,.bool false,.bool false,.ref (s.heap.objs.size+2),.ref (s.heap.objs.size+3)] }).get? c=some o:=fun c o e=>Heap.get?_push_of_some _ e
  exact⟨⟨_,e5,rfl⟩,h _ ⟨e5,k5 _ _ (k4 _ _ e3),⟨_,_,k5 _ _ e4⟩,E6 (k5 _ _ (k4 _ _ (k3 _ _ (k2 _ _ e1)))),E6 (k5 _ _ (k4 _ _ (k3 _ _ e2)))⟩ fun c o e=>k5 _ _ (k4 _ _ (k3 _ _ (k2 _ _ (k1 _ _ e))))⟩
section
variable {X:Cx}{elts:List Expr}{kk:Nat}{tpos p pos:Pos}{e1 e2:Expr}{t1 t2:TE}
def KE (b1 b2:Bool)(K:W.Frag)(t1 t2:TE): TI:=fun σ H R=>t1 σ H fun x H1=>t2 σ H1 fun y H2=>∃l1 l2 xs ys,x=.ref l1/\y=.ref l2/\sqB b1 K H2 l1 xs/\sqB b2 K H2 l2 ys/\R (Itz b1 b2 K l1 l2) H2
theorem Iq (b1 b2:Bool) (hg:Gl X "zip") (hm:X.mg "zip" = none) (h1:PE X e1 t1) (h2:PE X e2 t2) (hs:starEach [e1,e2] X.env=[(false,eval e1 X.env),(false,eval e2 X.env)]:=by rfl) (hs2:starEach [e2] X.env=[(false,eval e2 X.env)]:=by rfl) :
    PI X (.Tuple elts kk tpos) (.Call (.Name "zip" p) [e1,e2] [] pos) (KE b1 b2 X.K t1 t2):=by
  intro pins s σ H R I h
  refine Call_ (iM I hg hm PyProof.Rows.Boot.«zip» (PyProof.Rows.callWith_type1 (thn (oQ h1 (oQ h2 aj hs2) (by rw[hs,hs2]) pos pins s σ H (fun vs H1=>match vs with | [x,y]=>∃l1 l2 xs ys,x=.ref l1/\y=.ref l2/\sqB b1 X.K H1 l1 xs/\sqB b2 X.K H1 l2 ys/\R (Itz b1 b2 X.K l1 l2) H1 | _=>False) I h) fun us s1 ⟨vs,H1,I1,r1,q1⟩=>?_) (by rw[hs,hs2]) (by rw[hs2];rfl)))
  match vs,q1 with
  | [x,y],q1 =>
    obtain⟨l1,l2,xs,ys,rfl,rfl,q1,q2,q⟩:=q1
    cases r1 with
    | cons ra rr =>
      cases rr with
      | cons rb rr =>
        cases rr
        cases ra
        cases rb
        obtain⟨GL,v1,c1,z1⟩:=I1.Dy q1
        obtain⟨its2,v2,c2,z2⟩:=I1.Dy q2
        refine Dz c1 c2 fun h' za kp=>?_
        refine wpAny_pyIter_zip (s:={ s1 with heap:=h' }) za.1 ?_
        refine⟨s1.heap.objs.size+4,_,_,_,H1,rfl,I1.kept (t':=s1.toks) kp,E7 b1 b2 _ _ _ _ _ l1 l2 (W.ktu_apart _ _ _ c1.lt c2.lt),za,fun b hb=>?_,q⟩
        simp only [List.mem_cons,List.not_mem_nil,or_false] at hb
        have hle:s1.heap.objs.size<=b:=by
          rcases hb with rfl | rfl | rfl | rfl | rfl
          · exact Nat.le_add_right _ _
          · exact Nat.le_add_right _ _
          · exact Nat.le_add_right _ _
          · exact Nat.le_refl _
          · exact Nat.le_add_right _ _
        exact I1.rS hle (I1.hok.fresh hle)
end
theorem GN {K:W.Frag}{b1 b2:Bool}{l1 l2:Addr}{xs ys:List V}{g:TG}{tb:TS}{D:Ends}{σ:St}{H:Hp}(n:Nat)(hx:xs.length=n)(hy:ys.length=n)(Pv:Nat->St->Hp->Prop)(h0:Pv 0 σ H)(hl:∀i σ H,i<=n->Pv i σ H->sqB b1 K H l1 xs/\sqB b2 K H l2 ys)
    (hs:∀i x y σ H T,xs[i]?=some x->ys[i]?=some y->Pv i σ H->H T=none->g (.ref T) σ (upd H T (.tup [x,y])) fun σ2 H2=>tb { D with nx:=Pv (i+1),ct:=Pv (i+1),bk:=D.nx } σ2 H2) (hd:∀σ H,Pv n σ H->D.nx σ H) :
    ∃W:Nat->Nat->St->Hp->Prop,(∃m,W 0 m σ H)/\∀i m σ H,W i m σ H ->
      ((Itz b1 b2 K l1 l2).stop i H/\D.nx σ H)\/((Itz b1 b2 K l1 l2).go i H/\∃N:St->Hp->Prop,(∀σ' H',N σ' H'->∃m',m' < m/\W (i+1) m' σ' H')/\∀x H',(Itz b1 b2 K l1 l2).yld i H x H'->g x σ H' fun σ2 H2=>tb { D with nx:=N,ct:=N,bk:=D.nx } σ2 H2):=by
  refine⟨fun i m σ H=>m=n-i/\i<=n/\Pv i σ H,⟨n,by simp,Nat.zero_le _,h0⟩,?_⟩
  rintro i m σ H ⟨rfl,hi,p⟩
  have q:=hl i σ H hi p
  by_cases hlt:i < n
  · refine .inr ⟨⟨xs,ys,q.1,q.2,by omega,by omega⟩,Pv (i+1),fun σ' H' p'=>⟨n-(i+1),by omega,rfl,hlt,p'⟩,fun v H' y=>?_⟩
    obtain⟨T,rfl,hT,e⟩:=y
    have ex:xs[i]?=some (xs[i]'(by omega)):=List.getElem?_eq_getElem (by omega)
    have ey:ys[i]?=some (ys[i]'(by omega)):=List.getElem?_eq_getElem (by omega)
    rw[e xs ys _ _ q.1 q.2 ex ey]
    exact hs i _ _ σ H T ex ey p hT
  · have e:i=n:=by omega
    subst e
    exact .inl ⟨⟨xs,ys,q.1,q.2,.inl (by omega)⟩,hd σ H p⟩
section
variable {X:Cx}
end
end L2


set_option maxHeartbeats 4000000
namespace L2
open PySem PySem.Spec PyProof.Rows
section
variable {X:Cx}
end
section
variable {X:Cx}{k:Nat}{C:Addr}{ps:List Str}{sp:Sp}{dvs:List V}{E:St->XK}{x:Str}{p pos:Pos}
theorem Ir (h:cf X.prog X.w X.K X.mg X.base C k ps sp dvs)(hr:c7 (k+1) X.A)(hg:Gl X x)(hm:X.mg x=some (.ref C))(hx:bP (CXE X.prog X.w) X E)
    (hdb:(x==("__debug__" : Str))=false:=by decide):PE X (.Call (.Name x p) [] [] pos) (AO C sp dvs E Gh):=by
  obtain⟨f,fd,ds,F,M,hb,hd⟩:=h
  intro pins s σ H Q I h
  refine wpAny_Call_Name_kw (eP I hg hm ?_ hdb)
  exact W.callWith_K0 I.kIn M.kp (wV (us:=[]) M F hr hb hd (fun H2 s2 e s' J z=>hx pins σ H2 s2 e s' J z) I .nil h)
end
end L2

set_option maxHeartbeats 4000000
namespace L2
open PySem PySem.Spec PyProof.Rows
section
variable {prog:Program}{w:World}{A:Around}{E:Value->Shared->Prop}{s:Shared}
end
section
variable {X:Cx}
theorem DA {v:V}{vs:List V}{us:List Value}(r:Vals (v::vs) us): ∃u us',us=u::us'/\RelV v u/\Vals vs us':=by
  cases r with
  | cons a b=>exact⟨_,_,rfl,a,b⟩
end
end L2

set_option maxHeartbeats 4000000
namespace L2
open PySem PySem.Spec PyProof.Rows
section
variable {X:Cx}
end
end L2

set_option maxHeartbeats 4000000
namespace L2
open PySem PySem.Spec PyProof.Rows
def Al (h:Heap)(_:List Value)(n:Str)(y:Option Value)(l:List Value): Prop:=∀(M:Model) (C:Addr) (bm:List Value),l=.ref C::bm->W.Looks M h (typeLookup (.ref C) n) y
theorem Al.keeps {h h':Heap}{bmB tl:List Value}{n:Str}{y:Option Value}(T:Al h bmB n y tl)(hk:∀b o,h.get? b=some o->h'.get? b=some o): Al h' bmB n y tl:=fun M C bm e=>(T M C bm e).keeps hk
theorem xf {K:W.Frag}{C:Addr}{n:Str}{y:Option Value}{bmB bm:List Value}(e:W.findIn K (.ref C) n=some y): ∀h:Heap,K.In h->Al h bmB n y (.ref C::bm):=fun h X M C' bm' q=>by
  cases q
  exact W.looks_findIn X e
section
variable {M:Model}{A:Around}{E:Value->Shared->Prop}{h:Heap}{g:Array GenState}{d:Drawn}{t:Nat}{os:OsState}
variable {nm q:Str}{C N:Addr}{bs bm bmB:List Value}{hdct:Bool}{sn:List Str}{sub:List Value}{ab:Bool}{col:Option Bool}{dd:Option Addr}{k0 k1 k2 k3 k5:Option Value}{B newId initId:String}
theorem Al.look {n:Str}{y:Option Value}{Q:Option Value->Shared->Prop}(hC:h.get? C=some (excClassObj nm q C N bs bm hdct sn sub ab col dd k0 k1 k2 k3 k5 newId))(T:Al h bmB n y (.ref C::bm))(hq:Q y ⟨h,g,d,t,os⟩):
    wpAny M A (typeLookup (.ref C) n) Q E ⟨h,g,d,t,os⟩:=(T M C bm rfl).at hq
def Hs (bmB bm:List Value): Prop:=∀X:String,bm.contains (.type X)=bmB.contains (.type X)
theorem Hs.has {X:String}{b:Bool}(T:Hs bmB bm)(hb:bmB.contains (.type X)=b): bm.contains (.type X)=b:=(T X).trans hb
theorem DB (F:ExcBaseFacts B newId initId bmB)(T:Hs bmB bm){rest:List Value}{Q:Unit->Shared->Prop}(hC:h.get? C=some (excClassObj nm q C N bs bm hdct sn sub ab col dd k0 k1 k2 k3 k5 newId))
    (hq:Q () ⟨h,g,d,t,os⟩):wpAny M A (checkBuiltinCall newId ⟨.ref C::rest,[]⟩) Q E ⟨h,g,d,t,os⟩:=by
  have hcont:(Value.ref C::bm).contains (.type B)=true:=by rw[List.contains_cons,T.has F.hasB,Bool.or_true]
  have hstar:=F.noStar
  simp only [checkBuiltinCall,F.newKind,F.newSplit,F.newRow]
  repeat (first | refine wpAny_loadPart_at hC ?_ | (refine wpAny_isSubtype_exc hC ?_;rw[hcont]) | refine wpAny_staticBase_exc hC ?_ | refine wpAny_madeBy_exc hC ?_ | simp only [bne_self_eq_false,Bool.false_eq_true,if_false] | wp_step)
  exact hq
end
section
variable {prog:Program}{w:World}{A:Around}{E:Value->Shared->Prop}{h:Heap}{g:Array GenState}{d:Drawn}{t:Nat}{os:OsState}
variable {nm q:Str}{C N:Addr}{bs bm bmB:List Value}{hdct:Bool}{sn:List Str}{sub:List Value}{ab:Bool}{col:Option Bool}{dd:Option Addr}{k0 k1 k2 k3 k5:Option Value}{B newId initId:String}
theorem E8 {R:Result->Shared->Prop}(F:ExcBaseFacts B newId initId bmB)(T:Hs bmB bm){rest:List Value}(hC:h.get? C=some (excClassObj nm q C N bs bm hdct sn sub ab col dd k0 k1 k2 k3 k5 newId))(hrest:rest.length<=sizeLine)
    (hq:R (.ok (.ret (.ref (h.objs.size+1)))) ⟨(h.push { cls:=.type "tuple",data:=.seq rest.toArray }).push
      { cls:=.ref C,data:=.fields #[.ref h.objs.size,.none,.none,.none,.bool false,.none] },g,d,t,os⟩) :
    codeAny (model prog w) A (.builtin newId ⟨.ref C::rest,[]⟩) R ⟨h,g,d,t,os⟩:=by
  have hends:=F.ends
  have hcB:(Value.ref C::bm).contains (.type B)=true:=by rw[List.contains_cons,T.has F.hasB,Bool.or_true]
  have hcA:(Value.ref C::bm).contains (.type "AttributeError")=false:=by rw[List.contains_cons,T.has F.noAttr];rfl
  have hcN:(Value.ref C::bm).contains (.type "NameError")=false:=by rw[List.contains_cons,T.has F.noName];rfl
  refine codeAny_builtinAt F.entry ?_
  unfold Builtin.«BaseException.__new__»
  refine PySem.wpAt_bind ?_
  show PySem.wpAt _ _ _ (stack >>= _) _ _ _
  refine PySem.wpAt_bind (PySem.wpAt_stack fun p below=>PySem.wpAt_of_wpAny ?_)
  wp_walk
  refine PySem.wpAt_of_wpAny ?_
  rw[F.owner]
  repeat (first | with_reducible refine wpAny_madeHere_exc F.canon hC ?_ | with_reducible refine wpAny_loadPart_at hC ?_ | (with_reducible refine wpAny_isSubtype_exc hC ?_;first | rw[hcB] | rw[hcA] | rw[hcN]) | wp_step)
  show R _ _
  rw[Heap.size_push]
  exact hq
theorem DC (F:ExcBaseFacts B newId initId bmB)(T:Hs bmB bm){rest:List Value}{fI:Addr}{oI:Obj}{Q:Fin->Shared->Prop}
    (hC:h.get? C=some (excClassObj nm q C N bs bm hdct sn sub ab col dd k0 k1 k2 k3 k5 newId)) (hi:Al h bmB "__init__" (some (.ref fI)) (.ref C::bm))
    (hfI:h.get? fI=some oI) (hfc:oI.cls=.type "function") (hrest:rest.length<=sizeLine)
    (hq:∀h' e,Heap.MadeExcOf h h' e (.ref C) rest->h.objs.size<=e ->
      wpAny (model prog w) A (call (.ref fI) (.ref e::rest)) (fun r s'=>r=.none/\Q (.done (.ret (.ref e))) s') E ⟨h',g,d,t,os⟩) :
    wpAny (model prog w) A (Builtin.«type.__call__» ⟨.ref C::rest,[]⟩) Q E ⟨h,g,d,t,os⟩:=by
  repeat (first | with_reducible refine wpAny_loadPart_at hC ?_ | with_reducible refine wpAny_madeBy_exc hC ?_ | wp_step)
  refine codeAny_call_builtin_code (Code.quiet_builtin _ F.quiet) (DB F T hC ?_)
  refine E8 F T hC hrest ?_
  show wpAny _ _ _ _ _ _
  have kp:∀b o,h.get? b=some o->((h.push { cls:=.type "tuple",data:=.seq rest.toArray }).push { cls:=.ref C,data:=.fields #[.ref h.objs.size,.none,.none,.none,.bool false,.none] }).get? b=some o :=
    fun b o e=>Heap.get?_push_of_some _ (Heap.get?_push_of_some _ e)
  have hget:((h.push { cls:=.type "tuple",data:=.seq rest.toArray }).push
      { cls:=.ref C,data:=.fields #[.ref h.objs.size,.none,.none,.none,.bool false,.none] }).get? (h.objs.size+1)=some
      { cls:=.ref C,data:=.fields #[.ref h.objs.size,.none,.none,.none,.bool false,.none] }:=by heap_get
  have hC₁:=kp _ _ hC
  have hfI₁:=kp _ _ hfI
  have hcC:(Value.ref C::bm).contains (.ref C)=true:=by simp
  unfold isInstance
  repeat (first | with_reducible refine wpAny_loadPart_at hget ?_ | (with_reducible refine wpAny_isSubtype_exc hC₁ ?_;rw[hcC]) | wp_step)
  show wpAny _ _ (typeLookup (.ref C) _) _ _ _
  refine(hi.keeps kp).look hC₁ ?_
  refine wpAny_holding (wpAny_bind ?_)
  unfold bindSpecial
  refine wpAny_bind (wpAny_typeOf (T := "function") ⟨_,hfI₁,hfc⟩ ?_)
  rw[if_pos (by decide)]
  refine wpAny_pure (wpAny_bind (wpAny_mono (hq _ (h.objs.size+1) ⟨kp,Heap.get?_none_of_le (Nat.le_succ _),h.objs.size,hget,Heap.get?_none_of_le (Nat.le_refl _),?_⟩ (Nat.le_succ _)) (fun r s' hr=>?_) fun _ _ x=>x))
  · exact Heap.get?_push_of_some _ (Heap.get?_push_at rfl rfl)
  · obtain⟨rfl,hQ⟩:=hr
    wp_walk
    exact hQ
theorem DE (F:ExcBaseFacts B newId initId bmB)(T:Hs bmB bm){rest:List Value}{fI:Addr}{oI:Obj}{Q:Value->Shared->Prop}
    (hC:h.get? C=some (excClassObj nm q C N bs bm hdct sn sub ab col dd k0 k1 k2 k3 k5 newId)) (hi:Al h bmB "__init__" (some (.ref fI)) (.ref C::bm))
    (hfI:h.get? fI=some oI) (hfc:oI.cls=.type "function") (hrest:rest.length<=sizeLine)
    (hq:∀h' e,Heap.MadeExcOf h h' e (.ref C) rest->h.objs.size<=e ->
      wpAny (model prog w) (A.under (.builtin "type.__call__" ⟨.ref C::rest,[]⟩)) (call (.ref fI) (.ref e::rest)) (fun r s'=>r=.none/\Q (.ref e) s') E ⟨h',g,d,t,os⟩) :
    wpAny (model prog w) A (call (.ref C) rest) Q E ⟨h,g,d,t,os⟩:=by
  have f1:=tc_lookup
  have f2:=tc_bind (.ref C)
  have hT:(⟨h,g,d,t,os⟩:Shared).TypeIs (.ref C) "type" := ⟨_,hC,rfl⟩
  refine wpAny_call (codeAny_of_tree ?_)
  show wpAny _ _ (callAny (.ref C) _) _ _ _
  repeat (any_goals (first | assumption | with_reducible refine wpAny_loadPart_at hC ?_ | wp_step))
  refine⟨rfl,?_⟩
  exact codeAny_call_builtin_at (Code.quiet_builtin _ (by decide +kernel)) entry_typeCall (wpAny_check_type_call_sub hC (DC F T hC hi hfI hfc hrest hq))
theorem raise_stmt {M:Model} {env:Env} {s:Shared} {x:Sem Value} {Q:Flow->Shared->Prop} (hbase:bm.contains (.type "BaseException")=true) (hh:A.handled=none)
    (h:wpAny M A x (fun v s₁=>∃e oe,v=.ref e/\s₁.heap.get? C=some (excClassObj nm q C N bs bm hdct sn sub ab col dd k0 k1 k2 k3 k5 newId) ∧
      s₁.heap.get? e=some oe/\oe.cls=.ref C/\(∃vs,oe.data=.fields vs/\vs[1]?=some .none)/\E (.ref e) s₁) E s) :
    wpAny M A (raiseStmt env (some x) none) Q E s:=by
  have hcB:(Value.ref C::bm).contains (.type "BaseException")=true:=by rw[List.contains_cons,hbase,Bool.or_true]
  unfold raiseStmt
  refine wpAny_bind (wpAny_mono h (fun v s₁ h₁=>?_) fun _ _ x=>x)
  obtain⟨e,oe,rfl,hC,he,hcl,⟨vs,hdt,v1⟩,hE⟩:=h₁
  obtain⟨hp,g,d,tk,os⟩:=s₁
  obtain⟨oc,od,odt,osl⟩:=oe
  dsimp only at hcl hdt
  subst hcl
  subst hdt
  repeat (first | with_reducible refine wpAny_loadPart_at he ?_ | with_reducible refine wpAny_loadPart_at hC ?_ | (with_reducible refine wpAny_isSubtype_exc hC ?_;rw[hcB]) | wp_step)
  rw[v1]
  refine wpAny_pure ?_
  exact wpAny_pure (wpAny_raiseNew_none hh hE)
theorem A4 {env:Env}{s:Shared}(F:ExcBaseFacts B newId initId bmB)(T:Hs bmB bm){fI:Addr}{oI:Obj}{x:Str}{np cpos pos:Pos}{args:List Expr}{Q:Flow->Shared->Prop}
    (hbase:bm.contains (.type "BaseException")=true) (hh:A.handled=none) (hplain:(backTo cpos (starEach args env)).any (·.1)=false)
    (h:wpAny (model prog w) A (eval (.Name x np) env) (fun f s₁=>f=.ref C/\wpAny (model prog w) A (evalArgs (.ref C) true (backTo cpos (starEach args env)) [])
      (fun a s₂=>a.kw=[]/\a.pos.length<=sizeLine/\s₂.heap.get? C=some (excClassObj nm q C N bs bm hdct sn sub ab col dd k0 k1 k2 k3 k5 newId)/\Al s₂.heap bmB "__init__" (some (.ref fI)) (.ref C::bm)/\s₂.heap.get? fI=some oI/\oI.cls=.type "function" ∧
        ∀h' e,Heap.MadeExcOf s₂.heap h' e (.ref C) a.pos->s₂.heap.objs.size<=e->wpAny (model prog w) (A.under (.builtin "type.__call__" ⟨.ref C::a.pos,[]⟩)) (call (.ref fI) (.ref e::a.pos))
          (fun r s₃=>r=.none/\s₃.heap.get? C=some (excClassObj nm q C N bs bm hdct sn sub ab col dd k0 k1 k2 k3 k5 newId)/\(∃oe,s₃.heap.get? e=some oe/\oe.cls=.ref C/\∃vs,oe.data=.fields vs/\vs[1]?=some .none)/\E (.ref e) s₃) E { s₂ with heap:=h' }) E s₁) E s) :
    wpAny (model prog w) A (exec (.Raise (some (.Call (.Name x np) args [] cpos)) none pos) env) Q E s:=by
  rw[arm_exec_Raise]
  first
    | refine wpAny_bind (wpAny_standAt (raise_stmt (C:=C) (nm:=nm) (q:=q) (N:=N) (bs:=bs) (bm:=bm) (hdct:=hdct) (sn:=sn) (sub:=sub) (ab:=ab) (col:=col) (dd:=dd) (k0:=k0) (k1:=k1) (k2:=k2) (k3:=k3) (k5:=k5) (newId:=newId) hbase hh (wpAny_bind (wpAny_mono (wpAny_Call_ofName (wpAny_mono h (fun f s₁ h₁=>?_) fun _ _ x=>x)) (fun v s₃ h₃=>wpAny_bind (wpAny_standAt (wpAny_pure h₃))) fun _ _ x=>x))))
    | (simp only [evalOpt,Option.map];refine wpAny_bind (wpAny_standAt (raise_stmt (C:=C) (nm:=nm) (q:=q) (N:=N) (bs:=bs) (bm:=bm) (hdct:=hdct) (sn:=sn) (sub:=sub) (ab:=ab) (col:=col) (dd:=dd) (k0:=k0) (k1:=k1) (k2:=k2) (k3:=k3) (k5:=k5) (newId:=newId) hbase hh (wpAny_bind (wpAny_mono (wpAny_Call_ofName (wpAny_mono h (fun f s₁ h₁=>?_) fun _ _ x=>x)) (fun v s₃ h₃=>wpAny_bind (wpAny_standAt (wpAny_pure h₃))) fun _ _ x=>x)))))
  obtain⟨rfl,h₁⟩:=h₁
  unfold callWith
  refine wpAny_bind (wpAny_holding (wpAny_mono h₁ (fun a s₂ h₂=>wpAny_bind (wpAny_standAt ?_)) fun _ _ x=>x))
  obtain⟨apos,akw⟩:=a
  obtain⟨hkw,hlen,hC,hi,hfI,hfc,h₂⟩:=h₂
  obtain rfl:akw=[]:=hkw
  obtain⟨hp,g,d,tk,os⟩:=s₂
  simp only [hplain]
  refine wpAny_bind (wpAny_keeperOf_exc hC ?_)
  refine wpAny_bind (DE F T hC hi hfI hfc hlen fun h' e hm hz=>wpAny_mono (h₂ h' e hm hz) (fun r s₃ hr=>⟨hr.1,wpAny_bind (wpAny_holding (wpAny_point (wpAny_pure ?_)))⟩) fun _ _ x=>x)
  obtain⟨_,hC3,⟨oe,he,hcl,hv⟩,hE⟩:=hr
  exact⟨e,oe,rfl,hC3,he,hcl,hv,hE⟩
end
def exM (a:Addr)(cls:Value)(dct:Option Addr): HO:=.ext fun h=>∃oe vs,h.get? a=some oe/\oe.cls=cls/\oe.dict=dct/\oe.data=.fields vs/\vs[1]?=some .none
def xdW (a:Addr)(fs:List (Str×V)): HO:=.ext fun h=>∃mA,h.Ns1 a mA/\(∀f,fJ (fs.lookup f) (mA f))/\PySem.Within mA (fs.map (·.1))
def del (H:Hp)(a:Addr): Hp:=fun b=>if b=a then none else H b
theorem E9 {H:Hp}{a:Addr}: del H a a=none:=if_pos rfl
theorem c9 {H:Hp}{a b:Addr}(h:b≠a): del H a b=H b:=if_neg h
theorem E_ {H:Hp}{a b:Addr}{o:HO}(h:del H a b=some o): b≠a/\H b=some o:=by
  unfold del at h
  by_cases q:b=a
  · rw[if_pos q] at h;cases h
  · rw[if_neg q] at h;exact⟨q,h⟩
theorem xV {P:Program}{w:World}{H:Hp}{h:Heap}{a:Addr}{cls:Value}{dct:Option Addr}{oe:Obj}{vs:Array Value}(e:h.get? a=some oe)(c:oe.cls=cls)(d:oe.dict=dct)(t:oe.data=.fields vs)(n:vs[1]?=some .none): b4 P w H h a (exM a cls dct) :=
  ⟨⟨oe,vs,e,c,d,t,n⟩,⟨_,e⟩,fun h1 h2 ⟨o',ws,q1,q2⟩ k=>⟨o',ws,k _ q1,q2⟩⟩
theorem Iu {fs:List Addr}{H1 H2:Hp}{h1 h2 h3:Heap}{e:Addr}{o:HO}(n:h1.get? e=none)(ne:H1 e=none)(k:∀b u,h1.get? b=some u->h2.get? b=some u)(u:Un fs [] (upd H1 e o) H2 h2 h3): Un fs [] H1 (del H2 e) h1 h3:=by
  have ap:∀b ob,h1.get? b=some ob->b≠e:=fun b ob q z=>by rw[z,n] at q;cases q
  have tr:∀b u,H1 b=some u->b≠e:=fun b u q=>az q ne
  refine⟨fun b ob q m hb hx=>u.keep b ob (k _ _ q) (by rw[av (ap b ob q)];exact m) hb hx,fun b ob q m hb hx=>u.slot b ob (k _ _ q) (by rw[av (ap b ob q)];exact m) hb hx,fun b ob q m hx=>?_,fun b ob q hx=>u.there b ob (k _ _ q) hx,fun b xs q=>?_,fun b ob v q=>?_,fun b ps q=>?_⟩
  · rw[c9 (ap b ob q)];exact u.free b ob (k _ _ q) (by rw[av (ap b ob q)];exact m) hx
  · rw[c9 (tr _ _ q)];exact u.tups b xs (by rw[av (tr _ _ q)];exact q)
  · rw[c9 (tr _ _ q)];exact u.nW b ob v (by rw[av (tr _ _ q)];exact q)
  · rw[c9 (tr _ _ q)];exact u.oN b ps (by rw[av (tr _ _ q)];exact q)
theorem GO {P:Program}{w:World}{H:Hp}{h:Heap}{e:Addr}{cls:Value}{dct:Option Addr}(x:HOk P w H h)(he:H e=some (exM e cls dct)): HOk P w (del H e) h:=fun b u q=>by
  obtain⟨q1,q2⟩:=E_ q
  refine(x b u q2).stay (fun _ _ _ z=>z) (fun c z=>?_) fun c xs z=>?_
  · rw[c9 fun y=>by rw[y,he] at z;cases z];exact z
  · rw[c9 fun y=>by rw[y,he] at z;cases z];exact z
def rh (K:W.Frag)(C fI:Addr): Prop:=∃bm N nm qn bs hdct sn sub ab col dd k0 k1 k2 k3 k5,K.lookup C=some (excClassObj nm qn C N bs bm hdct sn sub ab col dd k0 k1 k2 k3 k5 "ValueError.__new__")/\Hs bmV bm ∧
  (∀h:Heap,K.In h->Al h bmV "__init__" (some (.ref fI)) (.ref C::bm))/\∃oI,K.lookup fI=some oI/\oI.cls=.type "function"
def B9 (C:Addr)(sp:Sp)(dvs:List V)(E:St->XK)(t:TA): TS:=fun _ σ H=>t σ H fun vs H1=>vs.length<=sizeLine/\∀e,H1 e=none ->
  sp (.ref e::(vs++dvs)) (upd H1 e (exM e (.ref C) none)) (fun v H2=>v=.non/\∃dct,H2 e=some (exM e (.ref C) dct)/\E σ (.ref C) dct (del H2 e)) (fun _ _ _=>False)
section
variable {X:Cx}{E:St->XK}{x:Str}{C f:Addr}{e₀:Expr}{es:List Expr}{t:TA}{np cpos pos:Pos}{k:Nat}{fd:FuncData}{ps:List Str}{sp:Sp}{dvs:List V}{ds:List Value}
theorem DF (hC:rh X.K C f) (F:gv X.prog X.w X.K X.mg X.base (CXE X.prog X.w) k f fd ps sp) (hr:c7 (k+1) X.A) (hb:Binds X.K fd ps ds) (hd:Vals dvs ds) (hc:X.calm=true) (hg:Gl X x) (hm:X.mg x=some (.ref C)) (hx:bP (CXE X.prog X.w) X E) (ha:PA X (e₀::es) t) (hdb:(x==("__debug__" : Str))=false:=by decide)
    (he:starEach (e₀::es) X.env=(false,eval e₀ X.env)::starEach es X.env:=by rfl) (hpl:(backTo cpos (starEach es X.env)).any (·.1)=false:=by rfl) :
    PS X (.Raise (some (.Call (.Name x np) (e₀::es) [] cpos)) none pos) (B9 C sp dvs E t):=by
  intro pins s σ H D I h
  obtain⟨bm,N,nm,qn,bs,hdct,sn,sub,ab,col,dd,k0,k1,k2,k3,k5,f4,f3,f2,oI,f5,f6⟩:=hC
  refine A4 (C:=C) (nm:=nm) (q:=qn) (N:=N) (bs:=bs) (bm:=bm) (hdct:=hdct) (sn:=sn) (sub:=sub) (ab:=ab) (col:=col) (dd:=dd) (k0:=k0) (k1:=k1) (k2:=k2) (k3:=k3) (k5:=k5) (fI:=f) (oI:=oI)
    PySem.F.excBase_ValueError f3 (f3.has PySem.F.excBase_ValueError.hasBase) (I.ok.hd hc) ?_ (eP I hg hm ⟨rfl,?_⟩ hdb)
  · rw[he]
    show (false || (backTo cpos (starEach es X.env)).any (·.1))=false
    rw[hpl]
    rfl
  · have ha':=ha cpos pins s σ H _ I h
    rw[he] at ha' ⊢
    refine Calls.evalArgs_plain (thn ha' fun us s2 q=>?_)
    obtain⟨vs,H1,I1,r,z,q⟩:=q
    refine⟨rfl,by rw[<-r.length];exact z,I1.kIn _ _ f4,f2 _ I1.kIn,I1.kIn _ _ f5,f6,fun h' e hmade hz=>?_⟩
    obtain⟨tp,q1,_,_⟩:=hmade.there
    have hne:H1 e=none:=tS I1 hmade.new
    have I2:Inv X pins σ (upd H1 e (exM e (.ref C) none)) { s2 with heap:=h' }:=I1.laid hmade.keeps hz (xV q1 rfl rfl rfl rfl)
    have hq:=q e hne
    have r2:Vals (V.ref e::(vs++dvs)) (Value.ref e::(us++ds)):=.cons rfl (r.append hd)
    have hl:(Value.ref e::us++ds).length=ps.length:=by
      have e:=r2.length
      rw[F.len _ _ _ _ hq] at e
      exact e.symm
    refine wpAny_call (codeAny_mono (F.run _ X.stack _ _ ⟨Value.ref e::us,[]⟩ (Value.ref e::(us++ds)) _ _ _ (hr.make C us []) (I2.env0.make C us []) (hb _ (Value.ref e::us) I2.kIn hl) r2 hq) fun r s' hq'=>?_)
    cases r with
    | error e' =>
      obtain⟨_,_,_,_,_,_,_,_,_,_,z⟩:=hq'
      exact z.elim
    | ok fl =>
      cases fl with
      | ret u =>
        have I3:=I2.after hq'
        obtain⟨v,H',os',bare,un,hok,rv,ev,dct,hx',qE⟩:=hq'
        subst ev
        obtain⟨oe,vs',g1,g2,g3,g4,g5⟩:=(hok e _ hx').1
        obtain⟨_,H'',I3',_,_,_,_,_⟩:=I3
        refine⟨rv,I3'.kIn _ _ f4,⟨oe,g1,g2,vs',g4,g5⟩,?_⟩
        exact hx pins σ H1 s2 (.ref e) s' I1 ⟨e,.ref C,dct,del H' e,rfl,os',bare,Iu hmade.new hne hmade.keeps un,GO hok hx',⟨.none,⟨oe,vs',g1,g2,g3,g4,g5,.inl rfl⟩,E9,hmade.new,fun T z=>nomatch z⟩,qE⟩
      | next=>exact False.elim hq'
      | brk=>exact False.elim hq'
      | cont=>exact False.elim hq'
end
end L2

set_option maxHeartbeats 4000000
namespace L2
open PySem PySem.Spec PyProof.Rows
open Builtin Builtin.ObjectAttr
section
variable {prog:Program}{w:World}{A:Around}{E:Value->Shared->Prop}{h:Heap}{g:Array GenState}{d:Drawn}{t:Nat}{os:OsState}
variable {nm q:Str}{C N x:Addr}{bs bm bmB:List Value}{sn:List Str}{sub:List Value}{ab:Bool}{col:Option Bool}{dd:Option Addr}{k0 k1 k2 k3 k5:Option Value}{B newId sa owner:String}{mA:Str->Option Value}{name:Str}{v:Value}{o:Obj}
theorem Fa {M:Model}{nameV:Value}{Q:Unit->Shared->Prop}(SF:StoreFacts B bmB sa owner)(T:Hs bmB bm)
    (hC:h.get? C=some (excClassObj nm q C N bs bm true sn sub ab col dd k0 k1 k2 k3 k5 newId)) (hx:h.get? x=some o) (hc:o.cls=.ref C) (hq:Q () ⟨h,g,d,t,os⟩) :
    wpAny M A (checkBuiltinCall sa ⟨[.ref x,nameV,v],[]⟩) Q E ⟨h,g,d,t,os⟩:=by
  have hcB:(Value.ref C::bm).contains (.type owner)=true:=by rw[List.contains_cons,T.has SF.hasOwner,Bool.or_true]
  have ha:=SF.args (.ref x) nameV v
  simp only [checkBuiltinCall,SF.kind,SF.split]
  refine wpAny_bind ?_
  · unfold isInstance
    repeat (first | (with_reducible refine wpAny_loadPart_at hx ?_;rw[hc]) | (with_reducible refine wpAny_isSubtype_exc hC ?_;rw[hcB]) | wp_step)
    cases hsig:Manifest.signature? sa with
    | none=>exact wpAny_pure hq
    | some sig =>
      simp only [argsOk,hsig] at ha
      have h2:Bind.checkArgs sa sig ⟨[.ref x,nameV,v],[]⟩=pure ():=ha
      show wpAny M A (Bind.checkArgs sa sig ⟨[.ref x,nameV,v],[]⟩) Q E _
      rw[h2];exact wpAny_pure hq
theorem Fb {tk:Tok} {Q:Fin->Shared->Prop} (hp:∀self:Value,refuseLoop self "__setattr__" bm=pure ())
    (hC:h.get? C=some (excClassObj nm q C N bs bm true sn sub ab col dd k0 k1 k2 k3 k5 newId)) (hL:Al h bmB name none (.ref C::bm)) (hx:h.get? x=some o) (hc:o.cls=.ref C) (hnc:∀c,o.data≠.cls c) (hdn:o.dict=none)
    (hq:∀h' tk',h'.get? x=some { o with dict:=some h.objs.size }->h'.Ns1 h.objs.size (fun y=>if y=name then some v else none)->(∀b ob,b≠x->h.get? b=some ob->h'.get? b=some ob)->Q (.done (.ret .none)) ⟨h',g,d,tk',os⟩) :
    wpAny (model prog w) A (Builtin.«object.__setattr__» ⟨[.ref x,.str name tk,v],[]⟩) Q E ⟨h,g,d,t,os⟩:=by
  have hpass:=hp (.ref x)
  unfold Builtin.«object.__setattr__»
  repeat (first | rw[refuse_eq] | (rw[refuseLoop_ref,hpass]) | (with_reducible refine wpAny_loadPart_at hx ?_;rw[hc]) | with_reducible refine wpAny_mroOf_exc hC ?_ | (with_reducible refine Al.look hC hL ?_) | wp_step)
  rw[hdn,if_neg (by simp[typeHasDict])]
  split
  · rename_i hcd
    cases hcd
  split
  · rename_i c hcd
    exact absurd hcd (hnc c)
  · have hx₁:(h.push { cls:=.type "dict",data:=.dict #[] }).get? x=some o:=Heap.get?_push_of_some _ hx
    have hxs:x≠h.objs.size:=Nat.ne_of_lt (Heap.lt_size hx)
    refine wpAny_bind (wpAny_alloc' ?_)
    refine wpAny_bind (wpAny_update' hx₁ ?_)
    refine wpAny_pure ?_
    have hgd:((h.push { cls:=.type "dict",data:=.dict #[] }).update x fun o=>{ cls:=o.cls,dict:=some h.objs.size,data:=o.data,slots:=o.slots }).get? h.objs.size
        = some { cls:=.type "dict",data:=.dict #[] } :=
      (Heap.get?_update_ne _ _ _ _ hxs.symm).trans (Heap.get?_push_at rfl rfl)
    have hnd:((h.push { cls:=.type "dict",data:=.dict #[] }).update x fun o=>{ cls:=o.cls,dict:=some h.objs.size,data:=o.data,slots:=o.slots }).Ns h.objs.size (fun _=>none) :=
      ⟨_,#[],_,hgd,rfl,fun e he=>absurd he (by simp),fun _=>rfl⟩
    show wpAny _ _ (storeInDict h.objs.size (.str name tk) name v) _ _ _
    unfold storeInDict newKeyGuard
    refine wpAny_bind (wpAny_pure (wpAny_bind (wpAny_nsSet1 (Heap.Ns1.of_empty hnd) fun h' hn' hs=>?_)))
    obtain⟨oD,esD,epD,hoD,hdD,hcD⟩:=hn'.count (PySem.Within.cons name v PySem.Within.nil)
    refine wpAny_bind (wpAny_lookBehind hoD (by rw[hdD];exact pastItsLine_dict (Nat.le_trans hcD (by rw[List.length_cons,List.length_nil,sizeLine_eq];omega))) ?_)
    wp_walk
    refine hq h' _ ?_ hn' (fun b ob hbx hb=>?_)
    · refine(hs.2 x hxs).trans (Heap.get?_update_self _ hx₁ ?_)
      have hfr:=(Heap.get?_some_iff.mp hx).2
      obtain⟨oc,od,odt,osl⟩:=o
      cases odt<;>first | rfl | exact hfr
    · exact(hs.2 b (Nat.ne_of_lt (Heap.lt_size hb))).trans ((Heap.get?_update_ne _ _ _ _ hbx).trans (Heap.get?_push_of_some _ hb))
theorem Fc {tk:Tok} {Q:Fin->Shared->Prop} {dx:Addr} {ns:List Str} (hp:∀self:Value,refuseLoop self "__setattr__" bm=pure ())
    (hC:h.get? C=some (excClassObj nm q C N bs bm true sn sub ab col dd k0 k1 k2 k3 k5 newId)) (hL:Al h bmB name none (.ref C::bm)) (hx:h.get? x=some o) (hc:o.cls=.ref C) (hdx:o.dict=some dx) (hns:h.Ns1 dx mA)
    (hw:PySem.Within mA ns) (hsz:ns.length<=sizeLine)
    (hq:∀h' tk',h'.Ns1 dx (fun y=>if y=name then some v else mA y)->(∀b ob,b≠dx->h.get? b=some ob->h'.get? b=some ob)->Q (.done (.ret .none)) ⟨h',g,d,tk',os⟩) :
    wpAny (model prog w) A (Builtin.«object.__setattr__» ⟨[.ref x,.str name tk,v],[]⟩) Q E ⟨h,g,d,t,os⟩:=by
  have hpass:=hp (.ref x)
  unfold Builtin.«object.__setattr__»
  repeat (first | rw[refuse_eq] | (rw[refuseLoop_ref,hpass]) | (with_reducible refine wpAny_loadPart_at hx ?_;rw[hc]) | with_reducible refine wpAny_mroOf_exc hC ?_ | (with_reducible refine Al.look hC hL ?_) | wp_step)
  rw[hdx]
  refine wpAny_pure ?_
  show wpAny _ _ (storeInDict dx (.str name tk) name v) _ _ _
  unfold storeInDict newKeyGuard
  refine wpAny_bind (wpAny_pure (wpAny_bind (wpAny_nsSet1 hns fun h' hn' hs=>?_)))
  obtain⟨oD,esD,epD,hoD,hdD,hcD⟩:=hn'.count (PySem.Within.cons name v hw)
  refine wpAny_bind (wpAny_lookBehind hoD (by rw[hdD];exact pastItsLine_dict (Nat.le_trans hcD (by rw[List.length_cons];omega))) ?_)
  wp_walk
  exact hq h' _ hn' fun b ob hbd hb=>(hs.2 b hbd).trans hb
theorem B_ {Q:Unit->Shared->Prop}(SF:StoreFacts B bmB sa owner)(T:Hs bmB bm)
    (hC:h.get? C=some (excClassObj nm q C N bs bm true sn sub ab col dd k0 k1 k2 k3 k5 newId)) (hS:Al h bmB "__setattr__" (some (.builtin sa)) (.ref C::bm)) (hx:h.get? x=some o) (hc:o.cls=.ref C)
    (hq:∀(tk:Tok) (t':Nat) (A':Around),wpAny (model prog w) A' (Builtin.«object.__setattr__» ⟨[.ref x,.str name tk,v],[]⟩) (fun r s'=>r=.done (.ret .none)/\Q () s') (fun _ _=>False) ⟨h,g,d,t',os⟩) :
    wpAny (model prog w) A (setAttr (.ref x) name v) Q E ⟨h,g,d,t,os⟩:=by
  have f3:=SF.slot.bind (.ref x)
  unfold setAttr callSpecial? specialOf
  repeat (any_goals (first | assumption | (with_reducible refine wpAny_loadPart_at hx ?_;rw[hc]) | (with_reducible refine Al.look hC hS ?_) | wp_step))
  refine codeAny_call_builtin SF.slot.plain SF.entry (Fa SF T hC hx hc ?_)
  refine wpAny_mono (hq _ _ _) (fun r s' hr=>?_) fun _ _ z=>z.elim
  obtain⟨rfl,hr⟩:=hr
  repeat (any_goals (first | assumption | wp_step))
end
def iy (K:W.Frag)(C:Addr)(f:Str): Prop:=∃bm N nm qn bs sn sub ab col dd k0 k1 k2 k3 k5 nid,K.lookup C=some (excClassObj nm qn C N bs bm true sn sub ab col dd k0 k1 k2 k3 k5 nid)/\Hs bmV bm ∧
  (∀self:Value,refuseLoop self "__setattr__" bm=pure ())/\(∀h:Heap,K.In h->Al h bmV "__setattr__" (some (.builtin "object.__setattr__")) (.ref C::bm))/\∀h:Heap,K.In h->Al h bmV f none (.ref C::bm)
theorem Fd {P:Program}{w:World}{H:Hp}{h:Heap}{d:Addr}{fs:List (Str×V)}{mA:Str->Option Value}(n:h.Ns1 d mA)(r:∀f,fJ (fs.lookup f) (mA f))(wi:PySem.Within mA (fs.map (·.1))): b4 P w H h d (xdW d fs):=by
  obtain⟨od,es,ep,e,c⟩:=id n
  exact⟨⟨mA,n,r,wi⟩,⟨_,e⟩,fun h1 h2 ⟨m,⟨od,es,ep,e,c⟩,q⟩ k=>⟨m,⟨od,es,ep,k _ e,c⟩,q⟩⟩
section
variable {X:Cx}{pins:List (Addr×Obj)}{σ:St}{H:Hp}{s:Shared}{a d C:Addr}{f:Str}{A:Around}{E:Value->Shared->Prop}
theorem Inv.two {o1 o2:HO}{φ:Heap->Prop}{s':Shared}(I:Inv X pins σ H s)(ha:H a=some (.ext φ))(hd:(H d=none/\s.heap.get? d=none)\/∃ψ,H d=some (.ext ψ))(ne:d≠a)(hos:s'.os=s.os)(hg:s'.gens=s.gens)
    (kp:∀b ob,b≠a->b≠d->s.heap.get? b=some ob->s'.heap.get? b=some ob) (ka:∃o,s'.heap.get? a=some o) (kd:∃o,s'.heap.get? d=some o)
    (n1:b4 X.prog X.w (upd (upd H d o1) a o2) s'.heap d o1) (n2:b4 X.prog X.w (upd (upd H d o1) a o2) s'.heap a o2):Inv X pins σ (upd (upd H d o1) a o2) s':=by
  have off:∀b ob,s.heap.get? b=some ob->H b=none->b≠a/\b≠d:=fun b ob e n=>⟨fun z=>(by rw[z,ha] at n;cases n),fun z=>by
    rcases hd with ⟨_,q⟩ | ⟨ψ,q⟩
    · rw[z,q] at e;cases e
    · rw[z,q] at n;cases n⟩
  have tr:∀b u,H b=some u->(∀ψ,u≠.ext ψ)->b≠a/\b≠d:=fun b u e n=>⟨fun z=>(by rw[z,ha] at e;cases e;exact n _ rfl),fun z=>by
    rcases hd with ⟨q,_⟩ | ⟨ψ,q⟩
    · rw[z,q] at e;cases e
    · rw[z,q] at e;cases e;exact n _ rfl⟩
  have up:∀b,b≠a/\b≠d->upd (upd H d o1) a o2 b=H b:=fun b n=>by rw[av n.1,av n.2]
  refine I.call' (ch:=[]) hos ⟨fun b ob e n _ _=>kp b ob (off b ob e n).1 (off b ob e n).2 e,fun b ob e n _ _=>⟨ob.slots,kp b ob (off b ob e n).1 (off b ob e n).2 e⟩,fun b ob e n _=>?_,fun b ob e _=>?_,fun b xs e=>?_,fun b ob u e=>?_,fun b ps e=>⟨#[],?_⟩⟩ (fun b u e=>?_) (by rw[hg];exact I.bare) fun b z=>absurd z (by simp)
  · rw[up b (off b ob e n)];exact n
  · by_cases za:b=a
    · rw[za];exact ka
    · by_cases zd:b=d
      · rw[zd];exact kd
      · exact⟨ob,kp b ob za zd e⟩
  · rw[up b (tr _ _ e (by intro ψ z;cases z))];exact e
  · rw[up b (tr _ _ e (by intro ψ z;cases z))];exact e
  · rw[up b (tr _ _ e (by intro ψ z;cases z)),e];simp
  · by_cases za:b=a
    · subst za
      rw[aq] at e;cases e
      exact n2
    · rw[av za] at e
      by_cases zd:b=d
      · subst zd
        rw[aq] at e;cases e
        exact n1
      · rw[av zd] at e
        refine(I.hok b u e).stay (fun c v hc q=>?_) (fun c q=>?_) fun c xs q=>?_
        · rcases hc with rfl | hc
          · exact kp _ _ za zd q
          · have n:=tr c _ hc (by intro ψ z;cases z)
            exact kp _ _ n.1 n.2 q
        · rw[up c (tr _ _ q (by intro ψ z;cases z))];exact q
        · rw[up c (tr _ _ q (by intro ψ z;cases z))];exact q
theorem Jx {y:V}{u:Value}{Q:Unit->Shared->Prop}(I:Inv X pins σ H s)(e:H a=some (exM a (.ref C) none))(c:iy X.K C f)(ry:RelV y u)
    (h:∀d s',H d=none->d≠a->Inv X pins σ (upd (upd H d (xdW d [(f,y)])) a (exM a (.ref C) (some d))) s'->Q () s'):wpAny (model X.prog X.w) A (setAttr (.ref a) f u) Q E s:=by
  obtain⟨bm,N,nm,qn,bs,sn,sub,ab,col,dd,k0,k1,k2,k3,k5,nid,c1,c2,c3,c4,c5⟩:=c
  obtain⟨oe,vs,g1,g2,g3,g4,g5⟩:=(I.hok a _ e).1
  have kin:=I.kIn
  have I0:=I
  obtain⟨hp,g,dr,tk,os⟩:=s
  refine B_ PySem.F.store_ValueError c2 (kin _ _ c1) (c4 _ kin) g1 g2 fun tk t' A'=>Fb c3 (kin _ _ c1) (c5 _ kin) g1 g2 (fun z=>by rw[g4];intro q;cases q) g3 fun h' tk' q1 q2 q3=>⟨rfl,?_⟩
  have hd:H hp.objs.size=none:=I0.hok.fresh (Nat.le_refl _)
  have na:hp.objs.size≠a:=fun z=>by rw[z,e] at hd;cases hd
  refine h _ _ hd na (Inv.two I0 e (.inl ⟨hd,Heap.get?_none_of_le (Nat.le_refl _)⟩) na rfl rfl (fun b ob n1 _ q=>q3 b ob n1 q) ⟨_,q1⟩ (let ⟨o,_,_,e',_⟩:=q2;⟨o,e'⟩) (Fd q2 (fun g=>?_) fun g hg=>?_) (xV q1 g2 rfl g4 g5))
  · show fJ (List.lookup g [(f,y)]) (if g=f then some u else none)
    by_cases z:g=f
    · rw[if_pos z,z];simp only [List.lookup,beq_self_eq_true];exact ry
    · rw[if_neg z]
      have:(g==f)=false:=by simpa using z
      simp only [List.lookup,this]
      exact True.intro
  · by_cases z:g=f
    · rw[z];exact .head _
    · exact absurd (if_neg z) hg
theorem Jy {y:V}{u:Value}{fs:List (Str×V)}{Q:Unit->Shared->Prop}(I:Inv X pins σ H s)(e:H a=some (exM a (.ref C) (some d)))(ed:H d=some (xdW d fs))(ne:d≠a)(c:iy X.K C f)(hl:fs.length < 1000)(ry:RelV y u)
    (h:∀s',Inv X pins σ (upd (upd H d (xdW d (gu f y fs))) a (exM a (.ref C) (some d))) s'->Q () s'):wpAny (model X.prog X.w) A (setAttr (.ref a) f u) Q E s:=by
  obtain⟨bm,N,nm,qn,bs,sn,sub,ab,col,dd,k0,k1,k2,k3,k5,nid,c1,c2,c3,c4,c5⟩:=c
  obtain⟨oe,vs,g1,g2,g3,g4,g5⟩:=(I.hok a _ e).1
  obtain⟨mA,n1,r,wi⟩:=(I.hok d _ ed).1
  have kin:=I.kIn
  have I0:=I
  obtain⟨hp,g,dr,tk,os⟩:=s
  have hz:(fs.map (·.1)).length<=sizeLine:=by rw[List.length_map,sizeLine_eq];omega
  refine B_ PySem.F.store_ValueError c2 (kin _ _ c1) (c4 _ kin) g1 g2 fun tk t' A'=>Fc c3 (kin _ _ c1) (c5 _ kin) g1 g2 g3 n1 wi hz fun h' tk' q2 q3=>⟨rfl,?_⟩
  refine h _ (Inv.two I0 e (.inr ⟨_,ed⟩) ne rfl rfl (fun b ob _ n2 q=>q3 b ob n2 q) ⟨_,q3 _ _ (Ne.symm ne) g1⟩ (let ⟨o,_,_,e',_⟩:=q2;⟨o,e'⟩) (Fd q2 (fun g=>?_) fun g hg=>?_) (xV (q3 _ _ (Ne.symm ne) g1) g2 g3 g4 g5))
  · show fJ ((gu f y fs).lookup g) (if g=f then some u else mA g)
    rw[cS]
    by_cases q:g=f
    · rw[if_pos q,if_pos q];exact ry
    · rw[if_neg q,if_neg q];exact r g
  · by_cases q:g=f
    · rw[q];exact(j6 f y fs).1
    · refine(j6 f y fs).2 g (wi g fun z=>hg ?_)
      show (if g=f then some u else mA g)=none
      rw[if_neg q];exact z
end
def Iv (K:W.Frag)(ta tv:TE)(f:Str): TS:=fun D σ H=>tv σ H fun y H1=>ta σ H1 fun x H2=>∃a C,x=.ref a/\H2 a=some (exM a (.ref C) none)/\iy K C f ∧
  ∀d,H2 d=none->d≠a->D.nx σ (upd (upd H2 d (xdW d [(f,y)])) a (exM a (.ref C) (some d)))
def Iw (K:W.Frag)(ta tv:TE)(f:Str): TS:=fun D σ H=>tv σ H fun y H1=>ta σ H1 fun x H2=>∃a C d fs,x=.ref a/\H2 a=some (exM a (.ref C) (some d))/\H2 d=some (xdW d fs)/\d≠a/\iy K C f/\fs.length < 1000 ∧
  D.nx σ (upd (upd H2 d (xdW d (gu f y fs))) a (exM a (.ref C) (some d)))
section
variable {X:Cx}{o value:Expr}{f:Str}{pos pos':Pos}{ta tv:TE}
theorem zA (ha:PE X o ta)(hv:PE X value tv)(hs:swapsWith value (some (.Attribute o f pos')) pos.line X.env=pure false): PS X (.Assign [.Attribute o f pos'] value pos) (Iv X.K ta tv f):=by
  intro pins s σ H D I h
  refine plainObj_wpAny_Assign_Attribute (thn (hv pins s σ H _ I h) fun u s1 ⟨y,H1,I1,ry,q⟩=>thn (ha pins s1 σ H1 _ I1 q) fun ov s2 ⟨x,H2,I2,rx,a,C,ex,ea,c,q2⟩=>?_) hs
  subst ex
  obtain rfl:ov=Value.ref a:=rx
  exact Jx I2 ea c ry fun d s3 n1 n2 I3=>⟨σ,_,I3,q2 d n1 n2⟩
theorem zB (ha:PE X o ta)(hv:PE X value tv)(hs:swapsWith value (some (.Attribute o f pos')) pos.line X.env=pure false): PS X (.Assign [.Attribute o f pos'] value pos) (Iw X.K ta tv f):=by
  intro pins s σ H D I h
  refine plainObj_wpAny_Assign_Attribute (thn (hv pins s σ H _ I h) fun u s1 ⟨y,H1,I1,ry,q⟩=>thn (ha pins s1 σ H1 _ I1 q) fun ov s2 ⟨x,H2,I2,rx,a,C,d,fs,ex,ea,ed,ne,c,l,q2⟩=>?_) hs
  subst ex
  obtain rfl:ov=Value.ref a:=rx
  exact Jy I2 ea ed ne c l ry fun s3 I3=>⟨σ,_,I3,q2⟩
end
end L2

set_option maxHeartbeats 4000000
namespace L2
open PySem PySem.Spec PyProof.Rows
section
variable {prog:Program}{w:World}{A:Around}{E:Value->Shared->Prop}{h:Heap}{g:Array GenState}{d:Drawn}{t:Nat}{os:OsState}{a dx:Addr}{o:Obj}{vs:Array Value}{v:Value}{name:Str}{mA:Str->Option Value}
  {nm q:Str} {C N:Addr} {bs bm bmB:List Value} {sn:List Str} {sub:List Value} {ab:Bool} {col:Option Bool} {dd:Option Addr} {k0 k1 k2 k3 k5:Option Value} {B newId:String}
theorem Fe {M:Model} {nameV:Value} {Q:Unit->Shared->Prop} (hC:h.get? C=some (excClassObj nm q C N bs bm true sn sub ab col dd k0 k1 k2 k3 k5 newId)) (hB:bm.contains (.type "BaseException")=true)
    (hx:h.get? a=some o) (hc:o.cls=.ref C) (hq:Q () ⟨h,g,d,t,os⟩):wpAny M A (checkBuiltinCall "BaseException.__getattribute__" ⟨[.ref a,nameV],[]⟩) Q E ⟨h,g,d,t,os⟩:=by
  have hk:builtinKind "BaseException.__getattribute__" = some .slot:=by decide +kernel
  have hsplit:splitId "BaseException.__getattribute__" = some ("BaseException", "__getattribute__"):=by decide +kernel
  have hcB:(Value.ref C::bm).contains (.type "BaseException")=true:=by rw[List.contains_cons,hB,Bool.or_true]
  have ha:=PySem.F.args_bexc_ga (.ref a) nameV
  simp only [checkBuiltinCall,hk,hsplit]
  refine wpAny_bind ?_
  · unfold isInstance
    repeat (first | (with_reducible refine wpAny_loadPart_at hx ?_;rw[hc]) | (with_reducible refine wpAny_isSubtype_exc hC ?_;rw[hcB]) | wp_step)
    exact hq
theorem Ff {tk:Tok}{Q:Fin->Shared->Prop}(hC:h.get? C=some (excClassObj nm q C N bs bm true sn sub ab col dd k0 k1 k2 k3 k5 newId))(hL:Al h bmB name none (.ref C::bm))
    (hx:h.get? a=some o) (hc:o.cls=.ref C) (hd:o.data=.fields vs) (hdx:o.dict=some dx) (hns:h.Ns1 dx mA) (hv:mA name=some v) (hq:Q (.done (.ret v)) ⟨h,g,d,t,os⟩) :
    wpAny (model prog w) A (Builtin.«object.__getattribute__» ⟨[.ref a,.str name tk],[]⟩) Q E ⟨h,g,d,t,os⟩:=by
  unfold Builtin.«object.__getattribute__»
  repeat (first | (with_reducible refine wpAny_loadPart_at hx ?_;rw[hc]) | (with_reducible refine Al.look hC hL ?_) | wp_step)
  split
  · rename_i c hcd
    rw[hd] at hcd;cases hcd
  unfold instanceDict
  repeat (first | (with_reducible refine wpAny_loadPart_at hx ?_;rw[hc]) | with_reducible refine wpAny_loadPart_at hC ?_ | wp_step)
  rw[hdx]
  repeat (first | (with_reducible refine wpAny_nsGet hns.ns ?_;rw[hv]) | wp_step)
  exact hq
theorem Jz {tk:Tok} {fill expr:Bool} {Q:Value->Shared->Prop} (FB:ExcAttrFacts B) (hC:h.get? C=some (excClassObj nm q C N bs bm true sn sub ab col dd k0 k1 k2 k3 k5 newId)) (hB:bm.contains (.type "BaseException")=true)
    (hG:Al h bmB "__getattribute__" (some (.builtin "BaseException.__getattribute__")) (.ref C::bm)) (hH:Al h bmB "__getattr__" none (.ref C::bm)) (hL:Al h bmB name none (.ref C::bm))
    (hx:h.get? a=some o) (hc:o.cls=.ref C) (hd:o.data=.fields vs) (hdx:o.dict=some dx) (hns:h.Ns1 dx mA) (hv:mA name=some v) (hh:handedOut v=pure v) (hq:Q v ⟨h,g,d,t,os⟩) :
    wpAny (model prog w) A (getAttrBy (.ref a) (.str name tk) fill expr) Q E ⟨h,g,d,t,os⟩:=by
  have f3:=FB.ga.bind (.ref a)
  have hx0:(expr&&onTheHeap (Value.builtin "BaseException.__getattribute__"))=false:=by cases expr<;>rfl
  have hx2:(Value.builtin "BaseException.__getattribute__" == Value.builtin "object.__getattribute__")=false:=by decide +kernel
  have hx1:(onTheHeap (Value.ref C)&&Value.builtin "BaseException.__getattribute__" == Value.builtin "object.__getattribute__")=false:=by rw[hx2];rfl
  unfold getAttrBy
  repeat (any_goals (first | assumption | (with_reducible refine wpAny_loadPart_at hx ?_;rw[hc]) | with_reducible refine Al.look hC hG ?_ | with_reducible refine Al.look hC hH ?_ | wp_step))
  refine codeAny_call_builtin FB.ga.plain PySem.F.entry_bexc_ga (Fe hC hB hx hc (Ff hC hL hx hc hd hdx hns hv ?_))
  repeat (any_goals (first | assumption | wp_step))
theorem GP {expr:Bool} {Q:Value->Shared->Prop} (FB:ExcAttrFacts B) (hC:h.get? C=some (excClassObj nm q C N bs bm true sn sub ab col dd k0 k1 k2 k3 k5 newId)) (hB:bm.contains (.type "BaseException")=true)
    (hG:Al h bmB "__getattribute__" (some (.builtin "BaseException.__getattribute__")) (.ref C::bm)) (hH:Al h bmB "__getattr__" none (.ref C::bm)) (hL:Al h bmB name none (.ref C::bm))
    (hx:h.get? a=some o) (hc:o.cls=.ref C) (hd:o.data=.fields vs) (hdx:o.dict=some dx) (hns:h.Ns1 dx mA) (hv:mA name=some v) (hh:handedOut v=pure v) (hq:Q v ⟨h,g,d,t+1,os⟩) :
    wpAny (model prog w) A (getAttr (.ref a) name expr) Q E ⟨h,g,d,t,os⟩:=by
  unfold getAttr
  repeat (any_goals (first | assumption | with_reducible apply Jz FB hC hB hG hH hL hx hc hd hdx hns hv hh | wp_step))
end
def md (K:W.Frag)(C:Addr)(f:Str): Prop:=∃bm N nm qn bs sn sub ab col dd k0 k1 k2 k3 k5 nid,K.lookup C=some (excClassObj nm qn C N bs bm true sn sub ab col dd k0 k1 k2 k3 k5 nid)/\Hs bmV bm ∧
  (∀h:Heap,K.In h->Al h bmV "__getattribute__" (some (.builtin "BaseException.__getattribute__")) (.ref C::bm))/\(∀h:Heap,K.In h->Al h bmV "__getattr__" none (.ref C::bm))/\∀h:Heap,K.In h->Al h bmV f none (.ref C::bm)
def Hk (K:W.Frag)(ta:TE)(f:Str): TE:=fun σ H Q=>ta σ H fun x H1=>∃a C d fs v,x=.ref a/\H1 a=some (exO a (.ref C) (some d))/\H1 d=some (xdW d fs)/\md K C f/\fs.lookup f=some v/\Q v H1
section
variable {X:Cx}{e:Expr}{f:Str}{pos:Pos}{ta:TE}
theorem GQ (he:PE X e ta)(hb:attributeBase e f X.env (eval e X.env)=eval e X.env): PE X (.Attribute e f pos) (Hk X.K ta f):=by
  intro pins s σ H Q I h
  refine BU hb (thn (he pins s σ H _ I h) fun u s1 ⟨x,H1,I1,rx,a,C,d,fs,v,ex,ea,ed,c,l,q⟩=>?_)
  subst ex
  obtain rfl:u=Value.ref a:=rx
  obtain⟨bm,N,nm,qn,bs,sn,sub,ab,col,dd,k0,k1,k2,k3,k5,nid,c1,c2,c3,c4,c5⟩:=c
  obtain⟨oe,vs,g1,g2,g3,g4⟩:=(I1.hok a _ ea).1
  obtain⟨mA,n1,r,wi⟩:=(I1.hok d _ ed).1
  obtain⟨u,hu,ru⟩:=fJ.some_of (v:=v) (o:=mA f) (by rw[<-l];exact r f)
  have kin:=I1.kIn
  have I2:=I1.tok (s1.toks+1)
  obtain⟨hp,g,dr,tk,os⟩:=s1
  exact GP PySem.F.excAttr_ValueError (kin _ _ c1) (c2.has (by decide +kernel)) (c3 _ kin) (c4 _ kin) (c5 _ kin) g1 g2 g4 g3 n1 hu (W.handedOut_of (wK ru)) ⟨v,H1,I2,ru,q⟩
end
end L2

set_option maxHeartbeats 4000000
namespace L2
open PySem PySem.Spec PyProof.Rows
section
variable {A:Around}{E:Value->Shared->Prop}{h:Heap}{g:Array GenState}{d:Drawn}{t:Nat}{os:OsState}
variable {nm q:Str}{C N:Addr}{bs bm bmB:List Value}{hdct:Bool}{sn:List Str}{sub:List Value}{ab:Bool}{col:Option Bool}{dd:Option Addr}{k0 k1 k2 k3 k5:Option Value}{B newId initId:String}
theorem A5 (F:ExcBaseFacts B newId initId bmB)(T:Hs bmB bm){M:Model}{e:Addr}{oe:Obj}{rest:List Value}{Q:Unit->Shared->Prop}
    (hC:h.get? C=some (excClassObj nm q C N bs bm hdct sn sub ab col dd k0 k1 k2 k3 k5 newId)) (he:h.get? e=some oe) (hcls:oe.cls=.ref C) (hq:Q () ⟨h,g,d,t,os⟩) :
    wpAny M A (checkBuiltinCall initId ⟨.ref e::rest,[]⟩) Q E ⟨h,g,d,t,os⟩:=by
  have hcB:(Value.ref C::bm).contains (.type B)=true:=by rw[List.contains_cons,T.has F.hasB,Bool.or_true]
  have hshort:=F.noStar
  simp only [checkBuiltinCall,F.initKind,F.initSplit,F.initRow]
  repeat (first | (with_reducible refine wpAny_loadPart_at he ?_;rw[hcls]) | with_reducible refine wpAny_loadPart_at hC ?_ | (with_reducible refine wpAny_isSubtype_exc hC ?_;rw[hcB]) | wp_step)
  refine wpAny_onRaise ?_
  rw[show ∀(a b:String) (n:Nat),Bind.check ⟨.positional, "*",B,.self,[⟨"args",.varPos,false⟩]⟩ a b n (List.map (fun x=>x.fst) ({ pos:=Value.ref e::rest }:Args).kw)=pure () from
    fun a b n=>check_star_args _ _ _ _ _ _]
  exact wpAny_pure hq
end
def XO (K:W.Frag)(C:Addr): Prop:=∃bm N nm qn bs hdct sn sub ab col dd k0 k1 k2 k3 k5,K.lookup C=some (excClassObj nm qn C N bs bm hdct sn sub ab col dd k0 k1 k2 k3 k5 "ValueError.__new__")/\Hs bmV bm
section
variable {X:Cx}
theorem A6:lP X (.builtin "ValueError.__init__") (fun xs H Q=>∃a C dct rest,xs=V.ref a::rest/\H a=some (exM a (.ref C) dct)/\XO X.K C/\rest.length<=sizeLine/\Q .non (upd H a (exM a (.ref C) dct))):=by
  intro pins s σ H xs us Q I r h
  obtain⟨a,C,dct,rest,rfl,ea,⟨bm,N,nm,qn,bs,hdct,sn,sub,ab,col,dd,k0,k1,k2,k3,k5,c1,c2⟩,z,q⟩:=h
  obtain⟨w1,u1,rfl,a1,rv⟩:=DA r
  obtain rfl:w1=Value.ref a:=a1
  obtain⟨oe,vs,g1,g2,g3,g4,g5⟩:=(I.hok a _ ea).1
  have kin:=I.kIn
  have I0:=I
  have z':u1.length<=sizeLine:=by rw[<-rv.length];exact z
  obtain⟨hp,g,dr,tk,os⟩:=s
  refine wpAny_call (codeAny_call_builtin PySem.F.excBase_ValueError.init.plain PySem.F.excBase_ValueError.initEntry (A5 PySem.F.excBase_ValueError c2 (kin _ _ c1) g1 g2 ?_))
  obtain⟨v0,h0⟩:∃v0,vs[0]?=some v0:=⟨_,Array.getElem?_eq_getElem (by have:=(Array.getElem?_eq_some_iff.mp g5).1;omega)⟩
  have g1':∀tp,(hp.push tp).get? a=some oe:=fun tp=>Heap.get?_push_of_some _ g1
  repeat (any_goals (first | assumption | with_reducible refine wpAny_field (g1' _) g4 h0 ?_ | with_reducible refine wpAny_setField (g1' _) g4 (by omega) ?_ | wp_step))
  have z0:0 < vs.size:=by have:=(Array.getElem?_eq_some_iff.mp g5).1;omega
  rw[g4]
  dsimp only
  rw[if_pos z0]
  refine wpAny_update' (g1' _) ?_
  have lg:∀(Q':Unit->Shared->Prop) (E':Value->Shared->Prop) (s':Shared),Q' () s'->wpAny (model X.prog X.w) X.A.in1 (match v0 with | Value.ref a=>letGo [v0] | x=>pure ()) Q' E' s':=fun Q' E' s' hq=>by
    cases v0<;>first | exact wpAny_letGo hq | exact wpAny_pure hq
  refine lg _ _ _ ?_
  refine wpAny_pure ?_
  show EP X pins σ Q .none _
  have d3:=Obj.data_mapFields g4 (·.setIfInBounds 0 (Value.ref hp.objs.size))
  have e3:=Heap.get?_update_self (Obj.mapFields (·.setIfInBounds 0 (Value.ref hp.objs.size))) (g1' { cls:=.type "tuple",data:=.seq u1.toArray }) (Obj.isFreed_of_fields d3)
  refine⟨.non,_,?_,rfl,q⟩
  refine I0.write (x:=a) (e:=a) (by rw[ea];exact True.intro) (.inl rfl) (fun b o nb e=>?_) ⟨_,e3⟩ (xV e3 ((Obj.cls_mapFields oe _).trans g2) ((qc oe _).trans g3) d3 ?_)
  · rw[Heap.get?_update_other _ _ (Ne.symm nb)]
    exact Heap.get?_push_of_some _ e
  · rw[Array.getElem?_setIfInBounds_ne (by decide)]
    exact g5
structure Hl (K:W.Frag)(C:Addr): Prop where
  sp:W.specialIn K (.ref C) "__getattribute__" = some (some (.builtin "type.__getattribute__"))
  fi:∃mc,W.readsIn K C mc=true/\W.findCls K (.ref C) mc "__init__" = some (.val (.builtin "ValueError.__init__"))
variable {C:Addr}{x:Str}{p pos apos:Pos}{e:Expr}{es:List Expr}{t:TA}
theorem zC {pl:Sem Bool}(hc:Hl X.K C)(hg:Gl X x)(hm:X.mg x=some (.ref C))(ha:PA X (e::es) t)
    (hdb:(x==("__debug__" : Str))=false:=by decide)
    (hst:starEach (e::es) X.env=(false,eval e X.env)::starEach es X.env:=by rfl) (hpl:(backTo pos (starEach es X.env)).any (·.1)=false:=by rfl)
    (ht:eval (.Call (.Attribute (.Name x p) "__init__" apos) (e::es) [] pos) X.env=(do
      let ov <-eval (.Name x p) X.env
      standAt apos.atName
      let (f,first) <-holding [ov] (getMethod ov "__init__" pl)
      callWith pos f first (backTo pos (starEach (e::es) X.env)) (backToKw pos (keywordEach [] X.env))):=by rfl) :
    PE X (.Call (.Attribute (.Name x p) "__init__" apos) (e::es) [] pos) (tCB (fun xs H Q=>∃a C dct rest,xs=V.ref a::rest/\H a=some (exM a (.ref C) dct)/\XO X.K C/\rest.length<=sizeLine/\Q .non (upd H a (exM a (.ref C) dct))) t):=by
  obtain⟨mc,h1,h2⟩:=hc.fi
  intro pins s σ H Q I h
  refine W.methodCall_KW (pl:=pl) (eP I hg hm ?_ hdb) ht
  refine W.method_cls I.kIn hc.sp (W.cls_value I.kIn h1 h2 rfl ?_)
  have I':Inv X pins σ H { s with toks:=s.toks+1 }:=I.tok _
  exact PyProof.Rows.callWith_builtin1 (thn (ha pos pins _ σ H _ I' h) fun us s1 ⟨vs,H1,I1,r1,q1⟩=>A6 pins s1 σ H1 vs us Q I1 r1 q1) hst hpl
end
end L2

set_option maxHeartbeats 4000000
namespace L2
open PySem PySem.Spec PyProof.Rows
def A7:List Value->Bool
  | []=>bmV==[]
  | v::r=>(v::r)==bmV || match v with
    | .ref _=>A7 r
    | _=>false
theorem nh:∀{l:List Value},A7 l=true->Hs bmV l
  | [],e=>by rw[<-beq_iff_eq.mp e];exact fun _=>rfl
  | v::r,e=>by
    unfold A7 at e
    rcases Bool.or_eq_true_iff.mp e with q | q
    · rw[beq_iff_eq.mp q];exact fun _=>rfl
    · split at q
      · intro X
        rw[List.contains_cons,nh q X]
        rfl
      · cases q
theorem xg:∀{l:List Value},A7 l=true->∀self:Value,refuseLoop self "__setattr__" l=pure ()
  | [],e=>by have:=beq_iff_eq.mp e;cases this
  | v::r,e=>by
    unfold A7 at e
    rcases Bool.or_eq_true_iff.mp e with q | q
    · rw[beq_iff_eq.mp q];exact PySem.F.store_ValueError.passes
    · split at q
      · intro self
        rw[refuseLoop_ref]
        exact xg q self
      · cases q
def XL (K:W.Frag)(C:Addr): Prop:=∃bm N nm qn bs sn sub ab col dd k0 k1 k2 k3 k5,K.lookup C=some (excClassObj nm qn C N bs bm true sn sub ab col dd k0 k1 k2 k3 k5 "ValueError.__new__")/\A7 bm=true
section
variable {K:W.Frag}{C f:Addr}{n:Str}
theorem rh.of (q:XL K C) (e:W.findIn K (.ref C) "__init__" = some (some (.ref f))) (hf:W.isFn K (.ref f)=true):rh K C f:=by
  obtain⟨bm,N,nm,qn,bs,sn,sub,ab,col,dd,k0,k1,k2,k3,k5,lk,r⟩:=q
  have hf:=beq_iff_eq.mp hf
  obtain⟨o,ho,hc⟩:=Option.map_eq_some_iff.mp hf
  exact⟨bm,N,nm,qn,bs,true,sn,sub,ab,col,dd,k0,k1,k2,k3,k5,lk,nh r,xf e,o,ho,hc⟩
theorem iy.of (q:XL K C) (e1:W.findIn K (.ref C) "__setattr__" = some (some (.builtin "object.__setattr__"))) (e2:W.findIn K (.ref C) n=some none):iy K C n:=by
  obtain⟨bm,N,nm,qn,bs,sn,sub,ab,col,dd,k0,k1,k2,k3,k5,lk,r⟩:=q
  exact⟨bm,N,nm,qn,bs,sn,sub,ab,col,dd,k0,k1,k2,k3,k5,_,lk,nh r,xg r,xf e1,xf e2⟩
theorem md.of (q:XL K C) (e1:W.findIn K (.ref C) "__getattribute__" = some (some (.builtin "BaseException.__getattribute__"))) (e2:W.findIn K (.ref C) "__getattr__" = some none) (e3:W.findIn K (.ref C) n=some none):md K C n:=by
  obtain⟨bm,N,nm,qn,bs,sn,sub,ab,col,dd,k0,k1,k2,k3,k5,lk,r⟩:=q
  exact⟨bm,N,nm,qn,bs,sn,sub,ab,col,dd,k0,k1,k2,k3,k5,_,lk,nh r,xf e1,xf e2,xf e3⟩
theorem XO.of (q:XL K C): XO K C:=by
  obtain⟨bm,N,nm,qn,bs,sn,sub,ab,col,dd,k0,k1,k2,k3,k5,lk,r⟩:=q
  exact⟨bm,N,nm,qn,bs,true,sn,sub,ab,col,dd,k0,k1,k2,k3,k5,lk,nh r⟩
end
def xh (P:Program)(w:World)(K:W.Frag)(mg:Str->Option Value)(base:Heap)(C:Addr)(k:Nat)(ps:List Str)(sp:Sp)(dvs:List V): Prop :=
  ∃f fd ds,gv P w K mg base (CXE P w) k f fd ps sp/\rh K C f/\Binds K fd ps ds/\Vals dvs ds
section
variable {P:Program}{w:World}{K:W.Frag}{mg:Str->Option Value}{base:Heap}{C:Addr}{qual:Str}{st:Stmt}{N ps:List Str}{dvs:List V}{k:Nat}{sp:Sp}
end
section
variable {X:Cx}{E:St->XK}{x:Str}{C:Addr}{e₀:Expr}{es:List Expr}{t:TA}{np cpos pos:Pos}{k:Nat}{ps:List Str}{sp:Sp}{dvs:List V}
theorem Fg {P:Program}{w:World}{K:W.Frag}{mg:Str->Option Value}{base:Heap}{f:Addr}{fd:FuncData}{ds:List Value}(F:gv P w K mg base (CXE P w) k f fd ps sp)(h:rh K C f)(hb:Binds K fd ps ds)(hd:Vals dvs ds): xh P w K mg base C k ps sp dvs:=⟨f,fd,ds,F,h,hb,hd⟩
theorem ni (h:xh X.prog X.w X.K X.mg X.base C k ps sp dvs) (hr:c7 (k+1) X.A) (hc:X.calm=true) (hg:Gl X x) (hm:X.mg x=some (.ref C)) (hx:bP (CXE X.prog X.w) X E) (ha:PA X (e₀::es) t) (hdb:(x==("__debug__" : Str))=false:=by decide)
    (he:starEach (e₀::es) X.env=(false,eval e₀ X.env)::starEach es X.env:=by rfl) (hpl:(backTo cpos (starEach es X.env)).any (·.1)=false:=by rfl) :
    PS X (.Raise (some (.Call (.Name x np) (e₀::es) [] cpos)) none pos) (B9 C sp dvs E t):=by
  obtain⟨f,fd,ds,F,hi,hb,hd⟩:=h
  exact DF hi F hr hb hd hc hg hm hx ha hdb he hpl
theorem d_ {K:W.Frag}{e:Expr}{f:Str}{pos:Pos}{ta:TE}(hK:X.K=K)(he:PE X e ta)(hb:attributeBase e f X.env (eval e X.env)=eval e X.env): PE X (.Attribute e f pos) (Hk K ta f):=by
  subst hK
  exact GQ he hb
end
end L2

set_option maxHeartbeats 4000000
namespace L2
open PySem PySem.Spec PyProof.Rows
def XH (K:W.Frag)(D:Addr): Prop:=∃bm N nm qn bs hdct sn sub ab col dd k0 k1 k2 k3 k5 nid,K.lookup D=some (excClassObj nm qn D N bs bm hdct sn sub ab col dd k0 k1 k2 k3 k5 nid)/\bm.contains (.type "BaseException")=true
theorem XL.h {K:W.Frag}{C:Addr}(q:XL K C): XH K C:=by
  obtain⟨bm,N,nm,qn,bs,sn,sub,ab,col,dd,k0,k1,k2,k3,k5,h1,h2⟩:=q
  exact⟨bm,N,nm,qn,bs,true,sn,sub,ab,col,dd,k0,k1,k2,k3,k5,_,h1,(nh h2).has (by decide +kernel)⟩
theorem xW {M:Model}{A:Around}{E:Value->Shared->Prop}{s:Shared}{K:W.Frag}{e D:Addr}{oe:Obj}{C:Addr}{b:Bool}{Q:Bool->Shared->Prop}(X:K.In s.heap)(he:s.heap.get? e=some oe)(hc:oe.cls=.ref C)
    (hD:XH K D) (hsub:W.mroIn K C (.ref D)=some b) (h:Q b s):wpAny M A (excMatches (.ref e) (.ref D)) Q E s:=by
  obtain⟨bm,N,nm,qn,bs,hdct,sn,sub,ab,col,dd,k0,k1,k2,k3,k5,nid,f4,f3⟩:=hD
  have hD0:=X _ _ f4
  have L:=W.looks_mroIn (M:=M) X hsub
  obtain⟨hp,g,d,tk,os⟩:=s
  have hcB:(Value.ref D::bm).contains (.type "BaseException")=true:=by rw[List.contains_cons,f3,Bool.or_true]
  have ft:=tc_notTuple
  unfold excMatches
  repeat (first | (with_reducible refine wpAny_loadPart_at he ?_;rw[hc]) | with_reducible refine wpAny_loadPart_at hD0 ?_ | (with_reducible refine wpAny_isSubtype_exc hD0 ?_;rw[hcB]) | (with_reducible refine L.at ?_) | wp_step)
  cases b<;>(try wp_walk)<;>exact h
end L2

set_option maxHeartbeats 4000000
namespace PySem
namespace F
end F
section
variable {prog:Program}{w:World}{A:Around}{E:Value->Shared->Prop}{s:Shared}
end
end PySem
namespace L2
open PySem PySem.Spec PyProof.Rows
section
variable {X:Cx}{tg:Expr}
end
end L2

set_option maxHeartbeats 4000000
namespace L2
open PySem PySem.Spec PyProof.Rows
section
variable {X:Cx}
end
end L2

set_option maxHeartbeats 4000000
namespace L2
open PySem PySem.Spec PyProof.Rows
structure Fl (X:Cx)(pins eG:List (Addr×Obj))(σ:St)(H:Hp)(a C:Addr)(dct:Option Addr)(T:Addr)(s:Shared): Prop where
  J:Inv { X with pn:=X.pn++pins,A:=X.A.mark (some (.ref a)),calm:=false,xe:=fun _ _=>True } eG σ H s
  fl:l8 s.heap a (.ref C) dct (.ref T)
  ha:H a=none
  na0:X.s₀.heap.get? a=none
  nT:H T=none
  nT0:X.s₀.heap.get? T=none
  hp:∀p∈(X.pn++pins)++eG,p.1≠a/\(Value.ref T:Value)≠.ref p.1
def XA (K:W.Frag)(D:Addr): Prop:=tT K D\/XH K D
theorem ri {M:Model}{A:Around}{E:Value->Shared->Prop}{s:Shared}{K:W.Frag}{e D:Addr}{oe:Obj}{C:Addr}{b:Bool}{Q:Bool->Shared->Prop}(X:K.In s.heap)(he:s.heap.get? e=some oe)(hc:oe.cls=.ref C)
    (hD:XA K D) (hsub:W.mroIn K C (.ref D)=some b) (h:Q b s):wpAny M A (excMatches (.ref e) (.ref D)) Q E s:=by
  rcases hD with hD | hD
  · exact zm X he hc hD hsub h
  · exact xW X he hc hD hsub h
abbrev TH:=Addr->Option Addr->TS
def PHs (X:Cx)(hs:List ExceptHandler)(th:TH): Prop:=∀(pins eG:List (Addr×Obj)) (σ:St) (H:Hp) (a C:Addr) (dct:Option Addr) (T:Addr) (s:Shared) (Dn:Ends),X.A.handled=none->Fl X pins eG σ H a C dct T s->th C dct Dn σ H ->
  wpAny (model X.prog X.w) X.A (handleBy (.ref a) X.env hs) (SP X pins Dn) X.xe s
def JA:TH:=fun _ _ _ _ _=>False
theorem Fh {X:Cx}: PHs X [] JA:=fun _ _ _ _ _ _ _ _ _ _ _ _ h=>h.elim
def KG (K:W.Frag)(D:Addr)(i:Nat)(ts:TS)(tr:TH): TH:=fun C dct Dn σ H=>∃b,W.mroIn K C (.ref D)=some b/\if b=true then ∀a,H a=none->ts (EA i Dn) (σ.set i (some (.ref a))) (upd H a (exO a (.ref C) dct)) else tr C dct Dn σ H
def KH (K:W.Frag)(D:Addr)(ts:TS)(tr:TH): TH:=fun C dct Dn σ H=>∃b,W.mroIn K C (.ref D)=some b/\if b=true then ts Dn σ H else tr C dct Dn σ H
section
variable {X:Cx}{suite:List Stmt}{b₀:Stmt}{x n:Str}{np hpos:Pos}{D:Addr}{i:Nat}{ts:TS}{rest:List ExceptHandler}{tr:TH}
theorem Ca (hD:XA X.K D)(hg:Gl X x)(hm:X.mg x=some (.ref D))(hN:X.N.Nodup)(hi:X.N[i]?=some n)(hl:X.env.scope.names.lookup n=some .local)
    (hs:∀(pn:List (Addr×Obj)) (A':Around) (xe:Value->Shared->Prop),PSs { X with pn:=pn,A:=A',calm:=false,xe:=xe } (b₀::suite) ts) (hr:PHs X rest tr) (hdb:(x==("__debug__" : Str))=false:=by decide) :
    PHs X (.ExceptHandler (some (.Name x np)) (some n) (b₀::suite) hpos::rest) (KG X.K D i ts tr):=by
  intro pins eG σ2 H3 a C dct T s Dn hh F h
  obtain⟨J4,fl4,ha,na0,nT4,nT0,hp4⟩:=F
  obtain⟨bb,hsub,q⟩:=h
  obtain⟨oe,vs,g1,g2,_⟩:=id fl4
  refine wpAny_handleBy_cons (codeAny_handlers_test ?_) (by intro z;cases z)
  refine eP (X:={ X with pn:=X.pn++pins,A:=X.A.mark (some (.ref a)),calm:=false,xe:=fun _ _=>True }) J4 hg hm ?_ hdb
  refine ri J4.kIn g1 g2 hD hsub ?_
  cases bb with
  | false=>exact hr pins eG σ2 H3 a C dct T s Dn hh ⟨J4,fl4,ha,na0,nT4,nT0,hp4⟩ (by rw[if_neg Bool.false_ne_true] at q;exact q)
  | true =>
    rw[if_pos rfl] at q
    refine codeAny_handlers_suite_as (zk fl4 fun h5 k5 fl5=>?_)
    have J5:=J4.flew (h':=h5) (t':=s.toks) ha na0 (fun T' z=>by cases z;exact⟨nT4,nT0⟩) fl4 hp4 (fun b o _ m2 _ e=>k5 b o (fun z=>m2 (by rw[z])) e) (fun b o m1 e=>by
      refine⟨o.slots,k5 b o (fun z=>?_) e⟩
      obtain⟨_,o',ho',hn⟩:=J4.stack.mem m1
      obtain⟨oe',vs',_,_,_,_,_,hcc⟩:=id fl4
      rcases hcc with w | ⟨T',oT,ts',w,_,w2,w3,_⟩
      · cases w
      · cases w
        rw[z,w2] at ho'
        cases ho'
        exact hn _ w3)
    have J6:=J5.track ha na0 (fun p z=>(hp4 p z).1) fl5
    refine tH (X:={ X with pn:=X.pn++pins,A:=X.A.mark (some (.ref a)),calm:=false,xe:=fun _ _=>True }) (v:=.ref a) J6 hN hi (.inl hl) rfl (fun s7 J7=>?_) (.inr hl)
    refine wpAny_mono ((hs (X.pn++pins) (X.A.mark (some (.ref a))) _) eG s7 _ _ (EA i Dn) (Inv.Ez (X:={ X with pn:=X.pn++pins,A:=X.A.mark (some (.ref a)),calm:=false,xe:=fun _ _=>True }) (A':=X.A.mark (some (.ref a))) (j9:=false) (pn':=X.pn++pins) J7 rfl (fun z=>nomatch z) fun p q=>q) (q a ha)) (fun f s8 w=>?_) fun _ _ z=>z
    have fin:∀{xe:Value->Shared->Prop} {σ':St} {H':Hp} {Q':Unit->Shared->Prop},Inv { X with pn:=X.pn++pins,A:=X.A.mark (some (.ref a)),calm:=false,xe:=xe } eG σ' H' s8->(∀s9,Inv X pins (σ'.set i none) H' s9->Q' () s9) ->
        wpAny (model X.prog X.w) X.A (do bindName X.env n .none;unbindBehindTheSuite X.env n hpos) Q' X.xe s8:=fun {xe σ' H' Q'} J k=>by
      have J':Inv X pins σ' H' s8:=Inv.Gv (A':=X.A.mark (some (.ref a))) (j9:=false) J rfl (fun _=>hh) fun p q=>by simp;rcases List.mem_append.mp q with z | z<;>simp[z]
      obtain⟨m,hn,hlo⟩:=J'.loc
      refine wpAny_nameGoes_keeps hl hn (by rw[J'.ok.kind];rfl) fun h9 v hn9 sb=>k _ ?_
      have J8:Inv X pins σ' H' { s8 with toks:=s8.toks+1 }:=J'.tok _
      obtain⟨oL,_,_,hoL,_⟩:=id hn
      have cne:=J'.cne
      have oth:∀b o,b≠X.env.locals->s8.heap.get? b=some o->h9.get? b=some o:=fun b o nb e=>(sb.2 b nb).trans e
      refine⟨J'.ok,J'.os,J'.bare,⟨fun b o e n hb hx=>?_,fun b o e n hb hx=>?_,J'.base.free,fun b o e hx=>?_,J'.base.tups,J'.base.nW,J'.base.oN⟩,⟨_,hn9,fun j y v' e1 e2 e3=>?_⟩,fun y c e=>?_,J'.free,J'.j5,fun p hp=>?_,fun b ob e=>?_,by simpa using J'.len⟩
      · exact oth b o (Nat.ne_of_lt (Nat.lt_of_lt_of_le (Heap.lt_size e) J'.ok.above)) (J'.base.keep b o e n hb hx)
      · obtain⟨sl,e1⟩:=J'.base.slot b o e n hb hx
        exact⟨sl,oth b _ (Nat.ne_of_lt (Nat.lt_of_lt_of_le (Heap.lt_size e) J'.ok.above)) e1⟩
      · obtain⟨o',e1⟩:=J'.base.there b o e hx
        exact⟨o',oth b _ (Nat.ne_of_lt (Nat.lt_of_lt_of_le (Heap.lt_size e) J'.ok.above)) e1⟩
      · by_cases hj:j=i
        · subst hj
          rw[List.getElem?_set_self (by rw[J'.len];exact(List.getElem?_eq_some_iff.mp hi).1)] at e2
          cases e2
        · rw[List.getElem?_set_ne (Ne.symm hj)] at e2
          obtain⟨u',r',w'⟩:=hlo j y v' e1 e2 e3
          refine⟨u',r',?_⟩
          rcases w' with ⟨k',e⟩ | ⟨k',c,e,z⟩
          · refine .inl ⟨k',?_⟩
            have:y≠n:=fun e=>hj (tG hN e1 (e ▸ hi))
            simp[this,e]
          · exact .inr ⟨k',c,e,z.sameBut sb (cne y c e)⟩
      · obtain⟨w',z⟩:=J'.cell y c e
        exact⟨w',z.sameBut sb (cne y c e)⟩
      · obtain⟨e,n,ne,nf,d⟩:=J'.pin p hp
        exact⟨oth p.1 _ ne e,n,ne,nf,d⟩
      · refine(J'.hok b ob e).stay (fun c w' hc q=>oth c w' ?_ q) (fun _ q=>q) fun _ _ q=>q
        rintro rfl
        rcases hc with rfl | hc
        · rw[J'.free] at e;cases e
        · rw[J'.free] at hc;cases hc
    cases f with
    | next=>obtain⟨σ',H',J,d⟩:=w;exact fin J fun s9 J9=>⟨_,H',J9,d⟩
    | brk=>obtain⟨σ',H',J,d⟩:=w;exact fin J fun s9 J9=>⟨_,H',J9,d⟩
    | cont=>obtain⟨σ',H',J,d⟩:=w;exact fin J fun s9 J9=>⟨_,H',J9,d⟩
    | ret u=>obtain⟨v,σ',H',J,r,d⟩:=w;exact fin J fun s9 J9=>⟨v,_,H',J9,r,d⟩
theorem Fi (hD:XA X.K D)(hg:Gl X x)(hm:X.mg x=some (.ref D))
    (hs:∀(pn:List (Addr×Obj)) (A':Around) (xe:Value->Shared->Prop),PSs { X with pn:=pn,A:=A',calm:=false,xe:=xe } (b₀::suite) ts) (hr:PHs X rest tr) (hdb:(x==("__debug__" : Str))=false:=by decide) :
    PHs X (.ExceptHandler (some (.Name x np)) none (b₀::suite) hpos::rest) (KH X.K D ts tr):=by
  intro pins eG σ2 H3 a C dct T s Dn hh F h
  obtain⟨J4,fl4,ha,na0,nT4,nT0,hp4⟩:=F
  obtain⟨bb,hsub,q⟩:=h
  obtain⟨oe,vs,g1,g2,_⟩:=id fl4
  refine wpAny_handleBy_cons (codeAny_handlers_test ?_) (by intro z;cases z)
  refine eP (X:={ X with pn:=X.pn++pins,A:=X.A.mark (some (.ref a)),calm:=false,xe:=fun _ _=>True }) J4 hg hm ?_ hdb
  refine ri J4.kIn g1 g2 hD hsub ?_
  cases bb with
  | false=>exact hr pins eG σ2 H3 a C dct T s Dn hh ⟨J4,fl4,ha,na0,nT4,nT0,hp4⟩ (by rw[if_neg Bool.false_ne_true] at q;exact q)
  | true =>
    rw[if_pos rfl] at q
    refine codeAny_handlers_suite (zk fl4 fun h5 k5 fl5=>?_)
    have J5:=J4.flew (h':=h5) (t':=s.toks) ha na0 (fun T' z=>by cases z;exact⟨nT4,nT0⟩) fl4 hp4 (fun b o _ m2 _ e=>k5 b o (fun z=>m2 (by rw[z])) e) (fun b o m1 e=>by
      refine⟨o.slots,k5 b o (fun z=>?_) e⟩
      obtain⟨_,o',ho',hn⟩:=J4.stack.mem m1
      obtain⟨oe',vs',_,_,_,_,_,hcc⟩:=id fl4
      rcases hcc with w | ⟨T',oT,ts',w,_,w2,w3,_⟩
      · cases w
      · cases w
        rw[z,w2] at ho'
        cases ho'
        exact hn _ w3)
    refine wpAny_mono ((hs (X.pn++pins) (X.A.mark (some (.ref a))) _) eG _ _ _ Dn (Inv.Ez (X:={ X with pn:=X.pn++pins,A:=X.A.mark (some (.ref a)),calm:=false,xe:=fun _ _=>True }) (A':=X.A.mark (some (.ref a))) (j9:=false) (pn':=X.pn++pins) J5 rfl (fun z=>nomatch z) fun p q=>q) q) (fun f s8 w=>?_) fun _ _ z=>z
    have fin:∀{xe:Value->Shared->Prop} {σ':St} {H':Hp},Inv { X with pn:=X.pn++pins,A:=X.A.mark (some (.ref a)),calm:=false,xe:=xe } eG σ' H' s8->Inv X pins σ' H' s8:=fun {xe σ' H'} J =>
      Inv.Gv (A':=X.A.mark (some (.ref a))) (j9:=false) J rfl (fun _=>hh) fun p q=>by simp;rcases List.mem_append.mp q with z | z<;>simp[z]
    cases f with
    | next=>obtain⟨σ',H',J,d⟩:=w;exact⟨σ',H',fin J,d⟩
    | brk=>obtain⟨σ',H',J,d⟩:=w;exact⟨σ',H',fin J,d⟩
    | cont=>obtain⟨σ',H',J,d⟩:=w;exact⟨σ',H',fin J,d⟩
    | ret u=>obtain⟨v,σ',H',J,r,d⟩:=w;exact⟨v,σ',H',fin J,r,d⟩
end
def Fj (th:TH)(tb:(St->XK)->TS): TS:=fun Dn σ H=>tb (fun σ' cls dct H'=>∃C,cls=.ref C/\th C dct Dn σ' H') Dn σ H
theorem Cb {X:Cx}{body:List Stmt}{h₀:ExceptHandler}{hs:List ExceptHandler}{pos:Pos}{tb:(St->XK)->TS}{th:TH}
    (hc:X.calm=true) (hex:X.ex=[]) (hst:X.stack=X.env::X.outer) (hfr:X.env.frame=some X.env.locals)
    (hb:∀(pn:List (Addr×Obj)) (xe:Value->Shared->Prop) (EX:St->XK),bP (CXE X.prog X.w) { X with pn:=pn,xe:=xe } EX->PSs { X with pn:=pn,xe:=xe } body (tb EX))
    (hH:PHs X (h₀::hs) th):PS X (.Try body (h₀::hs) [] [] pos) (Fj th tb):=by
  intro pins s σ H Dn I h
  have hh:=I.ok.hd hc
  refine wpAny_Try_except ?_
  have back:∀{xe:Value->Shared->Prop} {σ':St} {H':Hp} {s':Shared},Inv { X with pn:=X.pn++pins,xe:=xe } [] σ' H' s'->Inv X pins σ' H' s':=fun {xe σ' H' s'} J =>
    Inv.Gv (A':=X.A) (j9:=X.calm) J rfl (fun _=>hh) fun p q=>by simpa using q
  refine wpAny_mono (hb (X.pn++pins) (fun e s₁=>wpAny (model X.prog X.w) X.A (noteFrame e X.env) (fun _ s₂=>wpAny (model X.prog X.w) X.A (setFlight e none) (fun _ s₃ =>
      wpAny (model X.prog X.w) X.A (handleBy e X.env (h₀::hs)) (SP X pins Dn) X.xe s₃) X.xe s₂) X.xe s₁) _ ?_ [] s σ H Dn
      (Inv.Ez (A':=X.A) (j9:=X.calm) I rfl (fun _=>hh) fun p q=>by simpa using q) h) (fun f s1 q=>?_) fun _ _ z=>z
  · intro eG σ2 H2 s2 e s3 I2 hx
    obtain⟨a,cls,dct,H3,he,hos,hgn,un,hok,⟨hd,fl,ha,na,hT⟩,C,hcls,q⟩:=hx
    subst he
    subst hcls
    have I3:=I2.call' hos un hok hgn (fun b z=>absurd z (by simp))
    have na0:=iu I2 hex na
    have hT0:∀T,hd=.ref T->H3 T=none/\X.s₀.heap.get? T=none:=fun T z=>⟨(hT T z).1,by have q:=iu I2 hex (hT T z).2;exact q⟩
    have hp3:∀p∈(X.pn++pins)++eG,p.1≠a/\hd≠.ref p.1:=fun p z=>by
      have e:=(I2.pin p z).1
      exact⟨fun w=>(by rw[w,na] at e;cases e),fun w=>(by rw[(hT _ w).2] at e;cases e)⟩
    refine zj (env:=X.env) (outer:=X.outer) (by have:=I.ok.frames;rw[hst] at this;exact this) (by have:=I3.stack;rw[show Cx.stack _=X.env::X.outer from hst] at this;exact this) hfr fl fun h4 T n1 n2 k1 k2 fl4=>?_
    have I4:Inv _ eG σ2 H3 { s3 with heap:=h4,toks:=s3.toks }:=I3.flew ha na0 hT0 fl hp3 (fun b o m1 m2 m3 e=>k1 b o m1 m2 (by rw[<-hst];exact m3) e) (fun b o m1 e=>k2 b o (by rw[<-hst];exact m1) e)
    have nT4:H3 T=none:=tS I3 n1
    have nT0:=iu I3 hex n1
    have hp4:∀p∈(X.pn++pins)++eG,p.1≠a/\(Value.ref T:Value)≠.ref p.1:=fun p z=>⟨(hp3 p z).1,fun w=>by
      have e:=(I3.pin p z).1
      cases w
      rw[n1] at e;cases e⟩
    obtain⟨oe,vs,g1,g2,_⟩:=id fl4
    have J40:=Inv.Ez (A':=X.A.mark (some (.ref a))) (j9:=false) (pn':=X.pn++pins) (iL:=eG) (xe':=fun _ _=>True) I4 rfl (fun z=>nomatch z) (fun p q=>q)
    have J4:Inv { X with pn:=X.pn++pins,A:=X.A.mark (some (.ref a)),calm:=false,xe:=fun _ _=>True } eG σ2 H3 { s3 with heap:=h4 }:=J40
    exact hH pins eG σ2 H3 a C dct T _ Dn hh ⟨J4,fl4,ha,na0,nT4,nT0,hp4⟩ q
  · cases f with
    | next=>obtain⟨σ',H',J,d⟩:=q;exact wpAny_execs_nil ⟨σ',H',back J,d⟩
    | brk=>obtain⟨σ',H',J,d⟩:=q;exact⟨σ',H',back J,d⟩
    | cont=>obtain⟨σ',H',J,d⟩:=q;exact⟨σ',H',back J,d⟩
    | ret u=>obtain⟨v,σ',H',J,r,d⟩:=q;exact⟨v,σ',H',back J,r,d⟩
end L2

set_option maxHeartbeats 4000000
namespace L2
open PySem PySem.Spec PyProof.Rows
def zD (h:Heap)(a:Addr)(cls:Value)(dct:Option Addr)(T:Addr)(mk:Value): Prop :=
  ∃oe vs oT ts,h.get? a=some oe/\oe.cls=cls/\oe.dict=dct/\oe.data=.fields vs/\vs[1]?=some (.ref T)/\T≠a/\h.get? T=some oT/\oT.data=.fields ts/\ts[3]?=some mk
section
variable {M:Model}{A:Around}{E:Value->Shared->Prop}{s:Shared}
theorem t_ {base:Heap}{env:Env}{outer:List Env}{L a:Addr}{oe:Obj}{vs:Array Value}{hd:Value}{b:Bool}{Q:Unit->Shared->Prop}
    (hfr:A.frames=some (env::outer)) (hl:s.heap.FunFrames base (env::outer)) (hf:env.frame=some L) (he:s.heap.get? a=some oe) (hdt:oe.data=.fields vs) (h1:1 < vs.size)
    (h:∀(h':Heap) (T:Addr),s.heap.get? T=none->T≠a->(∀b o,b≠a->b∉(env::outer).filterMap (·.frame)->s.heap.get? b=some o->h'.get? b=some o) ->
      (∀b o,b≠a->s.heap.get? b=some o->∃sl,h'.get? b=some { o with slots:=sl })->s.heap.objs.size<=T->zD h' a oe.cls oe.dict T (rawInt L)->Q () { s with heap:=h' }) :
    wpAny M A (do setField (.ref a) 1 (<-EntryCells.newEntry hd (<-frameOf env) .none (rawInt L) .none (<-entryPlaceOf L b))) Q E s:=by
  have na:a∉(env::outer).filterMap (·.frame):=fun hm=>by
    obtain⟨_,o,ho,hn⟩:=hl.mem hm
    rw[he] at ho;cases ho
    exact hn vs hdt
  refine wpAny_bind (wpAny_frameOf_fun hfr hl hf fun h₁ hs=>?_)
  refine wpAny_bind (wpAny_entryPlaceOf fun pl hpl=>?_)
  unfold EntryCells.newEntry newFields
  refine wpAny_bind (wpAny_newObj_type ?_ (hpl.sizeOk5 _ _ _ _ _))
  generalize hts:([hd,Value.ref L,Value.none,rawInt L,Value.none]++(if pl.isEmpty then List.replicate 6 Value.none else pl)).toArray=ts
  have hsz:3 < ts.size:=by
    rw[<-hts]
    simp only [List.size_toArray,List.length_append,List.length_cons,List.length_nil]
    omega
  have e1:h₁.get? a=some oe:=(hs.2.1 a na).trans he
  have lt1:h₁.objs.size≠a:=Nat.ne_of_gt (Heap.lt_size e1)
  have e2:(h₁.push { cls:=.type "traceback",dict:=none,data:=.fields ts }).get? a=some oe:=Heap.get?_push_of_some _ e1
  refine wpAny_setField e2 hdt h1 ?_
  have d3:=Obj.data_mapFields hdt (·.setIfInBounds 1 (Value.ref h₁.objs.size))
  have e3:=Heap.get?_update_self (Obj.mapFields (·.setIfInBounds 1 (Value.ref h₁.objs.size))) e2 (Obj.isFreed_of_fields d3)
  have t3:((h₁.push { cls:=.type "traceback",dict:=none,data:=.fields ts }).update a (Obj.mapFields (·.setIfInBounds 1 (Value.ref h₁.objs.size)))).get? h₁.objs.size=some { cls:=.type "traceback",dict:=none,data:=.fields ts }:=by
    rw[Heap.get?_update_other _ _ (Ne.symm lt1)]
    exact Heap.get?_push_size h₁ rfl
  have keep:∀b o,b≠a->h₁.get? b=some o->((h₁.push { cls:=.type "traceback",dict:=none,data:=.fields ts }).update a (Obj.mapFields (·.setIfInBounds 1 (Value.ref h₁.objs.size)))).get? b=some o:=fun b o nb e=>by
    rw[Heap.get?_update_other _ _ (Ne.symm nb)]
    exact Heap.get?_push_of_some _ e
  refine h _ h₁.objs.size ?_ lt1 (fun b o nb nf e=>keep b o nb ((hs.2.1 b nf).trans e)) (fun b o nb e=>?_) (by rw[hs.1];exact Nat.le_refl _) ?_
  · rw[hs.1]
    exact Heap.get?_none_of_le (Nat.le_refl _)
  · obtain⟨sl,q⟩:=hs.2.2 b o e
    exact⟨sl,keep b _ nb q⟩
  · exact⟨_,_,_,ts,e3,Obj.cls_mapFields oe (·.setIfInBounds 1 (Value.ref h₁.objs.size)),qc oe (·.setIfInBounds 1 (Value.ref h₁.objs.size)),d3,by simp[h1],lt1,t3,rfl,by rw[<-hts];rfl⟩
theorem DG {base:Heap}{env:Env}{outer:List Env}{L a:Addr}{cls hd:Value}{dct:Option Addr}{Q:Unit->Shared->Prop}
    (hfr:A.frames=some (env::outer)) (hl:s.heap.FunFrames base (env::outer)) (hf:env.frame=some L) (hx:l8 s.heap a cls dct hd)
    (h:∀(h':Heap) (T:Addr),s.heap.get? T=none->T≠a->(∀b o,b≠a->hd≠.ref b->b∉(env::outer).filterMap (·.frame)->s.heap.get? b=some o->h'.get? b=some o) ->
      (∀b o,b∈(env::outer).filterMap (·.frame)->s.heap.get? b=some o->∃sl,h'.get? b=some { o with slots:=sl })->s.heap.objs.size<=T->zD h' a cls dct T (rawInt L)->Q () { s with heap:=h' }) :
    wpAny M A (noteFrame (.ref a) env) Q E s:=by
  obtain⟨oe,vs,he,rfl,rfl,hdt,h1,hc⟩:=hx
  have fr:∀b o,b∈(env::outer).filterMap (·.frame)->s.heap.get? b=some o->∀ws,o.data≠.fields ws:=fun b o hb e=>by
    obtain⟨_,o',ho,hn⟩:=hl.mem hb
    rw[e] at ho;cases ho
    exact hn
  have na:∀b o,b∈(env::outer).filterMap (·.frame)->s.heap.get? b=some o->b≠a:=fun b o hb e z=>by
    subst z
    rw[e] at he;cases he
    exact fr _ _ hb e vs hdt
  have z1:=(Array.getElem?_eq_some_iff.mp h1).1
  unfold noteFrame
  simp only [hf]
  refine wpAny_bind (wpAny_field he hdt h1 ?_)
  rcases hc with rfl | ⟨T,oT,ts,rfl,hTa,hT,hTd,h3⟩
  · rw[if_neg (by decide)]
    refine t_ hfr hl hf he hdt z1 fun h' T' n1 n2 k1 k2 sz fl=>h h' T' n1 n2 (fun b o nb _ nf e=>k1 b o nb nf e) (fun b o hb e=>k2 b o (na b o hb e) e) sz fl
  · rw[if_pos (show (Value.ref T != Value.none)=true by simp)]
    refine wpAny_bind (wpAny_field hT hTd h3 ?_)
    rw[if_neg (show ¬((Value.none==rawInt L)=true) by simp[rawInt])]
    refine wpAny_bind (wpAny_setField hT hTd (Array.getElem?_eq_some_iff.mp h3).1 ?_)
    have oth:∀b,b≠T->(s.heap.update T (Obj.mapFields (·.setIfInBounds 3 Value.none))).get? b=s.heap.get? b:=fun b nb=>Heap.get?_update_other _ _ (Ne.symm nb)
    have fT:∀b o,s.heap.get? b=some o->(∀ws,o.data≠.fields ws)->b≠T:=fun b o e hn z=>by
      rw[z,hT] at e;cases e
      exact hn ts hTd
    refine t_ (s:={ s with heap:=s.heap.update T (Obj.mapFields (·.setIfInBounds 3 Value.none)) }) hfr (hl.of_keeps fun b o e hn=>⟨o,(oth b (fT b o e hn)).trans e,rfl⟩) hf ((oth a (Ne.symm hTa)).trans he) hdt z1
      fun h' T' n1 n2 k1 k2 sz fl=>h h' T' ?_ n2 (fun b o nb nT nf e=>k1 b o nb nf ((oth b (fun z=>nT (by rw[z]))).trans e)) (fun b o hb e=>k2 b o (na b o hb e) ((oth b (fT b o e (fr b o hb e))).trans e)) (by have sz:(s.heap.update T (Obj.mapFields (·.setIfInBounds 3 Value.none))).objs.size<=T':=sz;rw[Heap.size_update] at sz;exact sz) fl
    cases q:s.heap.get? T' with
    | none=>rfl
    | some o =>
      by_cases z:T'=T
      · subst z
        have:=Heap.get?_update_self (Obj.mapFields (·.setIfInBounds 3 Value.none)) hT (Obj.isFreed_of_fields (Obj.data_mapFields hTd _))
        rw[this] at n1;cases n1
      · have n1':(s.heap.update T (Obj.mapFields (·.setIfInBounds 3 Value.none))).get? T'=none:=n1
        rw[oth T' z,q] at n1';cases n1'
theorem Fk {α:Type}{env:Env}{a T:Addr}{cls mk:Value}{dct:Option Addr}{what:String}{Q:α->Shared->Prop}(hx:zD s.heap a cls dct T mk)
    (h:∀h' mk',(∀b o,b≠T->s.heap.get? b=some o->h'.get? b=some o)->zD h' a cls dct T mk'->E (.ref a) { s with heap:=h' }):wpAny M A (PySem.passOn what (.ref a) env:Sem α) Q E s:=by
  obtain⟨oe,vs,oT,ts,he,rfl,rfl,hdt,h1,hTa,hT,hTd,h3⟩:=hx
  unfold PySem.passOn
  refine wpAny_bind (wpAny_field he hdt h1 ?_)
  rw[if_neg (show ¬((Value.ref T==Value.none)=true) by simp)]
  unfold setFlight
  refine wpAny_bind (wpAny_bind (wpAny_field he hdt h1 ?_))
  rw[if_pos (show (Value.ref T != Value.none)=true by simp)]
  have z3:=(Array.getElem?_eq_some_iff.mp h3).1
  generalize (env.frame.elim Value.none fun f=>rawInt f)=mk'
  have oth:∀b,b≠T->(s.heap.update T (Obj.mapFields (·.setIfInBounds 3 mk'))).get? b=s.heap.get? b:=fun b nb=>Heap.get?_update_other _ _ (Ne.symm nb)
  refine wpAny_setField hT hTd z3 (wpAny_throw (h _ mk' (fun b o nb e=>(oth b nb).trans e) ⟨oe,vs,_,_,(oth a (Ne.symm hTa)).trans he,rfl,rfl,hdt,h1,hTa,Heap.get?_update_self _ hT (Obj.isFreed_of_fields (Obj.data_mapFields hTd _)),Obj.data_mapFields hTd _,?_⟩))
  simp[z3]
theorem A8 {env:Env}{a T L:Addr}{cls:Value}{dct:Option Addr}{Q:Unit->Shared->Prop}(hf:env.frame=some L)(hx:zD s.heap a cls dct T (rawInt L))
    (h:∀h',(∀b o,b≠T->s.heap.get? b=some o->h'.get? b=some o)->l8 h' a cls dct (.ref T)->Q () { s with heap:=h' }):wpAny M A (leaving env (.ref a)) Q E s:=by
  obtain⟨oe,vs,oT,ts,he,rfl,rfl,hdt,h1,hTa,hT,hTd,h3⟩:=hx
  unfold leaving noteFrame
  simp only [hf]
  refine wpAny_bind (wpAny_bind (wpAny_field he hdt h1 ?_))
  rw[if_pos (show (Value.ref T != Value.none)=true by simp)]
  refine wpAny_bind (wpAny_field hT hTd h3 ?_)
  rw[if_pos (show (rawInt L==rawInt L)=true by simp)]
  refine wpAny_pure ?_
  unfold setFlight
  refine wpAny_bind (wpAny_field he hdt h1 ?_)
  rw[if_pos (show (Value.ref T != Value.none)=true by simp)]
  have z3:=(Array.getElem?_eq_some_iff.mp h3).1
  have oth:∀b,b≠T->(s.heap.update T (Obj.mapFields (·.setIfInBounds 3 ((none:Option Addr).elim Value.none fun f=>rawInt f)))).get? b=s.heap.get? b:=fun b nb=>Heap.get?_update_other _ _ (Ne.symm nb)
  refine wpAny_setField hT hTd z3 (h _ (fun b o nb e=>(oth b nb).trans e) ⟨oe,vs,(oth a (Ne.symm hTa)).trans he,rfl,rfl,hdt,h1,.inr ⟨T,_,_,rfl,hTa,Heap.get?_update_self _ hT (Obj.isFreed_of_fields (Obj.data_mapFields hTd _)),Obj.data_mapFields hTd _,?_⟩⟩)
  simp[z3]
theorem A9 {base:Heap}{env:Env}{outer:List Env}{L a:Addr}{T0:Addr}{cls mk:Value}{dct:Option Addr}{Q:Unit->Shared->Prop}
    (hfr:A.frames=some (env::outer)) (hl:s.heap.FunFrames base (env::outer)) (hf:env.frame=some L) (hx:zD s.heap a cls dct T0 mk) (hmk:¬((mk==rawInt L)=true))
    (h:∀(h':Heap) (T:Addr),s.heap.get? T=none->T≠a->(∀b o,b≠a->b≠T0->b∉(env::outer).filterMap (·.frame)->s.heap.get? b=some o->h'.get? b=some o) ->
      (∀b o,b∈(env::outer).filterMap (·.frame)->s.heap.get? b=some o->∃sl,h'.get? b=some { o with slots:=sl })->l8 h' a cls dct (.ref T)->Q () { s with heap:=h' }) :
    wpAny M A (leaving env (.ref a)) Q E s:=by
  obtain⟨oe,vs,oT,ts,he,rfl,rfl,hdt,h1,hTa,hT,hTd,h3⟩:=hx
  have fr:∀b o,b∈(env::outer).filterMap (·.frame)->s.heap.get? b=some o->∀ws,o.data≠.fields ws:=fun b o hb e=>by
    obtain⟨_,o',ho,hn⟩:=hl.mem hb
    rw[e] at ho;cases ho
    exact hn
  have na:∀b o,b∈(env::outer).filterMap (·.frame)->s.heap.get? b=some o->b≠a:=fun b o hb e z=>by
    subst z
    rw[e] at he;cases he
    exact fr _ _ hb e vs hdt
  have z1:=(Array.getElem?_eq_some_iff.mp h1).1
  unfold leaving noteFrame
  simp only [hf]
  refine wpAny_bind (wpAny_bind (wpAny_field he hdt h1 ?_))
  rw[if_pos (show (Value.ref T0 != Value.none)=true by simp)]
  refine wpAny_bind (wpAny_field hT hTd h3 ?_)
  rw[if_neg hmk]
  refine wpAny_bind (wpAny_setField hT hTd (Array.getElem?_eq_some_iff.mp h3).1 ?_)
  have oth:∀b,b≠T0->(s.heap.update T0 (Obj.mapFields (·.setIfInBounds 3 Value.none))).get? b=s.heap.get? b:=fun b nb=>Heap.get?_update_other _ _ (Ne.symm nb)
  have fT:∀b o,s.heap.get? b=some o->(∀ws,o.data≠.fields ws)->b≠T0:=fun b o e hn z=>by
    rw[z,hT] at e;cases e
    exact hn ts hTd
  refine qd (s:={ s with heap:=s.heap.update T0 (Obj.mapFields (·.setIfInBounds 3 Value.none)) }) hfr (hl.of_keeps fun b o e hn=>⟨o,(oth b (fT b o e hn)).trans e,rfl⟩) hf ((oth a (Ne.symm hTa)).trans he) hdt z1
    fun h' T' n1 n2 k1 k2 fl=>h h' T' ?_ n2 (fun b o nb nT nf e=>k1 b o nb nf ((oth b (fun z=>nT z)).trans e)) (fun b o hb e=>k2 b o (na b o hb e) ((oth b (fT b o e (fr b o hb e))).trans e)) fl
  cases q:s.heap.get? T' with
  | none=>rfl
  | some o =>
    by_cases z:T'=T0
    · subst z
      have:=Heap.get?_update_self (Obj.mapFields (·.setIfInBounds 3 Value.none)) hT (Obj.isFreed_of_fields (Obj.data_mapFields hTd _))
      rw[this] at n1;cases n1
    · have n1':(s.heap.update T0 (Obj.mapFields (·.setIfInBounds 3 Value.none))).get? T'=none:=n1
      rw[oth T' z,q] at n1';cases n1'
end
section
variable {X:Cx}{pins:List (Addr×Obj)}{σ:St}{H:Hp}{s:Shared}{h':Heap}{a T:Addr}{cls hd:Value}{dct:Option Addr}
theorem Fm (I:Inv X pins σ H s)(hex:X.ex=[])(hst:X.stack=X.env::X.outer)(ha:H a=none)(na:X.s₀.heap.get? a=none)(hT:∀T,hd=.ref T->H T=none/\X.s₀.heap.get? T=none)
    (nT:H T=none/\X.s₀.heap.get? T=none) (keep:∀b o,b≠a->hd≠.ref b->b∉frs X.stack->s.heap.get? b=some o->h'.get? b=some o)
    (slot:∀b o,b∈frs X.stack->s.heap.get? b=some o->∃sl,h'.get? b=some { o with slots:=sl }) (fl:l8 h' a cls dct (.ref T)) :
    Un (frs X.outer) [] X.H₀ H X.s₀.heap h'/\HOk X.prog X.w H h'/\Eu X.s₀.heap h' H a cls dct:=by
  have s0a:∀b o,X.s₀.heap.get? b=some o->b≠a/\hd≠.ref b:=fun b o e=>⟨fun z=>(by rw[z,na] at e;cases e),fun z=>(by rw[(hT b z).2] at e;cases e)⟩
  have s0L:∀b o,X.s₀.heap.get? b=some o->b∈frs X.stack->b∈frs X.outer:=fun b o e hb=>by
    rcases List.mem_cons.mp (I.iK b hb) with z | z
    · rw[z] at e
      exact absurd (Nat.lt_of_lt_of_le (Heap.lt_size e) I.ok.above) (Nat.lt_irrefl _)
    · exact z
  have nX:∀b:Addr,b∉X.ex:=fun b=>by rw[hex];simp
  refine⟨⟨fun b o e n hb _=>?_,fun b o e n hb _=>?_,fun b o e n _=>I.base.free b o e n (nX b),fun b o e _=>?_,I.base.tups,I.base.nW,I.base.oN⟩,xP I keep ha fun T z=>(hT T z).1,?_⟩
  · exact keep b o (s0a b o e).1 (s0a b o e).2 (fun z=>hb (s0L b o e z)) (I.base.keep b o e n hb (nX b))
  · obtain⟨sl,e1⟩:=I.base.slot b o e n hb (nX b)
    obtain⟨sl',e2⟩:=slot b _ (by rw[hst];exact xO hb) e1
    exact⟨sl',e2⟩
  · obtain⟨o1,e1⟩:=I.base.there b o e (nX b)
    by_cases hb:b∈frs X.stack
    · obtain⟨sl,e2⟩:=slot b o1 hb e1
      exact⟨_,e2⟩
    · exact⟨_,keep b o1 (s0a b o e).1 (s0a b o e).2 hb e1⟩
  · exact⟨.ref T,fl,ha,na,fun T' z=>by cases z;exact nT⟩
end
def ti (X:Cx)(E:XK): Prop:=∀(pins:List (Addr×Obj)) (σ:St) (H:Hp) (s:Shared) (a T:Addr) (cls mk:Value) (dct:Option Addr),Inv X pins σ H s->zD s.heap a cls dct T mk->H a=none->X.s₀.heap.get? a=none ->
  H T=none->X.s₀.heap.get? T=none->E cls dct H->X.xe (.ref a) s
section
variable {P:Program}{w:World}{K:W.Frag}{mg:Str->Option Value}{base:Heap}{N:List Str}{qual:Str}{scope:Scope}{f:Addr}{cd:Value}{A:Around}{outer:List Env}{s:Shared}{H:Hp}{E:XK}
theorem DH:ti (iq (CXE P w) P w K mg base N qual scope f cd A outer s H E) E:=by
  intro pins σ H1 s1 a T cls mk dct I fl ha na hT nT q
  show wpAny _ _ (leaving _ (.ref a)) _ _ s1
  by_cases hm:(mk==rawInt s.heap.objs.size)=true
  · rw[beq_iff_eq.mp hm] at fl
    have hTd:∃oT ts,s1.heap.get? T=some oT/\oT.data=.fields ts:=by
      obtain⟨_,_,oT,ts,_,_,_,_,_,_,h1,h2,_⟩:=fl
      exact⟨oT,ts,h1,h2⟩
    obtain⟨oT,ts,hTo,hTt⟩:=hTd
    refine A8 (L:=s.heap.objs.size) rfl fl fun h' k fl'=>?_
    obtain⟨y1,y2,y3⟩:=Fm (hd:=.ref T) I rfl rfl ha na (fun T' z=>by cases z;exact⟨hT,nT⟩) ⟨hT,nT⟩ (fun b o _ nb _ e=>k b o (fun z=>nb (by rw[z])) e) (fun b o hb e=>⟨o.slots,k b o (fun z=>by
      obtain⟨_,o',ho,hn⟩:=I.stack.mem hb
      rw[z,hTo] at ho;cases ho
      exact hn ts hTt) e⟩) fl'
    exact⟨a,cls,dct,H1,rfl,I.os,I.bare,y1,y2,y3,q⟩
  · refine A9 (L:=s.heap.objs.size) (outer:=outer) I.ok.frames I.stack rfl fl hm fun h' T2 n1 n2 k1 k2 fl'=>?_
    obtain⟨y1,y2,y3⟩:=B3 (hd:=.ref T) I rfl rfl ha na (fun T' z=>by cases z;exact⟨hT,nT⟩) n1 (fun b o nb nt nf e=>k1 b o nb (fun z=>nt (by rw[z])) nf e) k2 fl'
    exact⟨a,cls,dct,H1,rfl,I.os,I.bare,y1,y2,y3,q⟩
end
def rY (X:Cx)(pins:List (Addr×Obj))(σ:St)(C:Addr)(E:XK): Value->Shared->Prop:=fun e s=>∃(a:Addr) (cls:Value) (dct:Option Addr) (hd:Value) (H':Hp) (m:Str->Option Value),e=.ref a/\Inv X pins σ H' s/\l8 s.heap a cls dct hd/\H' a=none/\X.s₀.heap.get? a=none ∧
  (∀T,hd=.ref T->H' T=none/\X.s₀.heap.get? T=none)/\(∀p∈X.pn++pins,p.1≠a/\hd≠.ref p.1)/\s.heap.Ns C m/\lV X pins H' C/\C≠a/\hd≠.ref C/\E cls dct H'
def cL (X:Cx)(scope:Scope)(NN:List Str)(C:Addr)(s:Shared)(H:Hp)(pins:List (Addr×Obj))(fp:List Addr)(xe:Value->Shared->Prop): Cx:={ dw X scope NN C s H pins fp with xe:=xe }
section
variable {X:Cx}{pins:List (Addr×Obj)}{σ:St}{C:Addr}{E:XK}
theorem Fn {cenv:Env}{R:Value->Shared->Prop}(hex:X.ex=[])(hst:X.stack=X.env::X.outer)(hfr:X.env.frame=some X.env.locals)(hC:ti X E){e:Value}{s:Shared}(r:rY X pins σ C E e s)(hf:cenv.frame=X.env.frame)
    (hR:∀(s':Shared),(∃m,s'.heap.Ns C m/\∀h',Heap.SameBut C s'.heap h'->∀cenv:Env,cenv.locals=C->wpAny (model X.prog X.w) X.A (PySem.passOn "comprehension.variables-let-go" e cenv:Sem Value) (fun _ _=>False) X.xe { s' with heap:=h' })->R e s') :
    notedBy (model X.prog X.w) X.A cenv R e s:=by
  obtain⟨a,cls,dct,hd,H',m,rfl,I,fl,ha,na,hT,hp,hn,fC,nCa,nCh,q⟩:=r
  have e1:noteFrame (.ref a) cenv=noteFrame (.ref a) X.env:=by
    unfold noteFrame PySem.frameOf
    rw[hf]
  unfold notedBy
  rw[e1]
  refine DG (outer:=X.outer) (by have:=I.ok.frames;rw[hst] at this;exact this) (by have:=I.stack;rw[hst] at this;exact this) hfr fl fun h4 T n1 n2 k1 k2 sz fl4=>?_
  have I4:Inv X pins σ H' { s with heap:=h4,toks:=s.toks }:=I.flew ha na hT fl hp (fun b o m1 m2 m3 e=>k1 b o m1 m2 (by rw[<-hst];exact m3) e) (fun b o m1 e=>k2 b o (by rw[<-hst];exact m1) e)
  have nT:=tS I n1
  have nT0:=iu I hex n1
  have fT:lV X pins H' T:=I.rS sz nT
  refine hR _ ⟨m,?_,fun h5 sb cenv' hl'=>?_⟩
  · have nF:C∉frs X.stack:=fun z=>by
      rcases List.mem_cons.mp (I.iK C z) with w | w
      · exact fC.2.1 w
      · exact fC.2.2.1 w
    obtain⟨o,es,ep,ho,r⟩:=hn
    exact⟨o,es,ep,k1 C o nCa nCh (by rw[<-hst];exact nF) ho,r⟩
  · obtain⟨f0,f1,f2,f3,f4,f5⟩:=fC
    have I5:Inv X pins σ H' { s with heap:=h5,toks:=s.toks }:=I4.turned (t':=s.toks) (fun b o hb e=>(sb.2 b hb).trans e) f0 f1 f3 f4 f5
    have nCT:T≠C:=fun z=>by
      obtain⟨o,es,ep,ho,_⟩:=hn
      rw[z,ho] at n1;cases n1
    have fl5:zD h5 a cls dct T (rawInt X.env.locals):=by
      obtain⟨oe,vs,oT,ts,he,c1,c2,hdt,g1,hTa,hT',hTd,g3⟩:=fl4
      exact⟨oe,vs,oT,ts,(sb.2 a nCa.symm).trans he,c1,c2,hdt,g1,hTa,(sb.2 T nCT).trans hT',hTd,g3⟩
    refine Fk fl5 fun h6 mk k6 fl6=>?_
    obtain⟨g0,g1,g2,g3,g4,g5⟩:=fT
    exact hC pins σ H' _ a T cls mk dct (I5.turned (t':=s.toks) k6 g0 g1 g3 g4 g5) fl6 ha na nT nT0 q
end
section
variable {prog:Program}{w:World}{A:Around}{R:Result->Shared->Prop}{s:Shared}
theorem A_ {elt target iter:Expr}{ifs:List Expr}{scope:Scope}{pos:Pos}{it acc:Value}{env:Env}{EE:Value->Shared->Prop}(I:Nat->Shared->Prop)(hEE:∀x s,EE x s->notedBy (model prog w) A env (fun x s=>R (.error x) s) x s)
    (turn:∀n s,I n s->wpAny (model prog w) A (pyNext it) (fun r s₁=>match r with
      | none=>R (.ok .next) s₁
      | some v=>wpAny (model prog w) A (letOwnedTupleGo target it v) (fun _ s₂=>wpAny (model prog w) A (assign target env v) (fun _ s₃ =>
          wpAny (model prog w) A (forIn ifs true fun c r=>if r=true then do let ok <-isTrue c env (eval c env);pure (ForInStep.yield ok) else pure (ForInStep.yield r)) (fun ok s₄ =>
            if ok=true then wpAny (model prog w) A (eval elt env) (fun x s₅=>wpAny (model prog w) A (call (.builtin "list.append") [acc,x]) (fun _ s₆=>∃m,m < n/\I m s₆) EE s₅) EE s₄
            else ∃m,m < n/\I m s₄) EE s₃) EE s₂) EE s₁) EE s)
    (n:Nat) (h:I n s):codeAny (model prog w) A (.compLoop (.ListComp elt [⟨target,iter,ifs,0⟩] scope pos) 0 it acc env) R s:=by
  refine codeAny_loop rfl I (fun n s hI=>?_) n h
  show wpAny _ A ((compTurn (.ListComp elt [⟨target,iter,ifs,0⟩] scope pos) 0 it acc env).onRaise (fun x=>do noteFrame x env;theTreesLotGoes x)) _ _ s
  refine wpAny_noted ?_
  rw[compTurn_list]
  have no:∀{α:Type} {t:Sem α} {Q:α->Shared->Prop} {s:Shared},wpAny (model prog w) A t Q EE s->wpAny (model prog w) A t Q (notedBy (model prog w) A env (fun x s=>R (.error x) s)) s:=fun {α t Q s} z=>wpAny_mono z (fun _ _ q=>q) hEE
  refine wpAny_bind (wpAny_standAt (wpAny_bind (no (wpAny_mono (turn n s hI) (fun r s₁ h₁=>?_) fun _ _ z=>z))))
  cases r with
  | none=>exact wpAny_pure h₁
  | some v =>
    refine wpAny_bind (no (wpAny_mono h₁ (fun _ s₂ h₂=>?_) fun _ _ z=>z))
    refine wpAny_bind (no (wpAny_mono h₂ (fun _ s₃ h₃=>?_) fun _ _ z=>z))
    refine wpAny_bind (no (wpAny_mono h₃ (fun ok s₄ h₄=>?_) fun _ _ z=>z))
    cases ok with
    | false=>exact wpAny_pure ⟨rfl,h₄⟩
    | true=>exact wpAny_bind (wpAny_bind (no (wpAny_mono h₄ (fun x s₅ h₅=>wpAny_bind (no (wpAny_mono h₅ (fun _ s₆ h₆=>wpAny_pure (wpAny_pure ⟨rfl,h₆⟩)) fun _ _ z=>z))) fun _ _ z=>z)))
end
section
variable {X:Cx}{E:XK}{scope:Scope}{xs N':List Str}{target iter elt:Expr}{ifs:List Expr}{pos:Pos}{wi:TI}{g:TG}{tc:TT}{te:TE}
theorem zE (hc:X.calm=true)(cok:jz scope X.env.scope xs N' X.N)(hi:PI X target iter wi)
    (hex:X.ex=[]) (hst:X.stack=X.env::X.outer) (hfr:X.env.frame=some X.env.locals) (hC:ti X E)
    (hg:∀C s H pins fp xe,PG (cL X scope (xs++N') C s H pins fp xe) target g) (ht:∀C s H pins fp xe,bP (CXE X.prog X.w) (cL X scope (xs++N') C s H pins fp xe) (fun _=>E)->PTs (cL X scope (xs++N') C s H pins fp xe) ifs tc)
    (he:∀C s H pins fp xe,bP (CXE X.prog X.w) (cL X scope (xs++N') C s H pins fp xe) (fun _=>E)->PE (cL X scope (xs++N') C s H pins fp xe) elt te)
    {pins:List (Addr×Obj)} {s:Shared} {σ:St} {H:Hp} {Q:VK} {RR:Value->Addr->Result->Shared->Prop} (I:Inv X pins σ H s) (h:B5 xs.length wi g tc te σ H Q)
    (hRE:∀acc C e s',(∃m,s'.heap.Ns C m/\∀h',Heap.SameBut C s'.heap h'->∀cenv:Env,cenv.locals=C->wpAny (model X.prog X.w) X.A (PySem.passOn "comprehension.variables-let-go" e cenv:Sem Value) (fun _ _=>False) X.xe { s' with heap:=h' })->RR acc C (.error e) s')
    (hRR:∀a C m H' s',Inv X pins σ H' s'->lV X pins H' C->s'.heap.Ns C m->Q (.ref a) H'->RR (.ref a) C (.ok .next) s') :
    wpAny (model X.prog X.w) X.A (eval iter X.env) (fun x s₁=>wpAny (model X.prog X.w) X.A (pyIter x) (fun it s₂=>wpAny (model X.prog X.w) X.A (newList []) (fun acc s₃ =>
      wpAny (model X.prog X.w) X.A (newFunctionEnv scope X.env.globals (j_ X.env.cells scope.names []) [] X.env.qual none .none (some X.env)) (fun cenv s₄ =>
        codeAny (model X.prog X.w) X.A (.compStart (.ListComp elt [⟨target,iter,ifs,0⟩] scope pos) 0 it acc { cenv with scope:=relabel scope X.env }) (RR acc cenv.locals) s₄) X.xe s₃) X.xe s₂) X.xe s₁) X.xe s:=by
  refine thn (hi pins s σ H _ I h) fun v s1 h1=>thn h1 fun itv s2 h2=>?_
  obtain⟨it,fp,tn,J,H2,e,I2,T,st2,f2,h3⟩:=h2
  subst e
  have ob2:∀b∈fp,∃o,s2.heap.get? b=some o:=fun b hb=>let ⟨o,q,_⟩:=T.obj _ _ st2 b hb;⟨o,q⟩
  have AV:H2 s2.heap.objs.size=none:=I2.fresh
  have I3:=I2.HV (its:=[]) (ys:=[]) (t':=s2.toks) .nil (Nat.zero_le _)
  refine wpAny_newObj_type (T := "list") ?_
  obtain⟨W,n,w0,turn⟩:=h3 s2.heap.objs.size AV
  generalize hs3:({ s2 with heap:=s2.heap.push { cls:=.type "list",data:=.seq ([]:List Value).toArray },toks:=s2.toks }:Shared)=s3 at I3
  have EH:∀b o,s2.heap.get? b=some o->s3.heap.get? b=some o:=fun b o q=>by rw[<-hs3];exact Heap.get?_push_of_some _ q
  have f3:∀b∈fp,lV X pins (upd H2 s2.heap.objs.size (.lst [])) b:=fun b hb=>by
    obtain⟨o,q⟩:=ob2 b hb
    obtain⟨q0,q1⟩:=f2 b hb
    exact⟨by rw[av (Nat.ne_of_lt (Heap.lt_size q))];exact q0,q1⟩
  have ob3:∀b∈fp,∃o,s3.heap.get? b=some o:=fun b hb=>let ⟨o,q⟩:=ob2 b hb;⟨o,EH b o q⟩
  have st3:tn 0 s3.heap:=T.keep _ _ _ st2 fun b _ o q=>EH b o q
  refine wpAny_newFunctionEnv (fun y hy z=>?_) (fun y hy=>nomatch hy) (fun h4 hns hsb=>?_) cok.kind
  · have:=List.all_eq_true.mp cok.AT y hy
    rw[z] at this
    simp at this
  have zp:∀b o,s3.heap.get? b=some o->h4.get? b=some o:=fun b o q=>(hsb.2 b (Nat.ne_of_lt (Heap.lt_size q))).trans (Heap.get?_push_of_some _ q)
  have hh:=I3.ok.hd hc
  have J4:=tU (tk:=s3.toks+([]:List (Str×Value)).length) I3 cok f3 ob3 hns zp
  have J4:Inv (cL X scope (xs++N') s3.heap.objs.size s3 (upd H2 s2.heap.objs.size (.lst [])) pins fp (rY X pins σ s3.heap.objs.size E)) [] _ _ _:=Inv.Ez (A':=X.A) (j9:=X.calm) J4 rfl (fun _=>hh) fun p q=>q
  have bk:∀{iL:List (Addr×Obj)} {τ:St} {H':Hp} {s':Shared},Inv (cL X scope (xs++N') s3.heap.objs.size s3 (upd H2 s2.heap.objs.size (.lst [])) pins fp (rY X pins σ s3.heap.objs.size E)) iL τ H' s'->Inv X pins σ H' s':=fun {iL τ H' s'} J =>
    comp_back (iL:=iL) (τ:=τ) I3 f3 (Inv.Gv (X:=dw X scope (xs++N') s3.heap.objs.size s3 (upd H2 s2.heap.objs.size (.lst [])) pins fp) (A':=X.A) (j9:=X.calm) J rfl (fun _=>hh) fun p q=>q)
  have hP2:bP (CXE X.prog X.w) (cL X scope (xs++N') s3.heap.objs.size s3 (upd H2 s2.heap.objs.size (.lst [])) pins fp (rY X pins σ s3.heap.objs.size E)) (fun _=>E):=by
    intro eG σ2 Ha sa e sb Ia hx
    obtain⟨a,cls,dct,Hb,he,hos,hgn,un,hok,⟨hd,fl,ha,na,hT⟩,q⟩:=hx
    have Ib:=Ia.call' hos un hok hgn (fun b z=>absurd z (by simp))
    have Xa:=bk Ia
    have Xb:=bk Ib
    obtain⟨mb,hnb,_⟩:=Ib.loc
    obtain⟨ma,⟨oa,_,_,hoa,_⟩,_⟩:=Ia.loc
    have e1:=Ib.free
    refine⟨a,cls,dct,hd,Hb,mb,he,Xb,fl,ha,iu Xa hex na,fun T z=>⟨(hT T z).1,iu Xa hex (hT T z).2⟩,fun p z=>?_,hnb,I3.rS (Nat.le_refl _) e1,fun z=>?_,fun z=>?_,q⟩
    · have e:=(Xa.pin p z).1
      exact⟨fun w=>(by rw[w,na] at e;cases e),fun w=>(by rw[(hT _ w).2] at e;cases e)⟩
    · have hoa:sa.heap.get? s3.heap.objs.size=some oa:=hoa
      rw[z,na] at hoa;cases hoa
    · have hoa:sa.heap.get? s3.heap.objs.size=some oa:=hoa
      rw[(hT _ z).2] at hoa;cases hoa
  have st4:tn 0 h4:=T.keep _ _ _ st3 fun b _ o q=>zp b o q
  generalize hY:cL X scope (xs++N') s3.heap.objs.size s3 (upd H2 s2.heap.objs.size (.lst [])) pins fp (rY X pins σ s3.heap.objs.size E)=Y at J4 hP2
  have hP:Y.prog=X.prog:=by rw[<-hY];rfl
  have hw:Y.w=X.w:=by rw[<-hY];rfl
  have hK:Y.K=X.K:=by rw[<-hY];rfl
  have hcY:Y.calm=true:=by rw[<-hY];exact hc
  have stat:∀{H':Hp},(∀b∈fp,H' b=none)->∀b∈fp,lV Y [] H' b:=fun {H'} hn b hb=>by
    obtain⟨o,q⟩:=ob3 b hb
    rw[<-hY]
    refine⟨hn b hb,Nat.ne_of_lt (Heap.lt_size q),fun z=>?_,.inl hb,fun y c hy=>?_,fun p hp=>?_⟩
    · rcases List.mem_cons.mp (I3.iK b z) with w | w
      · exact(f3 b hb).2.1 w
      · exact(f3 b hb).2.2.1 w
    · have hx:=J4.ok.exf b (by rw[<-hY];exact hb)
      rw[<-hY] at hx
      exact hx.2 y c hy
    · have hp':p∈X.pn++pins:=by simpa [cL,dw] using hp
      exact(f3 b hb).2.2.2.2.2 p hp'
  have loop:∀s5:Shared,Inv Y [] (List.replicate xs.length none++σ) (upd H2 s2.heap.objs.size (.lst [])) s5->tn 0 s5.heap ->
      codeAny (model X.prog X.w) X.A (.compLoop (.ListComp elt [⟨target,iter,ifs,0⟩] scope pos) 0 (.ref it) (.ref s2.heap.objs.size) Y.env) (RR (.ref s2.heap.objs.size) s3.heap.objs.size) s5:=by
    intro s5 J5 st5
    refine A_ (EE:=rY X pins σ s3.heap.objs.size E) (fun k s'=>∃(i:Nat) (ys:List V) (H':Hp) (τ:St),k+i=n/\τ.length=xs.length/\Inv Y [] (τ++σ) H' s'/\tn i s'.heap/\(∀b∈fp,H' b=none)/\W i ys H') (fun x sx rx=>Fn (R:=fun x s=>RR (.ref s2.heap.objs.size) s3.heap.objs.size (.error x) s) hex hst hfr hC rx (by rw[<-hY];rfl) fun s' z=>hRE _ _ _ _ z) ?_ n
      ⟨0,[],_,List.replicate xs.length none,rfl,List.length_replicate ..,J5,st5,fun b hb=>(f3 b hb).1,w0⟩
    rintro k s6 ⟨i,ys,H6,τ,hk,hτ,J6,st6,fr6,w6⟩
    obtain⟨hacc,hlen,hcase⟩:=turn i ys H6 w6
    rcases hcase with ⟨hin,stop,hq⟩ | ⟨hin,go,step⟩
    · refine thn (A:=X.A) (by have:=T.done Y hP hw hK hcY i [] s6 (τ++σ) H6 (rY X pins σ s3.heap.objs.size E) J6 (stat fr6) st6 stop;rw[<-hY] at this;exact this) fun r s7 q7=>?_
      obtain⟨hr,J7⟩:=q7
      subst hr
      rw[hY] at J7
      obtain⟨m7,hn7,_⟩:=J7.loc
      have e1:Y.env.locals=s3.heap.objs.size:=by rw[<-hY];rfl
      rw[e1] at hn7
      have J7':Inv X pins σ H6 s7:=bk (by rw[hY];exact J7)
      refine hRR _ _ m7 H6 s7 J7' ?_ hn7 hq
      have e2:=J7.free
      rw[e1] at e2
      exact I3.rS (Nat.le_refl _) e2
    · refine thn (A:=X.A) (by have:=T.item Y hP hw hK hcY i [] s6 (τ++σ) H6 (rY X pins σ s3.heap.objs.size E) J6 (stat fr6) st6 go;rw[<-hY] at this;exact this) fun r s7 q7=>?_
      obtain⟨u,hr,q7⟩:=q7
      subst hr
      have hA:Y.A=X.A:=by rw[<-hY];rfl
      rw[hY] at q7
      rw[hA] at q7
      refine thn q7 fun _ s8 q8=>?_
      obtain⟨x8,H8,J8,r8,y8,st8,fr8⟩:=q8
      have J8':=J8.pinned (stat fr8) (T.obj _ _ st8)
      have g8:=hg s3.heap.objs.size s3 (upd H2 s2.heap.objs.size (.lst [])) pins fp (rY X pins σ s3.heap.objs.size E)
      have t8:=ht s3.heap.objs.size s3 (upd H2 s2.heap.objs.size (.lst [])) pins fp (rY X pins σ s3.heap.objs.size E) (by rw[hY];exact hP2)
      have e8:=he s3.heap.objs.size s3 (upd H2 s2.heap.objs.size (.lst [])) pins fp (rY X pins σ s3.heap.objs.size E) (by rw[hY];exact hP2)
      have a8:∀{Z:Cx},Z=Y->MtM Z "list.append" xL:=fun {Z} _=>ng
      have hxe:Y.xe=rY X pins σ s3.heap.objs.size E:=by rw[<-hY];rfl
      rw[hY] at g8 t8 e8
      have back:∀{τ2:St} {H9:Hp} {s9:Shared},Inv Y ([]++p7 fp s8.heap) τ2 H9 s9->Inv Y [] τ2 H9 s9/\tn (i+1) s9.heap/\∀b∈fp,H9 b=none:=fun {τ2 H9 s9} J9=>by
        refine⟨J9.l5,T.keep _ _ _ st8 fun b hb o q=>(J9.pin (b,o) (List.mem_append_right _ (List.mem_append_right _ (fL hb q)))).1,fun b hb=>?_⟩
        obtain⟨o,q,d⟩:=T.obj _ _ st8 b hb
        exact(J9.pin (b,o) (List.mem_append_right _ (List.mem_append_right _ (fL hb q)))).2.1
      have z1:=g8 _ s8 (τ++σ) H8 x8 u _ J8' r8 (step x8 H8 y8 τ hτ)
      rw[hP,hw,hA,hxe] at z1
      refine thn z1 fun _ s9 q9=>?_
      obtain⟨τ9,H9,J9,⟨τ',hτ',e9⟩,q9⟩:=q9
      subst e9
      have z2:=t8 _ s9 (τ'++σ) H9 _ J9 q9
      rw[hP,hw,hA,hxe] at z2
      refine thn z2 fun b s10 q10=>?_
      obtain⟨H10,J10,q10⟩:=q10
      cases b with
      | false =>
        rw[if_neg Bool.false_ne_true] at q10 ⊢
        obtain⟨b1,b2,b3⟩:=back J10
        exact⟨k-1,by omega,i+1,ys,H10,τ',by omega,hτ',b1,b2,b3,q10⟩
      | true =>
        rw[if_pos rfl] at q10 ⊢
        have z3:=e8 _ s10 (τ'++σ) H10 _ J10 q10
        rw[hP,hw,hA,hxe] at z3
        refine thn z3 fun y s11 q11=>?_
        obtain⟨v11,H11,J11,r11,AW,w11⟩:=q11
        have z4:=a8 rfl _ s11 (τ'++σ) H11 (.ref s2.heap.objs.size) [v11] (.ref s2.heap.objs.size) [y] (fun _ H'=>W (i+1) (ys++[v11]) H') J11 rfl (.cons r11 .nil) ⟨_,ys,v11,rfl,rfl,AW,hlen,w11⟩
        rw[hP,hw,hA,hxe] at z4
        refine thn z4 fun _ s12 q12=>?_
        obtain⟨_,H12,J12,_,w12⟩:=q12
        obtain⟨b1,b2,b3⟩:=back J12
        exact⟨k-1,by omega,i+1,ys++[v11],H12,τ',by omega,hτ',b1,b2,b3,w12⟩
  have Ij:({ newEnv scope s3.heap.objs.size X.env.globals (j_ X.env.cells scope.names []) X.env.qual none .none (some X.env) X.env.builtins with scope:=relabel scope X.env }:Env)=Y.env:=by rw[<-hY];rfl
  have l4:=loop _ J4 st4
  rw[<-Ij] at l4
  exact codeAny_compStart_list l4 (T.self _ 0 _ _ _ st4 l4)
theorem Fo (hc:X.calm=true)(cok:jz scope X.env.scope xs N' X.N)(hi:PI X target iter wi)
    (hex:X.ex=[]) (hst:X.stack=X.env::X.outer) (hfr:X.env.frame=some X.env.locals) (hC:ti X E)
    (hg:∀C s H pins fp xe,PG (cL X scope (xs++N') C s H pins fp xe) target g) (ht:∀C s H pins fp xe,bP (CXE X.prog X.w) (cL X scope (xs++N') C s H pins fp xe) (fun _=>E)->PTs (cL X scope (xs++N') C s H pins fp xe) ifs tc)
    (he:∀C s H pins fp xe,bP (CXE X.prog X.w) (cL X scope (xs++N') C s H pins fp xe) (fun _=>E)->PE (cL X scope (xs++N') C s H pins fp xe) elt te)
    (hs:∀x,foldedSetIterable iter X.env x=pure x:=by intro _;rfl):PE X (.ListComp elt [⟨target,iter,ifs,0⟩] scope pos) (B5 xs.length wi g tc te):=by
  intro pins s σ H Q I h
  rw[eval_ListComp]
  refine wpAny_comprehension_free (use:=none) rfl hs (B6 I cok) cok.kind cok.own (zE hc cok hi hex hst hfr hC hg ht he I h (fun acc C e s' z=>z) fun a C m H' s' J fC hn q=>⟨m,hn,fun h' hs'=>?_⟩)
  obtain⟨f0,f1,f2,f3,f4,f5⟩:=fC
  exact⟨.ref a,H',J.turned (t':=s'.toks) (fun b o hb e=>(hs'.2 b hb).trans e) f0 f1 f3 f4 f5,rfl,q⟩
end
end L2

set_option maxHeartbeats 4000000
namespace L2
open PySem PySem.Spec PyProof.Rows
theorem DI {P:Program}{w:World}{K:W.Frag}{tg:Expr}(it:Addr)(lo:Int)(n:Nat): Turn P w K tg (Itr lo n) [it] it (fun i h=>IsLongIter h it (lo+(i:Nat)*1) ((n:Int)-(i:Nat)) 1) where
  mem:=by simp
  self:=fun _ _ _ _ _ st h=>wpAny_pyIter_longiter st h
  keep:=fun i h h' st k=>k it (by simp) _ st
  obj:=fun i h st b hb=>by
    rw[show b=it by simpa using hb]
    exact⟨_,st,fun v z=>by cases (show Data.fields _=Data.cell v from z)⟩
  item:=by
    intro X hP hw hK hc i pins s σ H E I hf st hg
    subst hP hw hK
    obtain⟨f0,f1,_,f3,f4,f5⟩:=hf it (by simp)
    refine(Walks.longrange (prog:=X.prog) (w:=X.w) (I.ok.hd hc) it lo 1 n).item i s _ _ hg st fun v h' tk hv st' kk=>?_
    obtain⟨t,rfl⟩:=hv
    refine⟨_,rfl,wH (s:={ s with heap:=h',toks:=tk }) (n := "longrange_iterator") st' rfl rfl (by decide) ⟨.int (lo+i),H,I.turned (fun b o hb e=>kk b o (by simpa using hb) e) f0 f1 f3 f4 f5,⟨t,?_⟩,⟨rfl,rfl⟩,st',fun b hb=>(hf b hb).1⟩⟩
    rw[Int.mul_one]
  done:=by
    intro X hP hw hK hc i pins s σ H E I hf st hg
    subst hP hw hK
    obtain⟨f0,f1,_,f3,f4,f5⟩:=hf it (by simp)
    exact wpAny_pyNext_long_end (I.ok.hd hc) st (by have:n<=i:=hg;omega) fun h' eb=>⟨rfl,I.turned (t':=s.toks) (fun b o hb e=>eb b o hb e) f0 f1 f3 f4 f5⟩
def JB (ta:TA): TI:=fun σ H R=>ta σ H fun vs H1=>∃i j:Int,vs=[.int i,.int j]/\R (Itr i (j-i).toNat) H1
section
variable {X:Cx}{tg:Expr}
theorem DJ {pins:List (Addr×Obj)}{σ:St}{H:Hp}{s:Shared}{R:It->Hp->Prop}{E:Value->Shared->Prop}{lo hi:Int}{t u v:Tok}{tk:Nat}(I:Inv X pins σ H s)
    (q:R (Itr lo (hi-lo).toNat) H):wpAny (model X.prog X.w) X.A (pyIter (.ref s.heap.objs.size)) (PIE X pins σ tg R) E { s with heap:=s.heap.push { cls:=.type "range",data:=.fields #[.int lo t,.int hi u,.int 1 v] },toks:=tk }:=by
  have I1:Inv X pins σ H { s with heap:=s.heap.push { cls:=.type "range",data:=.fields #[.int lo t,.int hi u,.int 1 v] },toks:=tk }:=I.kept fun b o e=>Heap.get?_push_of_some _ e
  have e1:lo+((0:Nat):Int)*1=lo:=by simp
  have e2:(((hi-lo).toNat:Nat):Int)-((0:Nat):Int)=Builtin.Range.rangeSize lo hi 1:=by rw[rangeSize_one];split<;>omega
  have ff:∀b∈[(s.heap.push { cls:=.type "range",data:=.fields #[.int lo t,.int hi u,.int 1 v] }).objs.size],lV X pins H b:=fun b hb=>by
    rw[List.mem_singleton.mp hb]
    exact I1.rS (Nat.le_refl _) (I1.hok.fresh (Nat.le_refl _))
  cases hs:Builtin.Range.small lo hi 1 with
  | true =>
    refine wpAny_pyIter_range (IsRange.new ..) hs ⟨_,_,_,_,H,rfl,I1.kept (t':=tk) fun b o e=>Heap.get?_push_of_some _ e,tJ _ lo (hi-lo).toNat,?_,ff,q⟩
    show IsRangeIter _ _ (lo+((0:Nat):Int)*1) ((((hi-lo).toNat:Nat):Int)-((0:Nat):Int)) 1
    rw[e1,e2]
    exact Heap.get?_push_size _ rfl
  | false =>
    refine wpAny_pyIter_longrange (IsRange.new ..) hs ⟨_,_,_,_,H,rfl,I1.kept (t':=tk) fun b o e=>Heap.get?_push_of_some _ e,DI _ lo (hi-lo).toNat,?_,ff,q⟩
    show IsLongIter _ _ (lo+((0:Nat):Int)*1) ((((hi-lo).toNat:Nat):Int)-((0:Nat):Int)) 1
    rw[e1,e2]
    exact Heap.get?_push_size _ rfl
theorem xi {a b:Expr} {ta:TA} {p pos:Pos} (hg:Gl X "range") (hm:X.mg "range" = none) (ha:PA X [a,b] ta) (hs:starEach [a,b] X.env=[(false,eval a X.env),(false,eval b X.env)]:=by rfl) (hs2:starEach [b] X.env=[(false,eval b X.env)]:=by rfl) :
    PI X tg (.Call (.Name "range" p) [a,b] [] pos) (JB ta):=by
  intro pins s σ H R I h
  refine Call_ (iM I hg hm boot_range (PyProof.Rows.callWith_type1 (thn (ha pos pins s σ H _ I h) fun us s1 h1=>?_) (by rw[hs,hs2]) (by rw[hs2];rfl)))
  obtain⟨vs,H1,I1,r1,i,j,rfl,q⟩:=h1
  cases r1 with
  | cons r rr=>cases rr with
    | cons r' rn =>
      cases rn
      obtain⟨t,rfl⟩:=r
      obtain⟨t',rfl⟩:=r'
      exact call_range_2 (DJ I1 q)
end
end L2

set_option maxHeartbeats 4000000
local macro_rules | `(tactic| walk_at "lk") => `(tactic| first | exact L2.dU | (apply L2.bT; (first | done | decide +kernel); walk_at "lk") | exact rfl)
local macro_rules | `(tactic| walk_at "hp") => `(tactic| first | assumption | exact L2.aq | (apply L2.cz; (first | done | assumption); walk_at "hp") | (apply L2.dS; (first | done | assumption); walk_at "hp"))
local macro_rules | `(tactic| walk_at "ty") => `(tactic| first | assumption | exact L2.TyE.of (L2.aC.int _) | exact L2.TyE.of (L2.aC.bl _) | exact L2.TyE.of L2.aC.non | exact L2.TyE.of (L2.aC.str _) | (apply L2.TyE.of; apply L2.aC.lst; walk_at "hp") | (apply L2.TyE.of; apply L2.aC.tup; walk_at "hp") | (apply L2.TyE.of; apply L2.aC.dK; walk_at "hp"))
local macro_rules | `(tactic| walk_at "cl") => `(tactic| first | (with_reducible show (_ : Int) ≤ _; omega) | (with_reducible show (_ : Int) < _; omega) | (with_reducible show (_ : Nat) ≤ _; omega) | (with_reducible show (_ : Nat) < _; omega) | (with_reducible assumption) | exact rfl | assumption | (with_reducible apply L2.SqL.of; walk_at "hp") | (with_reducible apply L2.SqT.of; walk_at "hp") | walk_at "hp" | ((with_reducible apply Or.inl); assumption) | ((with_reducible apply Or.inr); assumption) | (with_reducible apply Or.inl; with_reducible apply L2.SqL.of; walk_at "hp") | (with_reducible apply Or.inr; with_reducible apply L2.SqT.of; walk_at "hp") | (apply Or.inl; refine And.intro rfl ?_; apply Exists.intro; apply L2.SqL.of; walk_at "hp") | walk_at "lk" | walk_at "ty" | exact L2.bv _ _ | exact L2.cu _ | exact L2.aP | exact L2.aR (Nat.le_of_ble_eq_true rfl) | (show List.length _ < _; exact Nat.le_of_ble_eq_true rfl) | omega | (apply Exists.intro; with_reducible apply L2.SqL.of; walk_at "hp") | (apply Exists.intro; with_reducible apply L2.SqT.of; walk_at "hp") | (apply Or.inr; refine ⟨?_, ?_⟩ <;> omega) | (apply Or.inl; refine ⟨?_, ?_⟩ <;> omega) | decide | (show (0 : Int) < _; first | decide | omega | assumption) | (refine ⟨?_, ?_⟩ <;> decide) | (refine ⟨?_, ?_, ?_⟩ <;> decide) )
local macro_rules | `(tactic| walk_at "ex") => `(tactic| ((fail_if_success (refine L2.exW ?_ ?_)); (fail_if_success (refine L2.jk ?_ ?_)); (fail_if_success (refine L2.exN ?_ ?_)); (fail_if_success (refine L2.exD ?_ ?_)); apply Exists.intro))
local macro_rules | `(tactic| walk_at "go") => `(tactic| repeat (first | (apply And.intro; (walk_at "cl")) | walk_at "ex"))
namespace K36
open PySem L2
def top (i:Nat): Stmt:=PySem.Challenge.pw_leafframe_k36_map_unmap_rights.main.body.getD i (.Pass ⟨0,0,0,0⟩)
abbrev jB:Stmt:=top 80
abbrev iS:Stmt:=top 81
abbrev fM:Stmt:=inClass (top 82) 0
abbrev jC:Stmt:=inClass (top 82) 1
abbrev kG:Stmt:=inClass (top 82) 2
abbrev dX:Stmt:=inClass (top 82) 3
abbrev da:Stmt:=inClass (top 82) 4
abbrev mh:Stmt:=inClass (top 82) 5
abbrev eC:Stmt:=inClass (top 82) 9
abbrev gK:Stmt:=inClass (top 82) 7
abbrev fN:Stmt:=inClass (top 82) 8
abbrev gL:Stmt:=inClass (top 82) 10
abbrev iT:Stmt:=top 18
abbrev Ba:Stmt:=top 19
abbrev bw:Stmt:=inClass (top 20) 0
abbrev cK:Stmt:=inClass (top 20) 1
abbrev gM:Stmt:=inClass (top 21) 1
abbrev gN:Stmt:=inClass (top 22) 0
abbrev iU:Stmt:=inClass (top 22) 2
abbrev iV:Stmt:=inClass (top 23) 0
abbrev jD:Stmt:=inClass (top 23) 2
abbrev fO:Stmt:=inClass (top 24) 0
abbrev gO:Stmt:=inClass (top 24) 2
abbrev bn:Stmt:=inClass (top 12) 0
abbrev bo:Stmt:=inClass (top 13) 0
abbrev xX:Stmt:=top 54
abbrev gP:Stmt:=inClass (top 55) 0
abbrev iW:Stmt:=inClass (top 55) 1
abbrev iX:Stmt:=inClass (top 55) 2
abbrev mj:Stmt:=inClass (top 55) 3
abbrev n9:Stmt:=inClass (top 55) 4
abbrev gA:Stmt:=inClass (top 55) 5
abbrev fP:Stmt:=inClass (top 57) 0
abbrev kH:Stmt:=inClass (top 57) 6
abbrev ml:Stmt:=inClass (top 57) 7
abbrev dA:Stmt:=inClass (top 57) 4
abbrev mo:Stmt:=inClass (top 57) 1
abbrev kI:Stmt:=inClass (top 57) 2
abbrev iY:Stmt:=inClass (top 57) 3
abbrev kJ:Stmt:=inClass (top 57) 5
abbrev eR:Stmt:=inClass (top 30) 0
abbrev jE:Stmt:=inClass (top 30) 8
abbrev fQ:Stmt:=inClass (top 35) 0
abbrev kK:Stmt:=inClass (top 35) 12
abbrev gQ:Stmt:=inClass (top 27) 0
abbrev gR:Stmt:=inClass (top 38) 0
abbrev mq:Stmt:=inClass (top 38) 14
abbrev kL:Stmt:=inClass (top 35) 9
abbrev jF:Stmt:=inClass (top 27) 2
abbrev mr:Stmt:=inClass (top 38) 8
abbrev mw:Stmt:=inClass (top 38) 5
abbrev gS:Stmt:=inClass (top 49) 0
abbrev fR:Stmt:=inClass (top 49) 1
abbrev kM:Stmt:=inClass (top 49) 2
abbrev jG:Stmt:=inClass (top 49) 4
abbrev dY:Stmt:=inClass (top 49) 6
abbrev eS:Stmt:=inClass (top 51) 0
abbrev jH:Stmt:=inClass (top 51) 7
abbrev jI:Stmt:=inClass (top 51) 6
abbrev cF:Stmt:=inClass (top 59) 0
abbrev eT:Stmt:=top 60
abbrev kN:Stmt:=top 61
abbrev n_:Stmt:=top 62
abbrev mx:Stmt:=top 63
abbrev iZ:Stmt:=top 40
abbrev fS:Stmt:=top 41
abbrev i0:Stmt:=top 42
abbrev kP:Stmt:=top 43
abbrev i3:Stmt:=top 65
abbrev my:Stmt:=top 66
abbrev jJ:Stmt:=top 67
abbrev gT:Stmt:=top 68
abbrev kQ:Stmt:=top 72
abbrev kR:Stmt:=top 73
abbrev kS:Stmt:=top 75
abbrev kT:Stmt:=top 74
abbrev mz:Stmt:=top 71
abbrev i4:Stmt:=top 84
abbrev kU:Stmt:=top 85
abbrev jK:Stmt:=top 86
abbrev mB:Stmt:=top 87
abbrev jL:Stmt:=top 88
abbrev kW:Stmt:=top 89
abbrev eD:Stmt:=top 90
abbrev mC:Stmt:=top 91
abbrev gU:Stmt:=top 92
abbrev kX:Stmt:=top 93
abbrev eU:Stmt:=top 94
abbrev vF:List Str:=["widths", "low", "width"]
theorem mD:ay vF ["widths", "low"] (ak jB):=⟨rfl,rfl,rfl,by decide +kernel,rfl,by decide +kernel,by decide +kernel⟩
abbrev ua:List Str:=["number", "bound"]
theorem rZ:ay ua ["number", "bound"] (ak iS):=⟨rfl,rfl,rfl,by decide +kernel,rfl,by decide +kernel,by decide +kernel⟩
abbrev qj:List Str:=["self", "widths", "low"]
theorem o9:ay qj ["self", "widths", "low"] (ak fM):=⟨rfl,rfl,rfl,by decide +kernel,rfl,by decide +kernel,by decide +kernel⟩
abbrev vG:List Str:=["self"]
theorem ub:ay vG ["self"] (ak jC):=⟨rfl,rfl,rfl,by decide +kernel,rfl,by decide +kernel,by decide +kernel⟩
abbrev xY:List Str:=["self"]
theorem vH:ay xY ["self"] (ak kG):=⟨rfl,rfl,rfl,by decide +kernel,rfl,by decide +kernel,by decide +kernel⟩
abbrev nC:List Str:=["self"]
theorem mE:ay nC ["self"] (ak dX):=⟨rfl,rfl,rfl,by decide +kernel,rfl,by decide +kernel,by decide +kernel⟩
abbrev lX:List Str:=["self", "address"]
theorem kY:ay lX ["self", "address"] (ak da):=⟨rfl,rfl,rfl,by decide +kernel,rfl,by decide +kernel,by decide +kernel⟩
abbrev zF:List Str:=["self", "address", "rest", "parts", "width"]
theorem eV:ay zF ["self", "address"] (ak mh):=⟨rfl,rfl,rfl,by decide +kernel,rfl,by decide +kernel,by decide +kernel⟩
abbrev og:List Str:=["self", "page", "place"]
theorem nD:ay og ["self", "page", "place"] (ak eC):=⟨rfl,rfl,rfl,by decide +kernel,rfl,by decide +kernel,by decide +kernel⟩
abbrev sd:List Str:=["self", "address"]
theorem qk:ay sd ["self", "address"] (ak gK):=⟨rfl,rfl,rfl,by decide +kernel,rfl,by decide +kernel,by decide +kernel⟩
abbrev ql:List Str:=["self", "address"]
theorem o_:ay ql ["self", "address"] (ak fN):=⟨rfl,rfl,rfl,by decide +kernel,rfl,by decide +kernel,by decide +kernel⟩
abbrev se:List Str:=["self", "first", "many"]
theorem qm:ay se ["self", "first", "many"] (ak gL):=⟨rfl,rfl,rfl,by decide +kernel,rfl,by decide +kernel,by decide +kernel⟩
abbrev uc:List Str:=["rights"]
theorem sf:ay uc ["rights"] (ak iT):=⟨rfl,rfl,rfl,by decide +kernel,rfl,by decide +kernel,by decide +kernel⟩
abbrev Iy:List Str:=["rights", "deed"]
theorem GR:ay Iy ["rights", "deed"] (ak Ba):=⟨rfl,rfl,rfl,by decide +kernel,rfl,by decide +kernel,by decide +kernel⟩
abbrev sg:List Str:=["self", "rights"]
theorem qo:ay sg ["self", "rights"] (ak bw):=⟨rfl,rfl,rfl,by decide +kernel,rfl,by decide +kernel,by decide +kernel⟩
abbrev Bb:List Str:=["self", "deed"]
theorem zG:ay Bb ["self", "deed"] (ak cK):=⟨rfl,rfl,rfl,by decide +kernel,rfl,by decide +kernel,by decide +kernel⟩
abbrev si:List Str:=["self", "rights"]
theorem qp:ay si ["self", "rights"] (ak gM):=⟨rfl,rfl,rfl,by decide +kernel,rfl,by decide +kernel,by decide +kernel⟩
abbrev sj:List Str:=["self", "rights", "frame"]
theorem qq:ay sj ["self", "rights", "frame"] (ak gN):=⟨rfl,rfl,rfl,by decide +kernel,rfl,by decide +kernel,by decide +kernel⟩
abbrev ud:List Str:=["self", "rights"]
theorem sr:ay ud ["self", "rights"] (ak iU):=⟨rfl,rfl,rfl,by decide +kernel,rfl,by decide +kernel,by decide +kernel⟩
abbrev uf:List Str:=["self", "rights", "slot"]
theorem su:ay uf ["self", "rights", "slot"] (ak iV):=⟨rfl,rfl,rfl,by decide +kernel,rfl,by decide +kernel,by decide +kernel⟩
abbrev vI:List Str:=["self", "rights"]
theorem ug:ay vI ["self", "rights"] (ak jD):=⟨rfl,rfl,rfl,by decide +kernel,rfl,by decide +kernel,by decide +kernel⟩
abbrev qt:List Str:=["self", "rights", "name", "part"]
theorem pf:ay qt ["self", "rights", "name", "part"] (ak fO):=⟨rfl,rfl,rfl,by decide +kernel,rfl,by decide +kernel,by decide +kernel⟩
abbrev sv:List Str:=["self", "rights"]
theorem qu:ay sv ["self", "rights"] (ak gO):=⟨rfl,rfl,rfl,by decide +kernel,rfl,by decide +kernel,by decide +kernel⟩
abbrev qv:List Str:=["self", "page"]
theorem ph:ay qv ["self", "page"] (ak bn):=⟨rfl,rfl,rfl,by decide +kernel,rfl,by decide +kernel,by decide +kernel⟩
abbrev qw:List Str:=["self", "task", "address", "deed"]
theorem pj:ay qw ["self", "task", "address", "deed"] (ak bo):=⟨rfl,rfl,rfl,by decide +kernel,rfl,by decide +kernel,by decide +kernel⟩
abbrev GU:List Str:=["path", "indexes", "level"]
theorem zH:ay GU ["path", "indexes"] (ak xX):=⟨rfl,rfl,rfl,by decide +kernel,rfl,by decide +kernel,by decide +kernel⟩
abbrev sA:List Str:=["self", "shape"]
theorem qx:ay sA ["self", "shape"] (ak gP):=⟨rfl,rfl,rfl,by decide +kernel,rfl,by decide +kernel,by decide +kernel⟩
abbrev uh:List Str:=["self", "page"]
theorem sB:ay uh ["self", "page"] (ak iW):=⟨rfl,rfl,rfl,by decide +kernel,rfl,by decide +kernel,by decide +kernel⟩
abbrev ui:List Str:=["self", "indexes", "path", "index"]
theorem gW:ay ui ["self", "indexes"] (ak iX):=⟨rfl,rfl,rfl,by decide +kernel,rfl,by decide +kernel,by decide +kernel⟩
abbrev zI:List Str:=["self", "page", "node", "index"]
theorem iz:ay zI ["self", "page"] (ak mj):=⟨rfl,rfl,rfl,by decide +kernel,rfl,by decide +kernel,by decide +kernel⟩
abbrev Bc:List Str:=["self", "page", "leaf", "indexes", "table", "index"]
theorem gB:ay Bc ["self", "page", "leaf"] (ak n9):=⟨rfl,rfl,rfl,by decide +kernel,rfl,by decide +kernel,by decide +kernel⟩
abbrev rj:List Str:=["self", "page", "indexes", "path", "leaf"]
theorem iA:ay rj ["self", "page"] (ak gA):=⟨rfl,rfl,rfl,by decide +kernel,rfl,by decide +kernel,by decide +kernel⟩
abbrev qy:List Str:=["self", "shape", "task"]
theorem pq:ay qy ["self", "shape", "task"] (ak fP):=⟨rfl,rfl,rfl,by decide +kernel,rfl,by decide +kernel,by decide +kernel⟩
abbrev xZ:List Str:=["self", "page"]
theorem vJ:ay xZ ["self", "page"] (ak kH):=⟨rfl,rfl,rfl,by decide +kernel,rfl,by decide +kernel,by decide +kernel⟩
abbrev zJ:List Str:=["self", "page", "leaf"]
theorem x9:ay zJ ["self", "page", "leaf"] (ak ml):=⟨rfl,rfl,rfl,by decide +kernel,rfl,by decide +kernel,by decide +kernel⟩
abbrev mF:List Str:=["self", "pages", "deed", "page"]
theorem fK:ay mF ["self", "pages", "deed"] (ak dA):=⟨rfl,rfl,rfl,by decide +kernel,rfl,by decide +kernel,by decide +kernel⟩
abbrev zK:List Str:=["self", "first", "leaves", "pages", "page", "leaf"]
theorem eW:ay zK ["self", "first", "leaves"] (ak mo):=⟨rfl,rfl,rfl,by decide +kernel,rfl,by decide +kernel,by decide +kernel⟩
abbrev ya:List Str:=["self", "first", "many", "pages"]
theorem nM:ay ya ["self", "first", "many"] (ak kI):=⟨rfl,rfl,rfl,by decide +kernel,rfl,by decide +kernel,by decide +kernel⟩
abbrev uj:List Str:=["self", "first", "many", "rights", "pages", "page"]
theorem gX:ay uj ["self", "first", "many", "rights"] (ak iY):=⟨rfl,rfl,rfl,by decide +kernel,rfl,by decide +kernel,by decide +kernel⟩
abbrev yb:List Str:=["self", "address", "deed", "page", "leaf"]
theorem jM:ay yb ["self", "address", "deed"] (ak kJ):=⟨rfl,rfl,rfl,by decide +kernel,rfl,by decide +kernel,by decide +kernel⟩
abbrev pw:List Str:=["self", "many"]
theorem oh:ay pw ["self", "many"] (ak eR):=⟨rfl,rfl,rfl,by decide +kernel,rfl,by decide +kernel,by decide +kernel⟩
abbrev vK:List Str:=["self"]
theorem uk:ay vK ["self"] (ak jE):=⟨rfl,rfl,rfl,by decide +kernel,rfl,by decide +kernel,by decide +kernel⟩
abbrev qz:List Str:=["self", "many", "size"]
theorem px:ay qz ["self", "many", "size"] (ak fQ):=⟨rfl,rfl,rfl,by decide +kernel,rfl,by decide +kernel,by decide +kernel⟩
abbrev yc:List Str:=["self"]
theorem vL:ay yc ["self"] (ak kK):=⟨rfl,rfl,rfl,by decide +kernel,rfl,by decide +kernel,by decide +kernel⟩
abbrev sC:List Str:=["self", "many"]
theorem qA:ay sC ["self", "many"] (ak gQ):=⟨rfl,rfl,rfl,by decide +kernel,rfl,by decide +kernel,by decide +kernel⟩
abbrev sD:List Str:=["self", "frames", "slots", "size"]
theorem qB:ay sD ["self", "frames", "slots", "size"] (ak gR):=⟨rfl,rfl,rfl,by decide +kernel,rfl,by decide +kernel,by decide +kernel⟩
abbrev zL:List Str:=["self"]
theorem yd:ay zL ["self"] (ak mq):=⟨rfl,rfl,rfl,by decide +kernel,rfl,by decide +kernel,by decide +kernel⟩
abbrev ye:List Str:=["self", "number", "count"]
theorem vM:ay ye ["self", "number"] (ak kL):=⟨rfl,rfl,rfl,by decide +kernel,rfl,by decide +kernel,by decide +kernel⟩
abbrev vN:List Str:=["self", "frame"]
theorem um:ay vN ["self", "frame"] (ak jF):=⟨rfl,rfl,rfl,by decide +kernel,rfl,by decide +kernel,by decide +kernel⟩
abbrev zM:List Str:=["self", "leaf"]
theorem yf:ay zM ["self", "leaf"] (ak mr):=⟨rfl,rfl,rfl,by decide +kernel,rfl,by decide +kernel,by decide +kernel⟩
abbrev zN:List Str:=["self", "frame", "place", "word"]
theorem yg:ay zN ["self", "frame", "place"] (ak mw):=⟨rfl,rfl,rfl,by decide +kernel,rfl,by decide +kernel,by decide +kernel⟩
abbrev sE:List Str:=["self", "many"]
theorem qC:ay sE ["self", "many"] (ak gS):=⟨rfl,rfl,rfl,by decide +kernel,rfl,by decide +kernel,by decide +kernel⟩
abbrev qD:List Str:=["self", "task", "page"]
theorem pz:ay qD ["self", "task", "page"] (ak fR):=⟨rfl,rfl,rfl,by decide +kernel,rfl,by decide +kernel,by decide +kernel⟩
abbrev yh:List Str:=["self", "task", "page", "line"]
theorem nN:ay yh ["self", "task", "page"] (ak kM):=⟨rfl,rfl,rfl,by decide +kernel,rfl,by decide +kernel,by decide +kernel⟩
abbrev vO:List Str:=["self", "task", "page"]
theorem uo:ay vO ["self", "task", "page"] (ak jG):=⟨rfl,rfl,rfl,by decide +kernel,rfl,by decide +kernel,by decide +kernel⟩
abbrev nE:List Str:=["self", "frame", "place"]
theorem mG:ay nE ["self", "frame"] (ak dY):=⟨rfl,rfl,rfl,by decide +kernel,rfl,by decide +kernel,by decide +kernel⟩
abbrev pA:List Str:=["self"]
theorem oi:ay pA ["self"] (ak eS):=⟨rfl,rfl,rfl,by decide +kernel,rfl,by decide +kernel,by decide +kernel⟩
abbrev vP:List Str:=["self", "name", "part"]
theorem uq:ay vP ["self", "name", "part"] (ak jH):=⟨rfl,rfl,rfl,by decide +kernel,rfl,by decide +kernel,by decide +kernel⟩
abbrev vQ:List Str:=["self", "name", "share"]
theorem ur:ay vQ ["self", "name"] (ak jI):=⟨rfl,rfl,rfl,by decide +kernel,rfl,by decide +kernel,by decide +kernel⟩
abbrev pB:List Str:=["self", "shape", "frames", "slots", "near"]
theorem oj:ay pB ["self", "shape", "frames", "slots", "near"] (ak cF):=⟨rfl,rfl,rfl,by decide +kernel,rfl,by decide +kernel,by decide +kernel⟩
abbrev pC:List Str:=["memory", "task"]
theorem eE:ay pC ["memory"] (ak eT):=⟨rfl,rfl,rfl,by decide +kernel,rfl,by decide +kernel,by decide +kernel⟩
abbrev yi:List Str:=["memory", "task"]
theorem nO:ay yi ["memory"] (ak kN):=⟨rfl,rfl,rfl,by decide +kernel,rfl,by decide +kernel,by decide +kernel⟩
abbrev Bd:List Str:=["memory", "task"]
theorem zO:ay Bd ["memory", "task"] (ak n_):=⟨rfl,rfl,rfl,by decide +kernel,rfl,by decide +kernel,by decide +kernel⟩
abbrev zP:List Str:=["memory"]
theorem yj:ay zP ["memory"] (ak mx):=⟨rfl,rfl,rfl,by decide +kernel,rfl,by decide +kernel,by decide +kernel⟩
abbrev uv:List Str:=["memory", "leaf"]
theorem sF:ay uv ["memory", "leaf"] (ak iZ):=⟨rfl,rfl,rfl,by decide +kernel,rfl,by decide +kernel,by decide +kernel⟩
abbrev qF:List Str:=["memory", "leaf"]
theorem pD:ay qF ["memory", "leaf"] (ak fS):=⟨rfl,rfl,rfl,by decide +kernel,rfl,by decide +kernel,by decide +kernel⟩
abbrev uw:List Str:=["memory", "leaf"]
theorem sG:ay uw ["memory", "leaf"] (ak i0):=⟨rfl,rfl,rfl,by decide +kernel,rfl,by decide +kernel,by decide +kernel⟩
abbrev yk:List Str:=["memory", "leaf", "part"]
theorem nP:ay yk ["memory", "leaf"] (ak kP):=⟨rfl,rfl,rfl,by decide +kernel,rfl,by decide +kernel,by decide +kernel⟩
abbrev ux:List Str:=["memory", "task", "first", "many", "page"]
theorem lS:ay ux ["memory", "task", "first", "many"] (ak i3):=⟨rfl,rfl,rfl,by decide +kernel,rfl,by decide +kernel,by decide +kernel⟩
abbrev zQ:List Str:=["memory", "task", "first", "many", "rights", "space", "pages"]
theorem kZ:ay zQ ["memory", "task", "first", "many", "rights"] (ak my):=⟨rfl,rfl,rfl,by decide +kernel,rfl,by decide +kernel,by decide +kernel⟩
abbrev vR:List Str:=["memory", "task", "first", "many", "leaves", "leaf"]
theorem i5:ay vR ["memory", "task", "first", "many"] (ak jJ):=⟨rfl,rfl,rfl,by decide +kernel,rfl,by decide +kernel,by decide +kernel⟩
abbrev sH:List Str:=["memory", "task", "first", "many", "rights"]
theorem qG:ay sH ["memory", "task", "first", "many", "rights"] (ak gT):=⟨rfl,rfl,rfl,by decide +kernel,rfl,by decide +kernel,by decide +kernel⟩
abbrev ym:List Str:=["memory", "task", "address", "deed", "known"]
theorem nQ:ay ym ["memory", "task", "address", "deed"] (ak kQ):=⟨rfl,rfl,rfl,by decide +kernel,rfl,by decide +kernel,by decide +kernel⟩
abbrev yn:List Str:=["memory", "task", "page", "leaf", "frame", "rights"]
theorem vS:ay yn ["memory", "task", "page", "leaf", "frame"] (ak kR):=⟨rfl,rfl,rfl,by decide +kernel,rfl,by decide +kernel,by decide +kernel⟩
abbrev yo:List Str:=["memory", "content", "told"]
theorem vT:ay yo ["memory", "content"] (ak kS):=⟨rfl,rfl,rfl,by decide +kernel,rfl,by decide +kernel,by decide +kernel⟩
abbrev yp:List Str:=["memory", "task", "page", "place", "leaf", "content", "frame"]
theorem jN:ay yp ["memory", "task", "page", "place", "leaf"] (ak kT):=⟨rfl,rfl,rfl,by decide +kernel,rfl,by decide +kernel,by decide +kernel⟩
abbrev zR:List Str:=["memory", "task", "address", "space", "frame", "found", "word"]
theorem eX:ay zR ["memory", "task", "address"] (ak mz):=⟨rfl,rfl,rfl,by decide +kernel,rfl,by decide +kernel,by decide +kernel⟩
abbrev uy:List Str:=["_law_script", "_law_k"]
theorem sI:ay uy ["_law_script", "_law_k"] (ak i4):=⟨rfl,rfl,rfl,by decide +kernel,rfl,by decide +kernel,by decide +kernel⟩
abbrev yq:List Str:=["_law_found_here"]
theorem vU:ay yq ["_law_found_here"] (ak kU):=⟨rfl,rfl,rfl,by decide +kernel,rfl,by decide +kernel,by decide +kernel⟩
abbrev vV:List Str:=["_law_script"]
theorem uz:ay vV ["_law_script"] (ak jK):=⟨rfl,rfl,rfl,by decide +kernel,rfl,by decide +kernel,by decide +kernel⟩
abbrev zS:List Str:=["_law_cell"]
theorem yr:ay zS ["_law_cell"] (ak mB):=⟨rfl,rfl,rfl,by decide +kernel,rfl,by decide +kernel,by decide +kernel⟩
abbrev vW:List Str:=["_law_cell"]
theorem uA:ay vW ["_law_cell"] (ak jL):=⟨rfl,rfl,rfl,by decide +kernel,rfl,by decide +kernel,by decide +kernel⟩
abbrev yt:List Str:=["_law_memory", "_law_way", "_law_task", "_law_first", "_law_many_here", "_law_rights_here", "_law_found_here", "e"]
theorem cg:ay yt ["_law_memory", "_law_way", "_law_task", "_law_first", "_law_many_here", "_law_rights_here"] (ak kW):=⟨rfl,rfl,rfl,by decide +kernel,rfl,by decide +kernel,by decide +kernel⟩
abbrev om:List Str:=["_law_kept", "_law_way", "_law_task", "_law_first", "_law_many_here", "_law_rights_here", "_law_pages", "_law_low", "_law_page"]
theorem mH:ay om ["_law_kept", "_law_way", "_law_task", "_law_first", "_law_many_here", "_law_rights_here", "_law_pages", "_law_low"] (ak eD):=⟨rfl,rfl,rfl,by decide +kernel,rfl,by decide +kernel,by decide +kernel⟩
abbrev zT:List Str:=["_law_memory", "_law_task", "_law_address", "_law_found_here", "e"]
theorem cG:ay zT ["_law_memory", "_law_task", "_law_address"] (ak mC):=⟨rfl,rfl,rfl,by decide +kernel,rfl,by decide +kernel,by decide +kernel⟩
abbrev sJ:List Str:=["_law_kept", "_law_task", "_law_address", "_law_low", "_law_pages", "_law_page"]
theorem kf:ay sJ ["_law_kept", "_law_task", "_law_address", "_law_low", "_law_pages"] (ak gU):=⟨rfl,rfl,rfl,by decide +kernel,rfl,by decide +kernel,by decide +kernel⟩
abbrev yu:List Str:=["_law_raw"]
theorem vX:ay yu ["_law_raw"] (ak kX):=⟨rfl,rfl,rfl,by decide +kernel,rfl,by decide +kernel,by decide +kernel⟩
abbrev Cd:List Str:=["_law_script", "_law_widths_here", "_law_low", "_law_pages", "_law_memory", "_law_tasks", "_law_kept", "_law_start", "_law_raw", "_law_cell", "_law_at", "_law_way", "_law_first", "_law_many_here", "_law_rights_here", "_law_due_here", "_law_other", "_law_address", "_law_found_here"]
theorem cW:ay Cd ["_law_script"] (ak eU):=⟨rfl,rfl,rfl,by decide +kernel,rfl,by decide +kernel,by decide +kernel⟩
structure Adr where
 (cU cN aD aM k7 yv pE aO kg nj bj tj aA aL eY aF bq bX aW cO bV bF bt bD bJ aZ aG a_ aw k8 cP:Addr)
structure Txt (w:World)(K:W.Frag)(mg:Str->Option Value)(a:Adr): Prop where
 Ce:Cls K a.eY
 i6:Cls K a.aF
 nu:Cls K a.bq
 qH:Cls K a.bX
 kh:Cls K a.aW
 tq:Cls K a.cO
 iI:Cls K a.bV
 eZ:Cls K a.bF
 fb:Cls K a.bt
 dh:Cls K a.bD
 ki:Cls K a.bJ
 b9:Cls K a.aZ
 bh:Cls K a.aG
 b6:Cls K a.a_
 aE:Cls K a.aw
 gm:aQ K a.bV "kept"
 nR:aQ K a.aF "frame"
 pF:aQ K a.aF "name"
 pG:aQ K a.aF "part"
 dB:aQ K a.aF "rights"
 pH:aQ K a.aF "slot"
 jO:aQ K a.cO "marked"
 gY:aQ K a.cO "standing"
 iB:aQ K a.bq "frame"
 rk:aQ K a.bq "name"
 rp:aQ K a.bq "part"
 eh:aQ K a.bq "rights"
 rq:aQ K a.bq "slot"
 nS:aQ K a.eY "rights"
 er:aQ K a.a_ "near"
 et:aQ K a.a_ "pool"
 bK:aQ K a.a_ "shape"
 gZ:aQ K a.a_ "shares"
 cB:aQ K a.a_ "spaces"
 fc:aQ K a.a_ "walks"
 nU:aQ K a.aW "frame"
 iC:aQ K a.aW "name"
 iD:aQ K a.aW "part"
 dC:aQ K a.aW "rights"
 pI:aQ K a.aW "slot"
 fe:aQ K a.bD "lines"
 jq:aQ K a.bD "many"
 rE:aQ K a.bX "frame"
 uB:aQ K a.bX "name"
 uC:aQ K a.bX "part"
 fh:aQ K a.bX "rights"
 k9:aQ K a.bX "slot"
 cX:aQ K a.bt "frame_store"
 mI:aQ K a.bt "hand"
 jP:aQ K a.bt "length"
 di:aQ K a.bt "slot_store"
 dD:aQ K a.aw "low"
 dE:aQ K a.aw "widths"
 jQ:aQ K a.bJ "kept"
 cj:aQ K a.aG "shape"
 fj:aQ K a.aG "task"
 b_:aQ K a.aG "tree"
 fU:aQ K a.bF "contents"
 i7:aQ K a.bF "length"
 gn:aQ K a.bF "tally"
 cH:aQ K a.aZ "shape"
 dF:aQ K a.aZ "top"
 rF:mg "LeafError" = some (.ref a.cU)
 dO:tT K a.cN
 fV:mg "NoShape" = some (.ref a.cN)
 jr:tT K a.aD
 rG:mg "NoAddress" = some (.ref a.aD)
 gC:tT K a.aM
 mJ:mg "NoStretch" = some (.ref a.aM)
 Iz:mg "NoNumber" = some (.ref a.k7)
 KI:mg "Full" = some (.ref a.yv)
 JC:mg "NoWord" = some (.ref a.pE)
 k_:tT K a.aO
 uD:mg "NoRights" = some (.ref a.aO)
 uE:tT K a.kg
 Fp:mg "NoTask" = some (.ref a.kg)
 IU:mg "NoShare" = some (.ref a.nj)
 Cg:mg "Taken" = some (.ref a.bj)
 J2:mg "Fault" = some (.ref a.tj)
 la:mg "Unmapped" = some (.ref a.aA)
 zU:mg "Barred" = some (.ref a.aL)
 Be:mg "Leaf" = some (.ref a.eY)
 yw:mg "Fresh" = some (.ref a.aF)
 Bf:mg "Held" = some (.ref a.bq)
 Hm:mg "Out" = some (.ref a.bX)
 yx:mg "Named" = some (.ref a.aW)
 IA:mg "Hand" = some (.ref a.cO)
 Fq:mg "Counts" = some (.ref a.bV)
 Ci:mg "Store" = some (.ref a.bF)
 IB:mg "Pool" = some (.ref a.bt)
 IC:mg "Near" = some (.ref a.bD)
 Fs:mg "Shares" = some (.ref a.bJ)
 IE:mg "Tree" = some (.ref a.aZ)
 GV:mg "Space" = some (.ref a.aG)
 Ft:mg "Memory" = some (.ref a.a_)
 GW:mg "Shape" = some (.ref a.aw)
 bN:XL K a.aA
 ie:iy K a.aA "address"
 kj:iy K a.aA "deed"
 km:iy K a.aA "task"
 ig:md K a.aA "address"
 ko:md K a.aA "deed"
 kt:md K a.aA "task"
 i8:XL K a.bj
 vY:iy K a.bj "page"
 vZ:md K a.bj "page"
 cQ:XL K a.aL
 pJ:iy K a.aL "address"
 uF:iy K a.aL "deed"
 uG:iy K a.aL "task"
 pK:md K a.aL "address"
 uH:md K a.aL "deed"
 uI:md K a.aL "task"
 pL:Hl K a.cU
 Fu:mg "NEEDED" = some (.ref a.cP)
 cP:TopD w.params K a.cP
 jR:∃t,W.nsIn K a.cP "read" = some (some (.int 1 t))
 i9:∃t,W.nsIn K a.cP "write" = some (some (.int 2 t))
 jS:∃t,mg "MOST_FRAMES" = some (.int 64 t)
 i_:∃t,mg "MOST_NUMBERS" = some (.int 64 t)
 lh:∃t,mg "MOST_WORDS" = some (.int 64 t)
 GX:mg "SIZES" = some (.ref a.k8)
 GY:∀H,SqT K H a.k8 [.int 0,.int 1,.int 2,.int 4,.int 8,.int 16,.int 32,.int 64]
 pM:∃t,mg "READ_ALONE" = some (.int 1 t)
 lj:∃t,mg "MOST_WIDTH" = some (.int 24 t)
 oq:∃t,mg "MOST_LOW" = some (.int 6 t)
 ll:∃t,mg "MOST_PAGES" = some (.int 64 t)
 Bg:mg "bool" = none
 Cj:mg "int" = none
 bY:mg "isinstance" = none
 pN:mg "len" = none
 Bh:mg "list" = none
 Fv:mg "min" = none
 lr:mg "range" = none
 lu:mg "reversed" = none
 zV:mg "sorted" = none
 Ck:mg "sum" = none
 tD:mg "tuple" = none
 Fw:mg "zip" = none
 Cm:XIs K a.bj
 uJ:XIs K a.aA
 zW:XIs K a.aL
 rH:XIs K a.aD
 rJ:XIs K a.aM
 uK:XIs K a.aO
 isk:IsK K
 mK:∀{H:Hp} {x dx:Addr} {fs:List (Str×V)},H x=some (.ins a.aF dx fs)->TyE K H (.ref x) (.ref a.aF)
 gp:W.kitOne K (.ref a.aF) (.ref a.aW)=some false
 iE:W.kitOne K (.ref a.aF) (.ref a.bq)=some false
 mL:W.kitOne K (.ref a.aF) (.ref a.bX)=some false
 jT:W.kitOne K (.ref a.aF) (.ref a.aF)=some true
 jU:W.mroIn K a.bj (.ref a.bj)=some true
 fW:W.mroIn K a.aA (.ref a.bj)=some false
 cM:W.mroIn K a.aA (.ref a.aA)=some true
 fk:W.mroIn K a.aM (.ref a.bj)=some false
 dG:W.mroIn K a.aM (.ref a.aA)=some false
 db:W.mroIn K a.aM (.ref a.aM)=some true
 fX:W.mroIn K a.aO (.ref a.bj)=some false
 dZ:W.mroIn K a.aO (.ref a.aA)=some false
 dH:W.mroIn K a.aO (.ref a.aM)=some false
 d5:W.mroIn K a.aO (.ref a.aO)=some true
 fm:W.mroIn K a.aL (.ref a.aA)=some false
 g6:W.mroIn K a.aL (.ref a.aL)=some true
 dI:W.mroIn K a.aD (.ref a.aA)=some false
 eF:W.mroIn K a.aD (.ref a.aL)=some false
 dg:W.mroIn K a.aD (.ref a.aD)=some true
def ot (t:Addr)(low:Int): List (Str×V):=gu "low" (.int low) (gu "widths" (.ref t) [])
theorem rK (t:Addr)(low:Int): (ot t low).lookup ("widths" : Str)=some (.ref t):=by
 unfold ot
 rw[cS,if_neg (by decide +kernel),cS,if_pos rfl]
theorem fq (t:Addr)(low:Int): (ot t low).lookup ("low" : Str)=some (.int low):=by
 unfold ot
 rw[cS,if_pos rfl]
theorem cy (t:Addr) (low:Int) {m:Str} (h1:¬m = "widths") (h2:¬m = "low"):(ot t low).lookup m=none:=by
 unfold ot
 rw[cS,if_neg h2,cS,if_neg h1]
 rfl
structure Good (ns:List Int)(low:Int): Prop where
 len:ns.length=2\/ns.length=3
 all:∀x∈ns,1<=x/\x<=24
 Bi:0<=low
 Bj:low<=6
theorem Fx {B:Int}: ∀{ns:List Int},(∀x∈ns,1<=x/\x<=B)->(ns.length:Int)<=ns.sum/\ns.sum<=B*ns.length
 | [],_=>by simp
 | n::r,h=>by
  have h1:=h n List.mem_cons_self
  have h2:=Fx (ns:=r) fun x hx=>h x (List.mem_cons_of_mem _ hx)
  rw[List.sum_cons,List.length_cons]
  have e:B*((r.length+1:Nat):Int)=B*(r.length:Int)+B:=by rw[Int.natCast_add,Int.mul_add];simp
  rw[e]
  have e2:((r.length+1:Nat):Int)=(r.length:Int)+1:=by simp
  rw[e2]
  omega
theorem Good.sum {ns:List Int}{low:Int}(g:Good ns low): 2<=ns.sum/\ns.sum<=72:=by
 have h:=Fx g.all
 have:=g.len
 omega
def eN (C:Addr)(H:Hp)(p:Addr)(ns:List Int)(low:Int): Prop:=∃dx t,H p=some (.ins C dx (ot t low))/\H t=some (.tup (ns.map V.int))
theorem eN.same {C:Addr}{H H':Hp}{p:Addr}{ns:List Int}{low:Int}(S:eN C H p ns low)(sm:Same H H'): eN C H' p ns low:=by
 obtain⟨dx,t,h1,h2⟩:=S
 exact⟨dx,t,sm _ _ h1,sm _ _ h2⟩
def pO (a:Adr): Sp:=fun vs H Q E=>∃(p:Addr) (ns:List Int) (low:Int),vs=[.ref p,.int low]/\H p=some (.lst (ns.map V.int))/\ns.length<=64 ∧
 (Good ns low->∀H',Same H H'->Q .non H')/\(¬Good ns low->∀H',Same H H'->E (.ref a.cN) none H')
def zX (a:Adr): Sp:=fun vs H Q E=>∃(p w dx:Addr) (ns:List Int) (low:Int),vs=[.ref p,.ref w,.int low]/\H p=some (.ins a.aw dx [])/\H w=some (.lst (ns.map V.int))/\ns.length<=64 ∧
 (Good ns low->∀H',eN a.aw H' p ns low->(∀b o,H b=some o->b≠p->H' b=some o)->Q .non H')/\(¬Good ns low->∀H',Same H H'->E (.ref a.cN) none H')
def tE (a:Adr): Sp:=fun vs H Q _=>∃(p:Addr) (ns:List Int) (low:Int),vs=[.ref p]/\eN a.aw H p ns low/\Good ns low/\Q (.int (2^ns.sum.toNat)) H
def uL (a:Adr): Sp:=fun vs H Q _=>∃(p:Addr) (ns:List Int) (low:Int),vs=[.ref p]/\eN a.aw H p ns low/\Good ns low/\Q (.int (2^low.toNat)) H
theorem KJ (n:Nat): inV (.int n) [V.int 2,V.int 3]=decide (n=2\/n=3):=by
 have:=o3 (n:Int) [2,3]
 rw[show [V.int 2,V.int 3]=([2,3]:List Int).map V.int from rfl,this]
 rw[decide_eq_decide]
 simp only [List.mem_cons,List.not_mem_nil,or_false]
 omega
section
variable {P:Program}{w:World}{K:W.Frag}{mg:Str->Option Value}{base:Heap}{a:Adr}
theorem uM {dvs:List V} (R:bC K mg "check_shape" jB ["widths", "low"] dvs) (T:Txt w K mg a) :
  HasFn P w K mg base 1 "check_shape" ["widths", "low"] (pO a) dvs:=by
 refine R.ok mD (fun vs H Q E h=>?_) (fun f cdv A outer s H vs Q E hr h=>?_)
 ·obtain⟨p,ns,low,rfl,_⟩:=h
  rfl
 obtain⟨p,ns,low,rfl,hp,hl,k1,k2⟩:=h
 refine⟨_,(@ah _ _ _ _ _ (bx (aV kD (bU dN (by rfl) T.pN PySem.boot_len (@ae _ _ _ _ _ (pv 0) aj rfl)) (@b8 _ _ _ _ _ (@ae _ _ _ _ _ au (@ae _ _ _ _ _ au aj rfl) rfl)) (by with_unfolding_all rfl)) (@ao _ _ _ (cZ T.dO rfl (by rfl) T.fV af (@ae _ _ _ _ _ bd aj rfl))) aS)
   (@ah _ _ _ _ _ (dW cE rfl (gk (pv 0)) (b5 (i:=2) mD.nd rfl (by first | exact Or.inl rfl | exact Or.inr rfl))
   (@ao _ _ _ (bx (gH (eQ gq gq au (pv 2) (kb (by rfl) T.lj))) (@ao _ _ _ (cZ T.dO rfl (by rfl) T.fV af (@ae _ _ _ _ _ bd aj rfl))) aS)))
   (@ao _ _ _ (bx (gH (eQ gq gq au (pv 1) (kb (by rfl) T.oq))) (@ao _ _ _ (cZ T.dO rfl (by rfl) T.fV af (@ae _ _ _ _ _ bd aj rfl))) aS)))),?_⟩
 refine⟨_,rfl,p,_,rfl,.inl (SqL.of hp),aR (by show 2<=1000;decide),fun t ht=>⟨t,_,rfl,.inr (SqT.of aq),rfl,rfl,_,rfl,?_⟩⟩
 have sm:Same H (upd H t (.tup [V.int 2,V.int 3])):=aH ht
 generalize upd H t (.tup [V.int 2,V.int 3])=H1 at sm
 show if (!inV (.int ((ns.map V.int).length:Nat)) [V.int 2,V.int 3])=true then _ else _
 rw[KJ,List.length_map]
 refine qf (fun c=>?_) (fun c=>?_)
 ·exact⟨aP,k2 (fun g=>c g.len) _ sm⟩
 ·refine⟨_,rfl,p,rfl,⟨_,SqL.of (sm _ _ hp)⟩,iN (xs:=ns.map V.int) (fun i σ H'=>(∃v,σ=[some (.ref p),some (.int low),v])/\H'=H1/\∀(j:Nat) (x:Int),j < i->ns[j]?=some x->1<=x/\x<=24) ⟨⟨none,rfl⟩,rfl,fun j x hj=>by omega⟩ (fun i σ H' _ z=>by rw[z.2.1];exact SqL.of (sm _ _ hp)) ?_ ?_⟩
  ·rintro i v σ H' hi ⟨⟨w,rfl⟩,rfl,al⟩
   obtain⟨x,rfl,hx⟩:=c6 hi
   have bad:¬(1<=x/\x<=24)->¬Good ns low:=fun z g=>z (g.all x (List.mem_of_getElem? hx))
   refine⟨_,rfl,_,_,rfl,rfl,_,rfl,iw (fun c0=>?_) (fun c0=>?_)⟩
   ·refine⟨_,_,rfl,rfl,_,rfl,qf (fun c1=>?_) (fun c1=>?_)⟩
    ·exact⟨aP,k2 (bad fun z=>c1 z.2) _ sm⟩
    ·refine⟨⟨_,rfl⟩,rfl,fun j y hj hy=>?_⟩
     by_cases e:j=i
     ·subst e
      rw[hx] at hy
      cases hy
      exact⟨c0,c1⟩
     ·exact al j y (by omega) hy
   ·exact⟨_,rfl,oV ⟨aP,k2 (bad fun z=>c0 z.1) _ sm⟩⟩
  ·rintro σ H' ⟨⟨w,rfl⟩,rfl,al⟩
   have al':∀x∈ns,1<=x/\x<=24:=fun x hx=>by
    obtain⟨j,hj,e⟩:=List.getElem_of_mem hx
    exact al j x (by rw[List.length_map];exact hj) (by rw[List.getElem?_eq_getElem hj,e])
   refine⟨_,rfl,_,_,rfl,rfl,_,rfl,iw (fun c0=>?_) (fun c0=>?_)⟩
   ·refine⟨_,_,rfl,rfl,_,rfl,qf (fun c1=>?_) (fun c1=>?_)⟩
    ·exact⟨aP,k2 (fun g=>c1 g.Bj) _ sm⟩
    ·exact k1 ⟨c,al',c0,c1⟩ _ sm
   ·exact⟨_,rfl,oV ⟨aP,k2 (fun g=>c0 g.Bi) _ sm⟩⟩
theorem pP {dvs:List V} (R:eM K a.aw "Shape.__init__" fM ["self", "widths", "low"] dvs) (T:Txt w K mg a)
  (jV:HasFn P w K mg base 1 "check_shape" ["widths", "low"] (pO a) []) :
  cf P w K mg base a.aw 2 ["self", "widths", "low"] (zX a) dvs:=by
 refine R.ok o9 (fun vs H Q E h=>?_) (fun f cdv A outer s H vs Q E hr h=>?_)
 ·obtain⟨p,w',dx,ns,low,rfl,_⟩:=h
  rfl
 obtain⟨p,w',dx,ns,low,rfl,hp,hw,hl,k1,k2⟩:=h
 refine⟨_,(@ah _ _ _ _ _ (aT (bz jV (hr.mono (by decide)) (by rfl) af (@ae _ _ _ _ _ (pv 1) (@ae _ _ _ _ _ (pv 2) aj rfl) rfl)))
   (@ah _ _ _ _ _ (bI (pv 0) (p8 vA (by rfl) T.tD PyProof.Rows.Boot.«tuple» (@ae _ _ _ _ _ (pv 1) aj rfl)) rfl)
   (@ao _ _ _ (bI (pv 0) (pv 2) rfl)))),?_⟩
 refine⟨_,rfl,_,rfl,w',ns,low,rfl,hw,hl,fun g H1 sm=>?_,fun g H1 sm=>k2 g H1 sm⟩
 refine⟨_,rfl,w',_,rfl,.inl ⟨SqL.of (sm _ _ hw),fun t ht=>⟨_,rfl,p,a.aw,dx,[],rfl,aH ht _ _ (sm _ _ hp),T.aE,T.dE,(by show 0 < 1000;decide),?_⟩⟩⟩
 refine⟨_,rfl,_,rfl,p,a.aw,dx,_,rfl,aq,T.aE,T.dD,(by show 1 < 1000;decide),?_⟩
 have npt:=az (sm _ _ hp) ht
 refine k1 g _ ⟨dx,t,aq,?_⟩ fun b o hb nb=>?_
 ·rw[av npt.symm,av npt.symm,aq]
 ·rw[av nb,av nb]
  exact aH ht _ _ (sm _ _ hb)
theorem uN {dvs:List V} (R:bg K a.aw "pages" "Shape.pages" jC ["self"] dvs) (T:Txt w K mg a) :
  aB P w K mg base a.aw 1 "pages" ["self"] (tE a) dvs:=by
 refine R.ok ub (fun vs H Q E h=>?_) (fun f cdv A outer s H vs Q E hr h=>?_)
 ·obtain⟨p,ns,low,rfl,_⟩:=h
  rfl
 obtain⟨p,ns,low,rfl,S,g,k⟩:=h
 refine⟨_,(@ao _ _ _ (@aI _ _ _ _ (aK tK au (bU (Dk rfl) (by rfl) T.Ck PyProof.Rows.Boot.«sum» (@ae _ _ _ _ _ (aJ (pv 0) rfl) aj rfl))))),?_⟩
 obtain⟨dx,t,h1,h2⟩:=id S
 have hs:=g.sum
 refine⟨_,rfl,p,a.aw,dx,_,_,rfl,h1,T.aE,T.dE,rK t low,t,ns,rfl,SqT.of h2,_,_,rfl,rfl,⟨by omega,by omega,by decide⟩,?_⟩
 show Q (.int (1*2^ns.sum.toNat)) H
 rw[Int.one_mul]
 exact k
theorem v7 {dvs:List V} (R:bg K a.aw "size" "Shape.size" kG ["self"] dvs) (T:Txt w K mg a) :
  aB P w K mg base a.aw 1 "size" ["self"] (uL a) dvs:=by
 refine R.ok vH (fun vs H Q E h=>?_) (fun f cdv A outer s H vs Q E hr h=>?_)
 ·obtain⟨p,ns,low,rfl,_⟩:=h
  rfl
 obtain⟨p,ns,low,rfl,S,g,k⟩:=h
 refine⟨_,(@ao _ _ _ (@aI _ _ _ _ (aK tK au (aJ (pv 0) rfl)))),?_⟩
 obtain⟨dx,t,h1,h2⟩:=id S
 have h6:=g.Bj
 have h0:=g.Bi
 refine⟨_,rfl,p,a.aw,dx,_,_,rfl,h1,T.aE,T.dD,fq t low,_,_,rfl,rfl,⟨by omega,by omega,by decide⟩,?_⟩
 show Q (.int (1*2^low.toNat)) H
 rw[Int.one_mul]
 exact k
end
def uO (a:Adr): Sp:=fun vs H Q E=>∃n b:Int,vs=[.int n,.int b]/\(0<=n/\n < b->Q .non H)/\(¬(0<=n/\n < b)->E (.ref a.aD) none H)
def pgs (ns:List Int): Int:=2^ns.sum.toNat
def plc (low:Int): Int:=2^low.toNat
theorem two_pos (k:Nat): (0:Int) < 2^k:=Int.pow_pos (by decide)
theorem Cp (ns:List Int): 0 < pgs ns:=two_pos _
theorem yy (low:Int): 0 < plc low:=two_pos _
theorem uP {a b:Nat}(h:a<=b): (2:Int)^a<=2^b:=by
 have:=Nat.pow_le_pow_right (show 0 < 2 by decide) h
 have e:∀k:Nat,((2^k:Nat):Int)=(2:Int)^k:=fun k=>by
  rw[Int.natCast_pow]
  rfl
 rw[<-e,<-e]
 omega
theorem Good.yz {ns:List Int}{low:Int}(g:Good ns low): pgs ns<=2^72:=uP (by have:=g.sum;omega)
theorem Good.IG {ns:List Int}{low:Int}(g:Good ns low): plc low<=64:=by
 have:plc low<=2^6:=uP (by have:=g.Bj;omega)
 have e:(2:Int)^6=64:=by decide
 omega
def yA (a:Adr): Sp:=fun vs H Q E=>∃(p:Addr) (ns:List Int) (low n:Int),vs=[.ref p,.int n]/\eN a.aw H p ns low/\Good ns low/\(0<=n/\n < pgs ns*plc low->Q .non H)/\(¬(0<=n/\n < pgs ns*plc low)->E (.ref a.aD) none H)
section
variable {P:Program}{w:World}{K:W.Frag}{mg:Str->Option Value}{base:Heap}{a:Adr}
theorem sK {dvs:List V} (R:bC K mg "check_inside" iS ["number", "bound"] dvs) (T:Txt w K mg a) :
  HasFn P w K mg base 1 "check_inside" ["number", "bound"] (uO a) dvs:=by
 refine R.ok rZ (fun vs H Q E h=>?_) (fun f cdv A outer s H vs Q E hr h=>?_)
 ·obtain⟨n,b,rfl,_⟩:=h
  rfl
 obtain⟨n,b,rfl,k1,k2⟩:=h
 refine⟨_,(@ao _ _ _ (bx (gH (eQ gq wJ au (pv 0) (pv 1))) (@ao _ _ _ (cZ T.jr rfl (by rfl) T.rG af (@ae _ _ _ _ _ bd aj rfl))) aS)),?_⟩
 refine⟨_,rfl,_,_,rfl,rfl,_,rfl,iw (fun c0=>?_) (fun c0=>?_)⟩
 ·refine⟨_,rfl,_,_,rfl,rfl,_,rfl,qf (fun c1=>?_) (fun c1=>?_)⟩
  ·exact⟨aP,k2 fun z=>c1 z.2⟩
  ·exact k1 ⟨c0,c1⟩
 ·exact⟨_,rfl,oV ⟨aP,k2 fun z=>c0 z.1⟩⟩
theorem lw {dvs:List V} (R:bg K a.aw "check_address" "Shape.check_address" da ["self", "address"] dvs) (T:Txt w K mg a)
  (cv:HasFn P w K mg base 1 "check_inside" ["number", "bound"] (uO a) [])
  (bZ:aB P w K mg base a.aw 1 "pages" ["self"] (tE a) [])
  (bL:aB P w K mg base a.aw 1 "size" ["self"] (uL a) []) :
  aB P w K mg base a.aw 2 "check_address" ["self", "address"] (yA a) dvs:=by
 refine R.ok kY (fun vs H Q E h=>?_) (fun f cdv A outer s H vs Q E hr h=>?_)
 ·obtain⟨p,ns,low,n,rfl,_⟩:=h
  rfl
 obtain⟨p,ns,low,n,rfl,S,g,k1,k2⟩:=h
 refine⟨_,(@ao _ _ _ (aT (bz cv (hr.mono (by decide)) (by rfl) af (@ae _ _ _ _ _ (pv 1) (@ae _ _ _ _ _ (aK xD (gI (pv 0) T.aE bZ (hr.mono (by decide)) af) (gI (pv 0) T.aE bL (hr.mono (by decide)) af)) aj rfl) rfl)))),?_⟩
 obtain⟨dx,t,h1,h2⟩:=id S
 have hp:=Cp ns
 have h6:=g.IG
 have h0:=yy low
 exact⟨_,rfl,_,rfl,p,dx,_,rfl,h1,cy t low (by decide +kernel) (by decide +kernel),p,ns,low,rfl,S,g,_,rfl,p,dx,_,rfl,h1,cy t low (by decide +kernel) (by decide +kernel),p,ns,low,rfl,S,g,_,_,rfl,rfl,
  .inr (by show -(2^64) < plc low/\plc low < 2^64;omega),n,_,rfl,fun c=>k1 c,fun c=>k2 c⟩
end
def uQ (a:Adr): Sp:=fun vs H Q E=>∃(p:Addr) (ns:List Int) (low n:Int),vs=[.ref p,.int n]/\eN a.aw H p ns low/\Good ns low/\(0<=n/\n < pgs ns*plc low->Q (.int (n / plc low)) H)/\(¬(0<=n/\n < pgs ns*plc low)->E (.ref a.aD) none H)
def qI (a:Adr): Sp:=fun vs H Q E=>∃(p:Addr) (ns:List Int) (low n:Int),vs=[.ref p,.int n]/\eN a.aw H p ns low/\Good ns low/\(0<=n/\n < pgs ns*plc low->Q (.int (n%plc low)) H)/\(¬(0<=n/\n < pgs ns*plc low)->E (.ref a.aD) none H)
def uR (a:Adr): Sp:=fun vs H Q E=>∃(p:Addr) (ns:List Int) (low n m:Int),vs=[.ref p,.int n,.int m]/\eN a.aw H p ns low/\Good ns low/\((0<=n/\n < pgs ns)/\0<=m/\m < plc low->Q (.int (n*plc low+m)) H)/\(¬((0<=n/\n < pgs ns)/\0<=m/\m < plc low)->E (.ref a.aD) none H)
def eu (ns:List Int)(first many:Int): Prop:=(1<=many/\many<=64)/\0<=first/\first+many<=pgs ns
def iJ (a:Adr): Sp:=fun vs H Q E=>∃(p:Addr) (ns:List Int) (low n m:Int),vs=[.ref p,.int n,.int m]/\eN a.aw H p ns low/\Good ns low ∧
 (eu ns n m->∀q H',Same H H'->H' q=some (.lst ((jm n m.toNat).map V.int))->H q=none->Q (.ref q) H')/\(¬eu ns n m->E (.ref a.aM) none H)
section
variable {P:Program}{w:World}{K:W.Frag}{mg:Str->Option Value}{base:Heap}{a:Adr}
theorem qJ {dvs:List V} (R:bg K a.aw "page_of" "Shape.page_of" gK ["self", "address"] dvs) (T:Txt w K mg a)
  (aX:aB P w K mg base a.aw 2 "check_address" ["self", "address"] (yA a) []) :
  aB P w K mg base a.aw 3 "page_of" ["self", "address"] (uQ a) dvs:=by
 refine R.ok qk (fun vs H Q E h=>?_) (fun f cdv A outer s H vs Q E hr h=>?_)
 ·obtain⟨p,ns,low,n,rfl,_⟩:=h
  rfl
 obtain⟨p,ns,low,n,rfl,S,g,k1,k2⟩:=h
 refine⟨_,(@ah _ _ _ _ _ (aT (bu (pv 0) T.aE aX (hr.mono (by decide)) af (@ae _ _ _ _ _ (pv 1) aj rfl)))
   (@ao _ _ _ (@aI _ _ _ _ (aK Av (pv 1) (aJ (pv 0) rfl))))),?_⟩
 obtain⟨dx,t,h1,h2⟩:=id S
 exact⟨_,rfl,p,dx,_,rfl,h1,cy t low (by decide +kernel) (by decide +kernel),_,rfl,p,ns,low,n,rfl,S,g,fun c=>⟨_,rfl,_,rfl,p,a.aw,dx,_,_,rfl,h1,T.aE,T.dD,fq t low,_,_,rfl,rfl,g.Bi,k1 c⟩,fun c=>k2 c⟩
theorem pQ {dvs:List V} (R:bg K a.aw "place_of" "Shape.place_of" fN ["self", "address"] dvs) (T:Txt w K mg a)
  (aX:aB P w K mg base a.aw 2 "check_address" ["self", "address"] (yA a) [])
  (bL:aB P w K mg base a.aw 1 "size" ["self"] (uL a) []) :
  aB P w K mg base a.aw 3 "place_of" ["self", "address"] (qI a) dvs:=by
 refine R.ok o_ (fun vs H Q E h=>?_) (fun f cdv A outer s H vs Q E hr h=>?_)
 ·obtain⟨p,ns,low,n,rfl,_⟩:=h
  rfl
 obtain⟨p,ns,low,n,rfl,S,g,k1,k2⟩:=h
 refine⟨_,(@ah _ _ _ _ _ (aT (bu (pv 0) T.aE aX (hr.mono (by decide)) af (@ae _ _ _ _ _ (pv 1) aj rfl)))
   (@ao _ _ _ (@aI _ _ _ _ (aK xE (pv 1) (aK l7 (gI (pv 0) T.aE bL (hr.mono (by decide)) af) au))))),?_⟩
 obtain⟨dx,t,h1,h2⟩:=id S
 refine⟨_,rfl,p,dx,_,rfl,h1,cy t low (by decide +kernel) (by decide +kernel),_,rfl,p,ns,low,n,rfl,S,g,fun c=>⟨_,rfl,_,rfl,p,dx,_,rfl,h1,cy t low (by decide +kernel) (by decide +kernel),p,ns,low,rfl,S,g,_,_,rfl,rfl,_,_,rfl,rfl,?_⟩,fun c=>k2 c⟩
 show Q (.int (Builtin.bitAnd n (2^low.toNat-1))) H
 rw[W.kbt_mask]
 exact k1 c
theorem nG {dvs:List V} (R:bg K a.aw "address_of" "Shape.address_of" eC ["self", "page", "place"] dvs) (T:Txt w K mg a)
  (cv:HasFn P w K mg base 1 "check_inside" ["number", "bound"] (uO a) [])
  (bZ:aB P w K mg base a.aw 1 "pages" ["self"] (tE a) [])
  (bL:aB P w K mg base a.aw 1 "size" ["self"] (uL a) []) :
  aB P w K mg base a.aw 2 "address_of" ["self", "page", "place"] (uR a) dvs:=by
 refine R.ok nD (fun vs H Q E h=>?_) (fun f cdv A outer s H vs Q E hr h=>?_)
 ·obtain⟨p,ns,low,n,m,rfl,_⟩:=h
  rfl
 obtain⟨p,ns,low,n,m,rfl,S,g,k1,k2⟩:=h
 refine⟨_,(@ah _ _ _ _ _ (aT (bz cv (hr.mono (by decide)) (by rfl) af (@ae _ _ _ _ _ (pv 1) (@ae _ _ _ _ _ (gI (pv 0) T.aE bZ (hr.mono (by decide)) af) aj rfl) rfl)))
   (@ah _ _ _ _ _ (aT (bz cv (hr.mono (by decide)) (by rfl) af (@ae _ _ _ _ _ (pv 2) (@ae _ _ _ _ _ (gI (pv 0) T.aE bL (hr.mono (by decide)) af) aj rfl) rfl)))
   (@ao _ _ _ (@aI _ _ _ _ (aK Jb (aK xS (pv 1) (aJ (pv 0) rfl)) (pv 2)))))),?_⟩
 obtain⟨dx,t,h1,h2⟩:=id S
 refine⟨_,rfl,_,rfl,p,dx,_,rfl,h1,cy t low (by decide +kernel) (by decide +kernel),p,ns,low,rfl,S,g,n,_,rfl,fun c=>?_,fun c=>k2 fun z=>c z.1⟩
 refine⟨_,rfl,_,rfl,p,dx,_,rfl,h1,cy t low (by decide +kernel) (by decide +kernel),p,ns,low,rfl,S,g,m,_,rfl,fun c2=>?_,fun c2=>k2 fun z=>c2 z.2⟩
 refine⟨_,rfl,_,rfl,p,a.aw,dx,_,_,rfl,h1,T.aE,T.dD,fq t low,_,_,rfl,rfl,⟨g.Bi,by have:=g.Bj;omega,?_⟩,_,rfl,_,_,rfl,rfl,?_⟩
 ·have h:=g.yz
  have c1:n < pgs ns:=c.2
  have c0:0<=n:=c.1
  exact AY c0 (by omega)
 ·show Q (.int (Builtin.bitOr (n*2^low.toNat) m)) H
  rw[E1 c.1 c2.1 c2.2]
  exact k1 ⟨c,c2⟩
theorem qK {dvs:List V} (R:bg K a.aw "stretch" "Shape.stretch" gL ["self", "first", "many"] dvs) (T:Txt w K mg a)
  (bZ:aB P w K mg base a.aw 1 "pages" ["self"] (tE a) []) :
  aB P w K mg base a.aw 2 "stretch" ["self", "first", "many"] (iJ a) dvs:=by
 refine R.ok qm (fun vs H Q E h=>?_) (fun f cdv A outer s H vs Q E hr h=>?_)
 ·obtain⟨p,ns,low,n,m,rfl,_⟩:=h
  rfl
 obtain⟨p,ns,low,n,m,rfl,S,g,k1,k2⟩:=h
 refine⟨_,(@ah _ _ _ _ _ (bx (gH (eQ gq gq au (pv 2) (kb (by rfl) T.ll))) (@ao _ _ _ (cZ T.gC rfl (by rfl) T.mJ af (@ae _ _ _ _ _ bd aj rfl))) aS)
   (@ah _ _ _ _ _ (bx (gH (eQ gq gq au (pv 1) (aK l7 (gI (pv 0) T.aE bZ (hr.mono (by decide)) af) (pv 2)))) (@ao _ _ _ (cZ T.gC rfl (by rfl) T.mJ af (@ae _ _ _ _ _ bd aj rfl))) aS)
   (@ao _ _ _ (@aI _ _ _ _ (p8 (vC rfl) (by rfl) T.Bh PyProof.Rows.Boot.«list» (@ae _ _ _ _ _ (Dq (by rfl) T.lr (@ae _ _ _ _ _ (pv 1) (@ae _ _ _ _ _ (aK dj (pv 1) (pv 2)) aj rfl) rfl)) aj rfl)))))),?_⟩
 obtain⟨dx,t,h1,h2⟩:=id S
 have hp:=g.yz
 refine⟨_,rfl,_,_,rfl,rfl,_,rfl,iw (fun c0=>?_) (fun c0=>?_)⟩
 ·refine⟨_,_,rfl,rfl,_,rfl,qf (fun c1=>?_) (fun c1=>?_)⟩
  ·exact⟨aP,k2 fun z=>c1 z.1.2⟩
  ·refine⟨_,rfl,_,_,rfl,rfl,_,rfl,iw (fun c2=>?_) (fun c2=>?_)⟩
   ·refine⟨_,rfl,p,dx,_,rfl,h1,cy t low (by decide +kernel) (by decide +kernel),p,ns,low,rfl,S,g,_,rfl,_,_,rfl,rfl,_,_,rfl,rfl,_,rfl,qf (fun c3=>?_) (fun c3=>?_)⟩
    ·exact⟨aP,k2 fun z=>c3 (by have:=z.2.2;show n<=pgs ns-m;omega)⟩
    ·have c3':n<=pgs ns-m:=c3
     refine⟨_,rfl,_,rfl,_,rfl,_,_,rfl,rfl,n,n+m,rfl,fun r hr'=>⟨r,n,n+m,rfl,aq,by omega,fun q hq=>?_⟩⟩
     have e:(n+m-n).toNat=m.toNat:=by omega
     rw[e]
     exact k1 ⟨⟨c0,c1⟩,c2,by omega⟩ q _ ((aH hr').trans (aH hq)) aq ((aH hr').free hq)
   ·exact⟨_,rfl,oV ⟨aP,k2 fun z=>c2 z.2.1⟩⟩
 ·exact⟨_,rfl,oV ⟨aP,k2 fun z=>c0 z.1.1⟩⟩
end
def Cq (a:Adr): Sp:=fun vs H Q _=>∃(p:Addr) (ns:List Int) (low:Int),vs=[.ref p]/\eN a.aw H p ns low/\Good ns low/\∀t H',Same H H'->H' t=some (.tup ((ns++[low]).map V.int))->Q (.ref t) H'
def Hn (a:Adr): Sp:=fun vs H Q E=>∃(p:Addr) (ns:List Int) (low n:Int),vs=[.ref p,.int n]/\eN a.aw H p ns low/\Good ns low ∧
 (0<=n/\n < pgs ns*plc low->∀t H',Same H H'->H' t=some (.tup ((parts (ns++[low]) n).map V.int))->Q (.ref t) H')/\(¬(0<=n/\n < pgs ns*plc low)->E (.ref a.aD) none H)
theorem Good.ws {ns:List Int}{low:Int}(g:Good ns low): ∀w∈ns++[low],0<=w/\w<=24:=fun w hw=>by
 rcases List.mem_append.mp hw with h | h
 ·have:=g.all w h;omega
 ·rw[List.mem_singleton] at h
  subst h
  have:=g.Bi
  have:=g.Bj
  omega
theorem GZ {ws:List Int}{n:Int}{ps:List Int}(h:o5 ws.reverse n=ps): ps.reverse=parts ws n:=by
 unfold parts
 rw[h]
section
variable {P:Program}{w:World}{K:W.Frag}{mg:Str->Option Value}{base:Heap}{a:Adr}
theorem mM {dvs:List V} (R:bg K a.aw "part_widths" "Shape.part_widths" dX ["self"] dvs) (T:Txt w K mg a) :
  aB P w K mg base a.aw 1 "part_widths" ["self"] (Cq a) dvs:=by
 refine R.ok mE (fun vs H Q E h=>?_) (fun f cdv A outer s H vs Q E hr h=>?_)
 ·obtain⟨p,ns,low,rfl,_⟩:=h
  rfl
 obtain⟨p,ns,low,rfl,S,g,k⟩:=h
 refine⟨_,(@ao _ _ _ (@aI _ _ _ _ (aK Gk (aJ (pv 0) rfl) (@b8 _ _ _ _ _ (@ae _ _ _ _ _ (aJ (pv 0) rfl) aj rfl))))),?_⟩
 obtain⟨dx,t,h1,h2⟩:=id S
 have hlen:=g.len
 refine⟨_,rfl,p,a.aw,dx,_,_,rfl,h1,T.aE,T.dE,rK t low,_,rfl,p,a.aw,dx,_,_,rfl,h1,T.aE,T.dD,fq t low,aP,fun q hq=>?_⟩
 refine⟨t,q,_,_,rfl,rfl,SqT.of (aH hq _ _ h2),SqT.of aq,?_,?_,⟨fun z=>(by cases z),fun _ r hr'=>?_⟩⟩
 ·intro z
  have:=congrArg List.length z
  rw[List.length_map] at this
  simp at this
  rw[this] at hlen
  simp at hlen
 ·rw[List.length_map,sizeLine_eq];show ns.length+1<=_;omega
 ·refine k r _ ((aH hq).trans (aH hr')) ?_
  rw[aq,List.map_append]
  rfl
theorem yB {dvs:List V} (R:bg K a.aw "cut" "Shape.cut" mh ["self", "address"] dvs) (T:Txt w K mg a)
  (aX:aB P w K mg base a.aw 2 "check_address" ["self", "address"] (yA a) [])
  (d6:aB P w K mg base a.aw 1 "part_widths" ["self"] (Cq a) []) :
  aB P w K mg base a.aw 3 "cut" ["self", "address"] (Hn a) dvs:=by
 refine R.ok eV (fun vs H Q E h=>?_) (fun f cdv A outer s H vs Q E hr h=>?_)
 ·obtain⟨p,ns,low,n,rfl,_⟩:=h
  rfl
 obtain⟨p,ns,low,n,rfl,S,g,k1,k2⟩:=h
 refine⟨_,(@ah _ _ _ _ _ (aT (bu (pv 0) T.aE aX (hr.mono (by decide)) af (@ae _ _ _ _ _ (pv 1) aj rfl)))
   (@ah _ _ _ _ _ (@aN _ _ 2 _ _ _ _ eV.nd rfl (by first | exact Or.inl rfl | exact Or.inr rfl) (pv 1) (by rfl) (by first | exact Or.inl rfl | exact Or.inr rfl))
   (@ah _ _ _ _ _ (@aN _ _ 3 _ _ _ _ eV.nd rfl (by first | exact Or.inl rfl | exact Or.inr rfl) (@kB _ _ _ _ aj) (by rfl) (by first | exact Or.inl rfl | exact Or.inr rfl))
   (@ah _ _ _ _ _ (dW cE rfl (GH (by rfl) T.lu (gI (pv 0) T.aE d6 (hr.mono (by decide)) af)) (b5 (i:=4) eV.nd rfl (by first | exact Or.inl rfl | exact Or.inr rfl))
   (@ah _ _ _ _ _ (aT (El PySem.F.plainAttrs_list PySem.F.slot_list_append PySem.F.type_list_append ng (pv 3) (@ae _ _ _ _ _ (aK xE (pv 2) (aK l7 (aK tK au (pv 4)) au)) aj rfl)))
   (@ao _ _ _ (@aN _ _ 2 _ _ _ _ eV.nd rfl (by first | exact Or.inl rfl | exact Or.inr rfl) (aK Av (pv 2) (pv 4)) (by rfl) (by first | exact Or.inl rfl | exact Or.inr rfl)))))
   (@ao _ _ _ (@aI _ _ _ _ (xT rfl (by rfl) T.tD (by rfl) T.lu (pv 3)))))))),?_⟩
 obtain⟨dx,t0,h1,h2⟩:=id S
 have hws:=g.ws
 have hlen:=g.len
 refine⟨_,rfl,p,dx,_,rfl,h1,cy t0 low (by decide +kernel) (by decide +kernel),_,rfl,p,ns,low,n,rfl,S,g,fun c=>?_,fun c=>k2 c⟩
 refine⟨_,rfl,aR (by show 0<=1000;decide),fun q hq=>?_⟩
 have s1:=aH (u:=.lst []) hq
 have q1:(upd H q (.lst [])) q=some (.lst []):=aq
 generalize upd H q (.lst [])=H1 at s1 q1
 refine⟨_,rfl,p,dx,_,rfl,s1 _ _ h1,cy t0 low (by decide +kernel) (by decide +kernel),p,ns,low,rfl,S.same s1,g,fun t H2 s2 ht=>⟨t,_,rfl,SqT.of ht,?_⟩⟩
 generalize hW:ns++[low]=ws at hws ht k1
 have wl:ws.length<=4:=by rw[<-hW,List.length_append];show ns.length+1<=4;omega
 refine E3 (xs:=ws.map V.int) (fun i σ H'=>∃(rest:Int) (ps:List Int) (v:Option V),σ=[some (.ref p),some (.int n),some (.int rest),some (.ref q),v]/\H' q=some (.lst (ps.map V.int))/\(∀b o,H2 b=some o->b≠q->H' b=some o)/\ps.length=i/\0<=rest/\o5 ws.reverse n=ps++o5 (ws.reverse.drop i) rest)
  ⟨n,[],none,rfl,s2 _ _ q1,fun b o hb _=>hb,rfl,c.1,rfl⟩ (fun i σ H' _ z=>?_) ?_ ?_
 ·obtain⟨_,_,_,_,hq',fr,_⟩:=z
  exact SqT.of (fr _ _ ht (L2.tF ht (s2 _ _ q1) (by intro z;cases z)))
 ·rintro i v σ H' hi ⟨rest,ps,u,rfl,hq',fr,hp,r0,e⟩
  rw[<-List.map_reverse] at hi
  obtain⟨w',rfl,hw⟩:=c6 hi
  have wm:w'∈ws:=List.mem_reverse.mp (List.mem_of_getElem? hw)
  have wb:=hws w' wm
  refine⟨_,rfl,.inl ⟨rfl,_,SqL.of hq'⟩,_,rfl,_,rfl,_,_,rfl,rfl,⟨by omega,by omega,by decide⟩,_,_,rfl,rfl,_,_,rfl,rfl,q,_,_,rfl,rfl,hq',?_,?_⟩
  ·have:=(List.getElem?_eq_some_iff.mp hw).1
   rw[List.length_reverse] at this
   rw[List.length_map,sizeLine_eq]
   omega
  refine⟨_,rfl,_,rfl,_,_,rfl,rfl,wb.1,rest / 2^w'.toNat,ps++[rest%2^w'.toNat],_,rfl,?_,fun b o hb nb=>?_,by rw[List.length_append,hp];rfl,EZ r0,?_⟩
  ·rw[aq,List.map_append]
   show some (HO.lst (ps.map V.int++[V.int (Builtin.bitAnd rest (1*2^w'.toNat-1))]))=_
   rw[Int.one_mul,W.kbt_mask]
   rfl
  ·rw[av nb];exact fr b o hb nb
  ·have hd:ws.reverse.drop i=w'::ws.reverse.drop (i+1):=by
    have:=(List.getElem?_eq_some_iff.mp hw)
    obtain⟨hlt,he⟩:=this
    rw[List.drop_eq_getElem_cons hlt,he]
   rw[e,hd,o5,List.append_assoc]
   rfl
 ·rintro σ H' ⟨rest,ps,v,rfl,hq',fr,hp,r0,e⟩
  rw[List.length_map] at e
  rw[List.drop_eq_nil_of_le (by rw[List.length_reverse];exact Nat.le_refl _)] at e
  refine⟨_,rfl,q,_,rfl,SqL.of hq',fun r hr'=>?_⟩
  have sm:Same H H':=fun b o hb=>fr b o (s2 _ _ (s1 _ _ hb)) (az hb hq)
  refine k1 c r _ (sm.trans (aH hr')) ?_
  rw[aq,<-List.map_reverse]
  have e':o5 ws.reverse n=ps:=by rw[e];simp[o5]
  rw[GZ e']
end
end K36

set_option maxHeartbeats 4000000
namespace K36
open PySem L2
abbrev Ix:=List Int
structure uT (H:Hp)(d:Addr)(ch:Int->Option Addr)(cn:Nat): Prop where
 at':∃kvs,H d=some (.dK kvs)/\(∃ks:List Int,nK kvs ks)/\(kvs.map (·.1)).Nodup/\(∀i:Int,bf kvs (.inl i)=(ch i).map V.ref)/\kvs.length<=cn
structure fY (H:Hp)(n:Nat)(top:Addr)(nd:Ix->Option Addr)(fp:List Addr)(cn:Nat): Prop where
 tp:nd []=some top
 tb:∀π d,π.length < n->nd π=some d->uT H d (fun i=>nd (π++[i])) cn/\d∈fp
 inj:∀π ρ d,π.length < n->ρ.length < n->nd π=some d->nd ρ=some d->π=ρ
 up:∀π i x,nd (π++[i])=some x->∃d,nd π=some d
 lg:∀π x,nd π=some x->π.length<=n
 lv:∀b∈fp,∃kvs:List (Key×V),H b=some (.dK kvs)
def Full (n:Nat)(nd:Ix->Option Addr): Prop:=∀π d,nd π=some d->π≠[]->π.length < n->∃i x,nd (π++[i])=some x
theorem uT.keep {H H':Hp}{d:Addr}{ch:Int->Option Addr}{cn:Nat}(T:uT H d ch cn)(k:∀kvs:List (Key×V),H d=some (.dK kvs)->H' d=some (.dK kvs)): uT H' d ch cn:=by
 obtain⟨kvs,h,r⟩:=T
 exact⟨kvs,k _ h,r⟩
theorem uT.mono {H:Hp}{d:Addr}{ch:Int->Option Addr}{cn cn':Nat}(T:uT H d ch cn)(h:cn<=cn'): uT H d ch cn':=by
 obtain⟨kvs,h1,h2,h3,h4,h5⟩:=T
 exact⟨kvs,h1,h2,h3,h4,Nat.le_trans h5 h⟩
theorem fY.keep {H H':Hp}{n:Nat}{top:Addr}{nd:Ix->Option Addr}{fp:List Addr}{cn:Nat}(S:fY H n top nd fp cn)(k:∀b u,H b=some u->b∈fp->H' b=some u): fY H' n top nd fp cn :=
 { S with
  tb:=fun π d h1 h2=>by
   obtain⟨T,m⟩:=S.tb π d h1 h2
   exact⟨T.keep fun kvs e=>k _ _ e m,m⟩
  lv:=fun b hb=>by
   obtain⟨kvs,e⟩:=S.lv b hb
   exact⟨kvs,k _ _ e hb⟩ }
theorem fY.same {H H':Hp}{n:Nat}{top:Addr}{nd:Ix->Option Addr}{fp:List Addr}{cn:Nat}(S:fY H n top nd fp cn)(s:Same H H'): fY H' n top nd fp cn:=S.keep fun b u e _=>s _ _ e
theorem fY.mono {H:Hp}{n:Nat}{top:Addr}{nd:Ix->Option Addr}{fp:List Addr}{cn cn':Nat}(S:fY H n top nd fp cn)(h:cn<=cn'): fY H n top nd fp cn' :=
 { S with tb:=fun π d h1 h2=>⟨(S.tb π d h1 h2).1.mono h,(S.tb π d h1 h2).2⟩ }
theorem xj {kvs:List (Key×V)}{k:Key}{v v0:V}(h:bf kvs k=some v0): (putK kvs k v).map (·.1)=kvs.map (·.1):=by
 unfold putK
 have e:(kvs.any fun kv=>decide (kv.1=k))=true:=by rw[iO,h];rfl
 rw[if_pos e,List.map_map]
 refine List.map_congr_left fun p _=>?_
 show (if p.1=k then (p.1,v) else p).1=p.1
 split<;>rfl
theorem zY {kvs:List (Key×V)}{ks:List Int}(i:Int)(v:V)(ek:nK kvs ks)(nd:(kvs.map (·.1)).Nodup): (∃ks':List Int,nK (putK kvs (.inl i) v) ks')/\((putK kvs (.inl i) v).map (·.1)).Nodup:=by
 cases e:bf kvs (.inl i) with
 | none=>exact⟨⟨ks++[i],by unfold nK;rw[zh _ e,List.map_append,List.map_append,ek];rfl⟩,Gu _ nd e⟩
 | some w=>exact⟨⟨ks,by unfold nK;rw[xj e];exact ek⟩,by rw[xj e];exact nd⟩
theorem ou (kvs:List (Key×V))(k j:Key): bf (dk kvs k) j=if j=k then none else bf kvs j:=by
 induction kvs with
 | nil=>unfold bf dk;simp
 | cons p r ih =>
  by_cases e:p.1=k
  ·rw[qa e,ih]
   by_cases q:j=k
   ·rw[if_pos q,if_pos q]
   ·rw[if_neg q,if_neg q]
    unfold bf
    rw[List.find?_cons_of_neg]
    simpa using fun z:p.1=j=>q (z.symm.trans e)
  ·rw[qb e]
   by_cases z:p.1=j
   ·subst z
    rw[if_neg e]
    unfold bf
    rw[List.find?_cons_of_pos (by simp),List.find?_cons_of_pos (by simp)]
   ·have e1:bf (p::dk r k) j=bf (dk r k) j:=by
     unfold bf;rw[List.find?_cons_of_neg (by simpa using z)]
    have e2:bf (p::r) j=bf r j:=by
     unfold bf;rw[List.find?_cons_of_neg (by simpa using z)]
    rw[e1,e2,ih]
theorem xk {k:Int}: ∀{kvs:List (Key×V)} {ks:List Int},nK kvs ks->nK (dk kvs (.inl k)) (ks.filter fun j=>decide (j≠k))
 | [],[],_=>rfl
 | [],k'::ks,h=>by cases h
 | p::r,[],h=>by cases h
 | p::r,j::ks,h=>by
  have h':=List.cons.inj h
  have ih:=xk (k:=k) h'.2
  have hp:p.1=.inl j:=h'.1
  by_cases e:j=k
  ·rw[qa (by rw[hp,e]),List.filter_cons_of_neg (by simpa using e)];exact ih
  ·rw[qb (fun w=>e (Sum.inl.inj (hp.symm.trans w))),List.filter_cons_of_pos (by simpa using e)]
   unfold nK at ih ⊢
   rw[List.map_cons,List.map_cons,ih,hp]
theorem Cr {π ρ:Ix}{i j:Int}(h:¬(π=ρ/\i=j)): π++[i]≠ρ++[j]:=fun z=>by
 have:=List.append_inj' z rfl
 exact h ⟨this.1,by simpa using this.2⟩
section
variable {H:Hp}{n:Nat}{top:Addr}{nd:Ix->Option Addr}{fp:List Addr}{cn:Nat}
def bA (nd:Ix->Option Addr)(ι:Ix)(v:Option Addr): Ix->Option Addr:=fun ρ=>if ρ=ι then v else nd ρ
theorem fY.at1 (S:fY H n top nd fp cn){H':Hp}{π:Ix}{d:Addr}{i:Int}{v:Option Addr}{kvs':List (Key×V)}{fp':List Addr}{cn':Nat}(cc:cn<=cn')(hl:π.length < n)(hd:nd π=some d)(h':H' d=some (.dK kvs'))(ik:∃ks:List Int,nK kvs' ks)(nk:(kvs'.map (·.1)).Nodup)
  (vi:bf kvs' (.inl i)=v.map V.ref) (vo:∀j:Int,j≠i->bf kvs' (.inl j)=(nd (π++[j])).map V.ref) (ln:kvs'.length<=cn') (no:∀j,nd (π++[i]++[j])=none)
  (kp:∀b u,H b=some u->b∈fp->b≠d->H' b=some u) (sub:∀b∈fp,b∈fp')
  (new:∀e,v=some e->π.length+1 < n->H' e=some (.dK [])/\e∉fp/\e∈fp') (lv':∀b∈fp',∃kvs:List (Key×V),H' b=some (.dK kvs)):fY H' n top (bA nd (π++[i]) v) fp' cn':=by
 have ne0:([]:Ix)≠π++[i]:=fun z=>by have:=congrArg List.length z;simp at this
 have pp:bA nd (π++[i]) v π=some d:=by
  unfold bA;rw[if_neg fun z=>by have:=congrArg List.length z;simp at this];exact hd
 have lpi:(π++[i]).length=π.length+1:=by simp
 refine⟨by unfold bA;rw[if_neg ne0];exact S.tp,fun ρ e h1 h2=>?_,fun ρ τ e h1 h2 h3 h4=>?_,fun ρ j x h=>?_,fun ρ x h=>?_,lv'⟩
 ·by_cases c:ρ=π++[i]
  ·subst c
   unfold bA at h2
   rw[if_pos rfl] at h2
   rw[lpi] at h1
   obtain⟨q1,q2,q3⟩:=new e h2 h1
   refine⟨⟨[],q1,⟨[],rfl⟩,List.nodup_nil,fun j=>?_,Nat.zero_le _⟩,q3⟩
   unfold bA
   rw[if_neg fun z=>by have:=congrArg List.length z;simp at this,no j]
   rfl
  ·have h2':nd ρ=some e:=by unfold bA at h2;rw[if_neg c] at h2;exact h2
   by_cases c2:ρ=π
   ·subst c2
    rw[hd] at h2'
    cases h2'
    refine⟨⟨kvs',h',ik,nk,fun j=>?_,ln⟩,sub _ (S.tb ρ d hl hd).2⟩
    unfold bA
    by_cases c3:j=i
    ·subst c3;rw[if_pos rfl];exact vi
    ·rw[if_neg (Cr fun w=>c3 w.2)];exact vo j c3
   ·obtain⟨T,m⟩:=S.tb ρ e h1 h2'
    have ed:e≠d:=fun z=>c2 (S.inj ρ π d h1 hl (by rw[<-z];exact h2') hd)
    have T':=(T.keep fun kvs q=>kp _ _ q m ed).mono cc
    obtain⟨kvs,t1,t2,t3,t4,t5⟩:=T'
    refine⟨⟨kvs,t1,t2,t3,fun j=>?_,t5⟩,sub _ m⟩
    unfold bA
    rw[if_neg (Cr fun w=>c2 w.1)]
    exact t4 j
 ·unfold bA at h3 h4
  by_cases c1:ρ=π++[i]
  ·rw[if_pos c1] at h3
   by_cases c2:τ=π++[i]
   ·rw[c1,c2]
   ·rw[if_neg c2] at h4
    have:π.length+1 < n:=by rw[c1,lpi] at h1;exact h1
    exact absurd (S.tb τ e h2 h4).2 (new e h3 this).2.1
  ·rw[if_neg c1] at h3
   by_cases c2:τ=π++[i]
   ·rw[if_pos c2] at h4
    have:π.length+1 < n:=by rw[c2,lpi] at h2;exact h2
    exact absurd (S.tb ρ e h1 h3).2 (new e h4 this).2.1
   ·rw[if_neg c2] at h4
    exact S.inj ρ τ e h1 h2 h3 h4
 ·unfold bA at h
  by_cases c:ρ++[j]=π++[i]
  ·have:=List.append_inj' c rfl
   rw[this.1]
   exact⟨d,pp⟩
  ·rw[if_neg c] at h
   obtain⟨e,q⟩:=S.up ρ j x h
   unfold bA
   by_cases c2:ρ=π++[i]
   ·rw[c2,no j] at h;cases h
   ·exact⟨e,by rw[if_neg c2];exact q⟩
 ·unfold bA at h
  by_cases c:ρ=π++[i]
  ·rw[c,lpi];exact hl
  ·rw[if_neg c] at h;exact S.lg ρ x h
theorem fY.above (S:fY H n top nd fp cn){π:Ix}(h:nd π=none): ∀j,nd (π++[j])=none:=fun j=>by
 cases e:nd (π++[j]) with
 | none=>rfl
 | some x=>obtain⟨d,q⟩:=S.up π j x e;rw[h] at q;cases q
end
end K36

set_option maxHeartbeats 4000000
namespace K36
open PySem L2
structure lz (a:Adr)(H:Hp)(p:Addr)(ns:List Int)(low:Int)(nd:Ix->Option Addr)(fp:List Addr)(cn:Nat): Prop where
 ob:∃dx sh top,H p=some (.ins a.aZ dx [("shape",.ref sh),("top",.ref top)])/\eN a.aw H sh ns low/\fY H ns.length top nd fp cn
 g:Good ns low
 fu:Full ns.length nd
 ib:∀π x,nd π=some x->Fit (ns.take π.length) π
theorem lz.same {a:Adr}{H H':Hp}{p:Addr}{ns:List Int}{low:Int}{nd:Ix->Option Addr}{fp:List Addr}{cn:Nat}(S:lz a H p ns low nd fp cn)(s:Same H H'): lz a H' p ns low nd fp cn:=by
 obtain⟨⟨dx,sh,top,h1,h2,h3⟩,g,fu,ib⟩:=S
 exact⟨⟨dx,sh,top,s _ _ h1,h2.same s,h3.same s⟩,g,fu,ib⟩
theorem eI (ns:List Int)(n:Int): (parts ns n).length=ns.length:=by
 unfold parts
 rw[List.length_reverse]
 have:∀(ws:List Int) (n:Int),(o5 ws n).length=ws.length:=by
  intro ws
  induction ws with
  | nil=>intro n;rfl
  | cons w ws ih=>intro n;show (o5 ws _).length+1=_;rw[ih];rfl
 rw[this,List.length_reverse]
theorem Fy (ws:List Int)(h:1<=ws.length): tM (ws.map V.int) none (some (-1))=(ws.take (ws.length-1)).map V.int:=by
 unfold tM
 rw[HT.Ei,List.length_map,List.drop_zero,List.map_take]
 have e:HT.sIx ws.length ws.length (some (-1))=ws.length-1:=by
  show (if (-1:Int) < 0 then ((-1:Int)+(ws.length:Int)).toNat else min (-1:Int).toNat ws.length)=_
  rw[if_pos (by decide)]
  omega
 rw[e,Nat.sub_zero]
theorem qL (ws:List Int)(x:Int): tM ((ws++[x]).map V.int) none (some (-1))=ws.map V.int:=by
 rw[Fy _ (by rw[List.length_append];show 1<=ws.length+1;omega),List.length_append]
 show ((ws++[x]).take (ws.length+1-1)).map V.int=_
 rw[Nat.add_sub_cancel,List.take_left' rfl]
theorem fY.pre {H:Hp}{n:Nat}{top:Addr}{nd:Ix->Option Addr}{fp:List Addr}{cn:Nat}(S:fY H n top nd fp cn): ∀(k:Nat) {ι:Ix} {x:Addr},ι.length=k->nd ι=some x->∀j,∃d,nd (ι.take j)=some d:=by
 intro k
 induction k with
 | zero =>
  intro ι x hk h j
  have:ι=[]:=List.eq_nil_of_length_eq_zero hk
  subst this
  rw[List.take_nil];exact⟨x,h⟩
 | succ k ih =>
  intro ι x hk h j
  by_cases c:ι.length<=j
  ·rw[List.take_of_length_le c];exact⟨x,h⟩
  ·have ne:ι≠[]:=fun z=>by rw[z] at hk;cases hk
   have e:=List.dropLast_concat_getLast ne
   rw[<-e] at h
   obtain⟨d,q⟩:=S.up _ _ _ h
   have l:ι.dropLast.length=k:=by rw[List.length_dropLast,hk];rfl
   obtain⟨d',q'⟩:=ih l q j
   refine⟨d',?_⟩
   rw[<-q']
   congr 1
   rw[List.dropLast_eq_take,List.take_take]
   congr 1
   omega
def Ct (a:Adr): Sp:=fun vs H Q _=>∃(p sh dx:Addr) (ns:List Int) (low:Int),vs=[.ref p,.ref sh]/\H p=some (.ins a.aZ dx [])/\eN a.aw H sh ns low/\Good ns low ∧
 ∀top H',H top=none->lz a H' p ns low (fun π=>if π=[] then some top else none) [top] 0->(∀b u,H b=some u->b≠p->H' b=some u)->Q .non H'
def Cu (a:Adr): Sp:=fun vs H Q E=>∃(p:Addr) (ns:List Int) (low n:Int) (nd:Ix->Option Addr) (fp:List Addr) (cn:Nat),vs=[.ref p,.int n]/\lz a H p ns low nd fp cn ∧
 (0<=n/\n < pgs ns->∀t H',Same H H'->H' t=some (.tup ((parts ns n).map V.int))->Q (.ref t) H')/\(¬(0<=n/\n < pgs ns)->E (.ref a.aD) none H)
def ndV:Option Addr->V
 | some x=>.ref x
 | none=>.non
def Cv (a:Adr): Sp:=fun vs H Q E=>∃(p:Addr) (ns:List Int) (low n:Int) (nd:Ix->Option Addr) (fp:List Addr) (cn:Nat),vs=[.ref p,.int n]/\lz a H p ns low nd fp cn ∧
 (0<=n/\n < pgs ns->∀H',Same H H'->Q (ndV (nd (parts ns n))) H')/\(¬(0<=n/\n < pgs ns)->E (.ref a.aD) none H)
section
variable {P:Program}{w:World}{K:W.Frag}{mg:Str->Option Value}{base:Heap}{a:Adr}
theorem qM {dvs:List V} (R:eM K a.aZ "Tree.__init__" gP ["self", "shape"] dvs) (T:Txt w K mg a) :
  cf P w K mg base a.aZ 1 ["self", "shape"] (Ct a) dvs:=by
 refine R.ok qx (fun vs H Q E h=>?_) (fun f cdv A outer s H vs Q E hr h=>?_)
 ·obtain⟨p,sh,dx,ns,low,rfl,_⟩:=h
  rfl
 obtain⟨p,sh,dx,ns,low,rfl,hp,S,g,k⟩:=h
 refine⟨_,(@ah _ _ _ _ _ (bI (pv 0) (pv 1) rfl)
   (@ao _ _ _ (bI (pv 0) gw rfl))),?_⟩
 have t1:=T.b9;have t2:=T.cH;have t3:=T.dF
 walk_at "go"
 intro d hd
 have hdp:d≠p:=fun z=>by rw[z,aq] at hd;cases hd
 have hd0:H d=none:=by rw[av hdp] at hd;exact hd
 walk_at "go"
 rw[kF,lQ (by decide +kernel),kF]
 obtain⟨dxs,ts,hs,hw⟩:=id S
 have nps:p≠sh:=fun z=>by
  rw[z,hs] at hp
  injection hp with hp
  injection hp with _ _ hf
  have:=fq ts low
  rw[hf] at this
  cases this
 have npt:p≠ts:=tF hp hw (by intro z;cases z)
 have kp:∀b u,H b=some u->b≠p->upd (upd (upd H p (.ins a.aZ dx [("shape",.ref sh)])) d (.dK [])) p (.ins a.aZ dx [("shape",.ref sh),("top",.ref d)]) b=some u:=fun b u e nb=>by
  rw[av nb,av (az e hd0),av nb];exact e
 have hd3:upd (upd (upd H p (.ins a.aZ dx [("shape",.ref sh)])) d (.dK [])) p (.ins a.aZ dx [("shape",.ref sh),("top",.ref d)]) d=some (.dK []):=by rw[av hdp];exact aq
 refine k d _ hd0 ⟨⟨dx,sh,d,aq,⟨dxs,ts,kp _ _ hs nps.symm,kp _ _ hw npt.symm⟩,?_⟩,g,fun π e h hn _=>(by rw[if_neg hn] at h;cases h),fun π x h=>?_⟩ kp
 case refine_2 =>
  by_cases c:π=[]
  ·rw[c];exact trivial
  ·rw[if_neg c] at h;cases h
 refine⟨if_pos rfl,fun π e h1 h2=>?_,fun π ρ e h1 h2 h3 h4=>?_,fun π i x h=>?_,fun π x h=>?_,fun b hb=>?_⟩
 ·by_cases c:π=[]
  ·rw[if_pos c] at h2
   cases h2
   refine⟨⟨[],hd3,⟨[],rfl⟩,List.nodup_nil,fun i=>?_,Nat.le_refl _⟩,by simp⟩
   rw[if_neg (by simp)];rfl
  ·rw[if_neg c] at h2;cases h2
 ·by_cases c:π=[]
  ·by_cases c2:ρ=[]
   ·rw[c,c2]
   ·rw[if_neg c2] at h4;cases h4
  ·rw[if_neg c] at h3;cases h3
 ·rw[if_neg (by simp)] at h;cases h
 ·by_cases c:π=[]
  ·rw[c];exact Nat.zero_le _
  ·rw[if_neg c] at h;cases h
 ·rw[List.mem_singleton] at hb;rw[hb];exact⟨[],hd3⟩
theorem sL {dvs:List V} (R:bg K a.aZ "indexes" "Tree.indexes" iW ["self", "page"] dvs) (T:Txt w K mg a)
  (mO:aB P w K mg base a.aw 3 "cut" ["self", "address"] (Hn a) [])
  (bW:aB P w K mg base a.aw 2 "address_of" ["self", "page", "place"] (uR a) []) :
  aB P w K mg base a.aZ 4 "indexes" ["self", "page"] (Cu a) dvs:=by
 refine R.ok sB (fun vs H Q E h=>?_) (fun f cdv A outer s H vs Q E hr h=>?_)
 ·obtain⟨p,ns,low,n,nd,fp,cn,rfl,_⟩:=h
  rfl
 obtain⟨p,ns,low,n,nd,fp,cn,rfl,S,k1,k2⟩:=h
 refine⟨_,(@ao _ _ _ (@aI _ _ _ _ (j7 tN (bu (aJ (pv 0) rfl) T.aE mO (hr.mono (by decide)) af (@ae _ _ _ _ _ (bu (aJ (pv 0) rfl) T.aE bW (hr.mono (by decide)) af (@ae _ _ _ _ _ (pv 1) (@ae _ _ _ _ _ au aj rfl) rfl)) aj rfl)) oS (kC (nI jx au))))),?_⟩
 have t1:=T.b9;have t2:=T.cH;have t3:=T.dF;have t4:=T.aE
 obtain⟨⟨dx,sh,top,h1,h2,h3⟩,g,fu,ib⟩:=S
 obtain⟨dxs,ts,hs,_⟩:=id h2
 have pl:=yy low
 have f1:=cy ts low (m := "cut") (by decide +kernel) (by decide +kernel)
 have f2:=cy ts low (m := "address_of") (by decide +kernel) (by decide +kernel)
 have e0:0<=n/\n < pgs ns->(n*plc low+0) / 2^low.toNat=n:=fun _=>by
  rw[Int.add_zero]
  exact Int.mul_ediv_cancel n (Int.ne_of_gt pl)
 walk_at "go"
 refine⟨fun c=>?_,fun c=>k2 fun z=>c ⟨z,by decide,pl⟩⟩
 have inn:0<=n*plc low+0/\n*plc low+0 < pgs ns*plc low:=by
  rw[Int.add_zero]
  exact⟨Int.mul_nonneg c.1.1 (Int.le_of_lt pl),Int.mul_lt_mul_of_pos_right c.1.2 pl⟩
 walk_at "go"
 refine⟨fun _ t H1 s1 ht=>?_,fun z=>absurd inn z⟩
 rw[iQ,e0 c.1] at ht
 have pl2:=eI ns n
 have gl:=g.len
 walk_at "go"
 refine⟨fun z=>?_,fun q hq=>?_⟩
 ·have z2:=z.2
  rw[List.length_map,List.length_append] at z2
  have e:HT.sIx ((parts ns n).length+1) ((parts ns n).length+1) (some (-1))=(parts ns n).length:=by
   show (if (-1:Int) < 0 then ((-1:Int)+((((parts ns n).length+1:Nat)):Int)).toNat else min (-1:Int).toNat ((parts ns n).length+1))=_
   rw[if_pos (by decide)]
   omega
  have z3:HT.sIx ((parts ns n).length+1) ((parts ns n).length+1) (some (-1))=(parts ns n).length+1:=z2
  rw[e] at z3
  omega
 ·rw[qL]
  exact k1 c.1 q _ (s1.trans (aH hq)) aq
theorem yC {dvs:List V} (R:bg K a.aZ "leaf" "Tree.leaf" mj ["self", "page"] dvs) (T:Txt w K mg a)
  (bQ:aB P w K mg base a.aZ 4 "indexes" ["self", "page"] (Cu a) []) :
  aB P w K mg base a.aZ 5 "leaf" ["self", "page"] (Cv a) dvs:=by
 refine R.ok iz (fun vs H Q E h=>?_) (fun f cdv A outer s H vs Q E hr h=>?_)
 ·obtain⟨p,ns,low,n,nd,fp,cn,rfl,_⟩:=h
  rfl
 obtain⟨p,ns,low,n,nd,fp,cn,rfl,S,k1,k2⟩:=h
 refine⟨_,(@ah _ _ _ _ _ (@aN _ _ 2 _ _ _ _ iz.nd rfl (by first | exact Or.inl rfl | exact Or.inr rfl) (aJ (pv 0) rfl) (by rfl) (by first | exact Or.inl rfl | exact Or.inr rfl))
   (@ah _ _ _ _ _ (dW cE rfl (Ar (bu (pv 0) T.b9 bQ (hr.mono (by decide)) af (@ae _ _ _ _ _ (pv 1) aj rfl))) (b5 (i:=3) iz.nd rfl (by first | exact Or.inl rfl | exact Or.inr rfl))
   (@ah _ _ _ _ _ (bx (aV (ke hr.u1) (pv 3) (pv 2) (by with_unfolding_all rfl)) (@ao _ _ _ (@aI _ _ _ _ gG)) aS)
   (@ao _ _ _ (@aN _ _ 2 _ _ _ _ iz.nd rfl (by first | exact Or.inl rfl | exact Or.inr rfl) (sZ hr.u1 (pv 2) (pv 3) (fun _ _=>rfl)) (by rfl) (by first | exact Or.inl rfl | exact Or.inr rfl)))))
   (@ao _ _ _ (@aI _ _ _ _ (pv 2))))),?_⟩
 have t1:=T.b9;have t2:=T.cH;have t3:=T.dF
 have SA:=S
 obtain⟨⟨dx,sh,top,h1,h2,h3⟩,g,fu,ib⟩:=S
 walk_at "go"
 refine⟨fun c t H1 s1 ht=>?_,fun c=>k2 c⟩
 have I1:=h3.same s1
 have pl2:=eI ns n
 walk_at "go"
 refine xC (xs:=(parts ns n).map V.int) (fun i σ H'=>(∃(x:Addr) (v:Option V),σ=[some (.ref p),some (.int n),some (.ref x),v]/\nd ((parts ns n).take i)=some x)/\H'=H1) ⟨⟨top,_,rfl,by rw[List.take_zero];exact h3.tp⟩,rfl⟩ (fun i σ H' _ z=>by rw[z.2];exact SqT.of ht) ?_ ?_
 ·rintro i v σ H' hi ⟨⟨x,v3,rfl,hx⟩,rfl⟩
  obtain⟨ix,rfl,hix⟩:=c6 hi
  have il:i < (parts ns n).length:=(List.getElem?_eq_some_iff.mp hix).1
  have tk:(parts ns n).take (i+1)=(parts ns n).take i++[ix]:=by rw[List.take_add_one,hix];rfl
  have li:((parts ns n).take i).length < ns.length:=by rw[List.length_take];omega
  obtain⟨⟨kvs,q1,q2,q3,q4,q5⟩,_⟩:=I1.tb _ x li hx
  have gg:=lW.k (k:=Sum.inl ix) q1
  rw[q4 ix,<-tk] at gg
  cases e:nd ((parts ns n).take (i+1)) with
  | none =>
   rw[e] at gg
   walk_at "go"
   have nn:nd (parts ns n)=none:=by
    cases e2:nd (parts ns n) with
    | none=>rfl
    | some y=>obtain⟨d,q⟩:=h3.pre _ rfl e2 (i+1);rw[e] at q;cases q
   have:=k1 c _ s1
   rw[nn] at this
   exact this
  | some y =>
   rw[e] at gg
   walk_at "go"
   exact⟨⟨y,_,rfl,rfl⟩,rfl⟩
 ·rintro σ H' ⟨⟨x,v3,rfl,hx⟩,rfl⟩
  rw[List.length_map,List.take_of_length_le (Nat.le_refl _)] at hx
  walk_at "go"
  have:=k1 c _ s1
  rw[hx] at this
  exact this
end
end K36

set_option maxHeartbeats 4000000
namespace K36
open PySem L2
structure Put (nd:Ix->Option Addr)(ι:Ix)(x:Addr)(nd':Ix->Option Addr): Prop where
 at':nd' ι=some x
 old:∀π d,nd π=some d->π≠ι->nd' π=some d
 oth:∀π,(∀j,π≠ι.take j)->nd' π=nd π
def Fz (a:Adr): Sp:=fun vs H Q E=>∃(p x:Addr) (ns:List Int) (low n:Int) (nd:Ix->Option Addr) (fp:List Addr) (cn:Nat),vs=[.ref p,.int n,.ref x]/\lz a H p ns low nd fp cn/\cn < 100000/\(∃u,H x=some u) ∧
 (0<=n/\n < pgs ns->∀nd' fp' H',lz a H' p ns low nd' fp' (cn+1)->Put nd (parts ns n) x nd'->Fr fp fp' H H'->(∀b∈fp,b∈fp')->Q .non H')/\(¬(0<=n/\n < pgs ns)->E (.ref a.aD) none H)
theorem zZ (κ:List Int)(z:Int): atI ((κ++[z]).map V.int) (-1)=some (.int z):=by
 have l:((κ++[z]).map V.int).length=κ.length+1:=by rw[List.length_map,List.length_append];rfl
 unfold atI ixN
 rw[if_neg (by decide),l,if_pos (by omega)]
 have e:((-1:Int)+((κ.length+1:Nat):Int)).toNat=κ.length:=by omega
 rw[e]
 show ((κ++[z]).map V.int)[κ.length]?=_
 rw[List.getElem?_map,List.getElem?_append_right (Nat.le_refl _),Nat.sub_self]
 rfl
theorem z8:∀{ws ps:List Int} (j:Nat),Fit ws ps->Fit (ws.take j) (ps.take j)
 | [],[],j,_=>by rw[List.take_nil];exact trivial
 | _::_,_::_,0,_=>trivial
 | _::_,_::_,j+1,h=>⟨h.1,z8 j h.2⟩
 | [],_::_,_,h=>h.elim
 | _::_,[],_,h=>h.elim
theorem Put.ib {ns:List Int}{nd nd':Ix->Option Addr}{ι:Ix}{x:Addr}(P:Put nd ι x nd')(ib:∀π x,nd π=some x->Fit (ns.take π.length) π)(f:Fit ns ι): ∀π x,nd' π=some x->Fit (ns.take π.length) π:=fun π x h=>by
 by_cases c:∃j,π=ι.take j
 ·obtain⟨j,rfl⟩:=c
  have hl:=f.length
  by_cases c2:j<=ι.length
  ·rw[List.length_take,Nat.min_eq_left c2];exact z8 j f
  ·have e:ι.take j=ι:=List.take_of_length_le (by omega)
   rw[e,<-hl,List.take_length];exact f
 ·exact ib π x (by rw[<-P.oth π fun j z=>c ⟨j,z⟩];exact h)
structure Down (H0 H:Hp)(N:Nat)(top:Addr)(nd nd':Ix->Option Addr)(fp fp':List Addr)(cn:Nat)(ι:Ix)(i:Nat)(d:Addr): Prop where
 tr:fY H N top nd' fp' (cn+1)
 at':nd' (ι.take i)=some d
 old:∀π e,nd π=some e->nd' π=some e
 oth:∀π,(∀j,j<=i->π≠ι.take j)->nd' π=nd π
 fre:∀j,i<=j->j < N->∀e,nd' (ι.take j)=some e->uT H e (fun k=>nd' (ι.take j++[k])) cn
 fr:Fr fp fp' H0 H
 sub:∀b∈fp,b∈fp'
 ful:∀π e,nd' π=some e->π≠[]->π.length < N->π≠ι.take i->∃k y,nd' (π++[k])=some y
theorem Down.same {H0 H H':Hp}{N:Nat}{top:Addr}{nd nd':Ix->Option Addr}{fp fp':List Addr}{cn:Nat}{ι:Ix}{i:Nat}{d:Addr}(D:Down H0 H N top nd nd' fp fp' cn ι i d)(s:Same H H'): Down H0 H' N top nd nd' fp fp' cn ι i d :=
 { D with tr:=D.tr.same s,fre:=fun j h1 h2 e h=>(D.fre j h1 h2 e h).keep fun kvs q=>s _ _ q,fr:=D.fr.trans (Fr.same s) }
theorem Down.go {H0 H:Hp}{N:Nat}{top:Addr}{nd nd':Ix->Option Addr}{fp fp':List Addr}{cn:Nat}{ι:Ix}{i:Nat}{d e:Addr}(D:Down H0 H N top nd nd' fp fp' cn ι i d)(hi:i < ι.length)(h:nd' (ι.take (i+1))=some e): Down H0 H N top nd nd' fp fp' cn ι (i+1) e :=
 { D with
  at':=h
  oth:=fun π hp=>D.oth π fun j hj=>hp j (by omega)
  fre:=fun j h1 h2=>D.fre j (by omega) h2
  ful:=fun π x q1 q2 q3 q4=>by
   by_cases c:π=ι.take i
   ·have e1:ι.take (i+1)=ι.take i++[ι[i]]:=by rw[List.take_add_one,List.getElem?_eq_getElem hi];rfl
    exact⟨ι[i],e,by rw[c,<-e1];exact h⟩
   ·exact D.ful π x q1 q2 q3 c }
theorem Down.new {H0 H H':Hp}{N:Nat}{top:Addr}{nd nd':Ix->Option Addr}{fp fp':List Addr}{cn:Nat}{ι:Ix}{i:Nat}{d e:Addr}{ix:Int}{kvs:List (Key×V)}(D:Down H0 H N top nd nd' fp fp' cn ι i d)(hN:ι.length=N)(hi:i+1 < N)(hx:ι[i]?=some ix)(h:nd' (ι.take (i+1))=none)(hd:H d=some (.dK kvs))(he:H e=none)
  (eH:H'=upd (upd H e (.dK [])) d (.dK (putK kvs (.inl ix) (.ref e)))):Down H0 H' N top nd (bA nd' (ι.take (i+1)) (some e)) fp (e::fp') cn ι (i+1) e:=by
 have tk:ι.take (i+1)=ι.take i++[ix]:=by rw[List.take_add_one,hx];rfl
 obtain⟨FA,q1,⟨ks,q2⟩,q3,q4,q5⟩:=D.fre i (Nat.le_refl _) (by omega) d D.at'
 rw[hd] at q1
 cases q1
 have li:(ι.take i).length < N:=by rw[List.length_take];omega
 obtain⟨ik,nk⟩:=zY ix (.ref e) q2 q3
 have ned:d≠e:=az hd he
 have dm:d∈fp':=(D.tr.tb _ d li D.at').2
 have Hd:H' d=some (.dK (putK kvs (.inl ix) (.ref e))):=by rw[eH];exact aq
 have He:H' e=some (.dK []):=by rw[eH,av ned.symm];exact aq
 have kpb:∀b u,H b=some u->b≠d->H' b=some u:=fun b u q nb=>by rw[eH,av nb,av (az q he)];exact q
 have nef:e∉fp':=fun w=>by obtain⟨kv,q⟩:=D.tr.lv e w;rw[he] at q;cases q
 have no:∀j,nd' (ι.take (i+1)++[j])=none:=D.tr.above h
 have lp:=dv kvs (.inl ix) (V.ref e)
 have TR:=D.tr.at1 (H':=H') (π:=ι.take i) (i:=ix) (v:=some e) (fp':=e::fp') (cn':=cn+1) (Nat.le_refl _) li D.at' Hd ik nk (by rw[d8,if_pos rfl];rfl) (fun j hj=>by rw[d8,if_neg (fun w=>hj (Sum.inl.inj w))];exact q4 j) (by omega) (fun j=>by rw[<-tk];exact no j) (fun b u q _ nb=>kpb b u q nb) (fun b hb=>List.mem_cons_of_mem _ hb)
  (fun e' w _=>by cases w;exact⟨He,nef,List.mem_cons_self⟩) (fun b hb=>by
   by_cases c:b=d
   ·rw[c];exact⟨_,Hd⟩
   ·rcases List.mem_cons.mp hb with w | w
    ·rw[w];exact⟨_,He⟩
    ·obtain⟨kv,q⟩:=D.tr.lv b w
     exact⟨kv,kpb _ _ q c⟩)
 rw[<-tk] at TR
 refine { tr:=TR,at':=if_pos rfl,old:=fun π x w=>?_,oth:=fun π w=>?_,fre:=fun j h1 h2 x w=>?_,fr:=?_,sub:=fun b hb=>List.mem_cons_of_mem _ (D.sub b hb),ful:=fun π x w1 w2 w3 w4=>?_ }
 ·have q:=D.old π x w
  unfold bA
  rw[if_neg fun z=>by rw[z,h] at q;cases q]
  exact q
 ·unfold bA
  rw[if_neg (w (i+1) (Nat.le_refl _))]
  exact D.oth π fun j hj=>w j (by omega)
 ·unfold bA at w
  by_cases c:ι.take j=ι.take (i+1)
  ·rw[if_pos c] at w
   cases w
   refine⟨[],He,⟨[],rfl⟩,List.nodup_nil,fun k=>?_,Nat.zero_le _⟩
   unfold bA
   rw[c,if_neg fun z=>by have:=congrArg List.length z;simp at this,no k]
   rfl
  ·rw[if_neg c] at w
   obtain⟨d',q⟩:=D.tr.pre _ rfl w (i+1)
   rw[List.take_take,Nat.min_eq_left h1,h] at q
   cases q
 ·rw[eH]
  exact D.fr.trans ((Fr.new he).trans (Fr.put (List.mem_cons_of_mem _ dm)))
 ·unfold bA at w1
  rw[if_neg w4] at w1
  by_cases c:π=ι.take i
  ·exact⟨ix,e,by unfold bA;rw[c,<-tk,if_pos rfl]⟩
  ·obtain⟨k,y,q⟩:=D.ful π x w1 w2 w3 c
   refine⟨k,y,?_⟩
   unfold bA
   rw[if_neg fun z=>by rw[z,h] at q;cases q]
   exact q
section
variable {P:Program}{w:World}{K:W.Frag}{mg:Str->Option Value}{base:Heap}{a:Adr}
theorem z9 {dvs:List V} (R:bg K a.aZ "put" "Tree.put" n9 ["self", "page", "leaf"] dvs) (T:Txt w K mg a)
  (bQ:aB P w K mg base a.aZ 4 "indexes" ["self", "page"] (Cu a) []) :
  aB P w K mg base a.aZ 5 "put" ["self", "page", "leaf"] (Fz a) dvs:=by
 refine R.ok gB (fun vs H Q E h=>?_) (fun f cdv A outer s H vs Q E hr h=>?_)
 ·obtain⟨p,x,ns,low,n,nd,fp,cn,rfl,_⟩:=h
  rfl
 obtain⟨p,x,ns,low,n,nd,fp,cn,rfl,S,LR,xl,k1,k2⟩:=h
 refine⟨_,(@ah _ _ _ _ _ (@aN _ _ 3 _ _ _ _ gB.nd rfl (by first | exact Or.inl rfl | exact Or.inr rfl) (bu (pv 0) T.b9 bQ (hr.mono (by decide)) af (@ae _ _ _ _ _ (pv 1) aj rfl)) (by rfl) (by first | exact Or.inl rfl | exact Or.inr rfl))
   (@ah _ _ _ _ _ (@aN _ _ 4 _ _ _ _ gB.nd rfl (by first | exact Or.inl rfl | exact Or.inr rfl) (aJ (pv 0) rfl) (by rfl) (by first | exact Or.inl rfl | exact Or.inr rfl))
   (@ah _ _ _ _ _ (dW cE rfl (Ar (j7 tN (pv 3) oS (kC (nI jx au)))) (b5 (i:=5) gB.nd rfl (by first | exact Or.inl rfl | exact Or.inr rfl))
   (@ao _ _ _ (@aN _ _ 4 _ _ _ _ gB.nd rfl (by first | exact Or.inl rfl | exact Or.inr rfl) (rV (pv 4) (pv 5) gw ⟨rfl,rfl,rfl,rfl⟩) (by rfl) (by first | exact Or.inl rfl | exact Or.inr rfl))))
   (@ao _ _ _ (@xM _ _ _ _ _ _ _ _ _ hr.u1 (pv 4) (@cY _ _ _ _ _ _ _ jy (pv 3) (nI jx au) (fun _ _=>rfl)) (pv 2) (by rfl)))))),?_⟩
 have t1:=T.b9;have t2:=T.cH;have t3:=T.dF
 have SA:=S
 obtain⟨⟨dx,sh,top,h1,h2,h3⟩,g,fu,ib⟩:=S
 walk_at "go"
 refine⟨fun c t H1 s1 ht=>?_,fun c=>k2 c⟩
 have I1:=h3.same s1
 have pl2:=eI ns n
 have gl:=g.len
 have h11:=s1 _ _ h1
 obtain⟨κ,z,ek⟩:∃κ z,parts ns n=κ++[z]:=by
  have ne:parts ns n≠[]:=fun w=>by rw[w] at pl2;simp at pl2;omega
  exact⟨_,_,(List.dropLast_concat_getLast ne).symm⟩
 have kl:κ.length+1=ns.length:=by rw[ek,List.length_append] at pl2;exact pl2
 rw[ek] at ht
 walk_at "go"
 refine⟨fun w=>?_,fun q hq=>?_⟩
 ·have z2:=w.2
  rw[List.length_map,List.length_append] at z2
  have e:HT.sIx (κ.length+1) (κ.length+1) (some (-1))=κ.length:=by
   show (if (-1:Int) < 0 then ((-1:Int)+(((κ.length+1:Nat)):Int)).toNat else min (-1:Int).toNat (κ.length+1))=_
   rw[if_pos (by decide)]
   omega
  have z3:HT.sIx (κ.length+1) (κ.length+1) (some (-1))=κ.length+1:=z2
  rw[e] at z3
  omega
 rw[qL]
 have s2:Same H1 (upd H1 q (.tup (κ.map V.int))):=aH hq
 have e2:upd H1 q (.tup (κ.map V.int)) q=some (.tup (κ.map V.int)):=aq
 generalize upd H1 q (.tup (κ.map V.int))=H2 at s2 e2
 have ht2:=s2 _ _ ht
 have I2:=I1.same s2
 have D0:Down H2 H2 ns.length top nd nd fp fp cn (κ++[z]) 0 top:={
  tr:=I2.mono (Nat.le_succ _),at':=by rw[List.take_zero];exact I2.tp,old:=fun _ _ e=>e,oth:=fun _ _=>rfl
  fre:=fun j _ h2 e h=>(I2.tb _ e (by rw[List.length_take];omega) h).1,fr:=Fr.refl _ _,sub:=fun _ h=>h
  ful:=fun π e q1 q2 q3 _=>fu π e q1 q2 q3 }
 walk_at "go"
 refine xC (xs:=κ.map V.int) (fun i σ H'=>∃(nd':Ix->Option Addr) (fp':List Addr) (d:Addr) (v:Option V),σ=[some (.ref p),some (.int n),some (.ref x),some (.ref t),some (.ref d),v]/\Down H2 H' ns.length top nd nd' fp fp' cn (κ++[z]) i d) ⟨nd,fp,top,_,rfl,D0⟩ (fun i σ H' _ w=>?_) ?_ ?_
 ·obtain⟨nd',fp',d,v,_,D⟩:=w
  have nq:q∉fp:=fun w=>by obtain⟨kv,e⟩:=I2.lv q w;rw[e2] at e;cases e
  exact SqT.of (D.fr.1 _ _ e2 nq)
 ·rintro i v σ H3 hi ⟨nd',fp',d,v5,rfl,D⟩
  obtain⟨ix,rfl,hix⟩:=c6 hi
  have il:i < κ.length:=(List.getElem?_eq_some_iff.mp hix).1
  have hx:(κ++[z])[i]?=some ix:=by rw[List.getElem?_append_left il];exact hix
  have tk:(κ++[z]).take (i+1)=(κ++[z]).take i++[ix]:=by rw[List.take_add_one,hx];rfl
  obtain⟨kvs,q1,q2,q3,q4,q5⟩:=D.fre i (Nat.le_refl _) (by omega) d D.at'
  have id1:IsD H3 d:=.inl ⟨kvs,Rd.of q1⟩
  have zz:kvs.length < sizeLine:=by rw[sizeLine_eq];omega
  have kn:V.int ix=kV (Sum.inl ix:Key):=rfl
  walk_at "go"
  intro e he
  have q1':=aH (u:=.dK []) he _ _ q1
  walk_at "go"
  refine⟨fun v hv=>?_,fun hn=>?_⟩
  ·rw[q4 ix,<-tk] at hv
   cases e':nd' ((κ++[z]).take (i+1)) with
   | none=>rw[e'] at hv;cases hv
   | some y =>
    rw[e'] at hv
    cases hv
    exact⟨nd',fp',y,_,rfl,(D.same (aH he)).go (by rw[List.length_append];show i < κ.length+1;omega) e'⟩
  ·rw[q4 ix,<-tk] at hn
   have hn':nd' ((κ++[z]).take (i+1))=none:=by
    cases e':nd' ((κ++[z]).take (i+1)) with
    | none=>rfl
    | some y=>rw[e'] at hn;cases hn
   exact⟨_,e::fp',e,_,rfl,D.new (by rw[List.length_append];exact kl) (by omega) hx hn' q1 he rfl⟩
 ·rintro σ H3 ⟨nd',fp',d,v5,rfl,D⟩
  rw[List.length_map] at D
  have tkk:(κ++[z]).take κ.length=κ:=List.take_left' rfl
  obtain⟨kvs,q1,⟨ks,q2⟩,q3,q4,q5⟩:=D.fre κ.length (Nat.le_refl _) (by omega) d D.at'
  rw[tkk] at q4
  have hat:=D.at'
  rw[tkk] at hat
  have ntf:t∉fp:=fun w=>by obtain⟨kv,e⟩:=I2.lv t w;rw[ht2] at e;cases e
  have ht3:=D.fr.1 _ _ ht2 ntf
  have al:=zZ κ z
  have dp:=AI.k (k:=Sum.inl z) (v:=V.ref x) q1 (by rw[sizeLine_eq];omega)
  walk_at "go"
  have lk:κ.length < ns.length:=by omega
  have dm:d∈fp':=(D.tr.tb _ d lk hat).2
  obtain⟨ik,nk⟩:=zY z (.ref x) q2 q3
  have lp:=dv kvs (.inl z) (V.ref x)
  have kpb:∀b u,H3 b=some u->b≠d->upd H3 d (.dK (putK kvs (.inl z) (.ref x))) b=some u:=fun b u e nb=>by rw[av nb];exact e
  have TR:=D.tr.at1 (H':=upd H3 d (.dK (putK kvs (.inl z) (.ref x)))) (π:=κ) (i:=z) (v:=some x) (fp':=fp') (cn':=cn+1) (Nat.le_refl _) lk hat aq ik nk (by rw[d8,if_pos rfl];rfl) (fun j hj=>by rw[d8,if_neg (fun w=>hj (Sum.inl.inj w))];exact q4 j) (by omega)
   (fun j=>by
    cases e:nd' (κ++[z]++[j]) with
    | none=>rfl
    | some y=>have:=D.tr.lg _ _ e;rw[List.length_append,List.length_append] at this;simp at this;omega)
   (fun b u e _ nb=>kpb b u e nb) (fun b hb=>hb) (fun e _ w=>by omega) (fun b hb=>by
    by_cases c:b=d
    ·rw[c];exact⟨_,aq⟩
    ·obtain⟨kv,e⟩:=D.tr.lv b hb
     exact⟨kv,kpb _ _ e c⟩)
  have kO:∀b u,H2 b=some u->(∀kv,u≠.dK kv)->upd H3 d (.dK (putK kvs (.inl z) (.ref x))) b=some u:=fun b u e h=>by
   have n1:b∉fp:=fun w=>by obtain⟨kv,e'⟩:=I2.lv b w;rw[e'] at e;cases e;exact h _ rfl
   have e3:=D.fr.1 _ _ e n1
   exact kpb _ _ e3 fun w=>by rw[w,q1] at e3;cases e3;exact h _ rfl
  have s12:=s1.trans s2
  obtain⟨dxs,ts,hs,hw⟩:=id h2
  have PU:Put nd (parts ns n) x (bA nd' (κ++[z]) (some x)):=by
   rw[ek]
   refine⟨if_pos rfl,fun π e w1 w2=>?_,fun π w=>?_⟩
   ·unfold bA
    rw[if_neg w2]
    exact D.old π e w1
   ·unfold bA
    rw[if_neg (by have:=w (κ++[z]).length;rw[List.take_length] at this;exact this)]
    exact D.oth π fun j _=>w j
  refine k1 c (bA nd' (κ++[z]) (some x)) fp' _ ⟨⟨dx,sh,top,kO _ _ (s12 _ _ h1) (fun _ w=>by cases w),⟨dxs,ts,kO _ _ (s12 _ _ hs) (fun _ w=>by cases w),kO _ _ (s12 _ _ hw) (fun _ w=>by cases w)⟩,TR⟩,g,fun π e w1 w2 w3=>?_,PU.ib ib (Dm ns n)⟩ PU (((Fr.same s12).trans D.fr).trans (Fr.put dm)) D.sub
  ·unfold bA at w1
   rw[if_neg fun w=>by rw[w,List.length_append] at w3;simp at w3;omega] at w1
   by_cases c2:π=κ
   ·exact⟨z,x,by unfold bA;rw[c2,if_pos rfl]⟩
   ·obtain⟨k,y,q⟩:=D.ful π e w1 w2 w3 (by rw[tkk];exact c2)
    unfold bA
    by_cases c3:π++[k]=κ++[z]
    ·exact⟨k,x,by rw[if_pos c3]⟩
    ·exact⟨k,y,by rw[if_neg c3];exact q⟩
end
end K36

set_option maxHeartbeats 4000000
namespace K36
open PySem L2
theorem xm:∀{kvs:List (Key×V)} {ks:List Int} {k:Int},nK kvs ks->(k∈ks↔(bf kvs (.inl k)).isSome=true)
 | [],[],k,_=>by unfold bf;simp
 | [],_::_,_,h=>by cases h
 | _::_,[],_,h=>by cases h
 | p::r,j::ks,k,h=>by
  have h':=List.cons.inj h
  have hp:p.1=.inl j:=h'.1
  have ih:=xm (k:=k) h'.2
  by_cases e:k=j
  ·subst e
   unfold bf
   rw[List.find?_cons_of_pos (by simpa using hp)]
   simp
  ·have e1:bf (p::r) (.inl k)=bf r (.inl k):=by
    unfold bf;rw[List.find?_cons_of_neg (by rw[hp];simpa using fun z=>e z.symm)]
   rw[e1,<-ih,List.mem_cons]
   simp[e]
def Bk (N:Nat)(nd:Ix->Option Addr)(ex:Ix): Prop:=∀π d,nd π=some d->π≠[]->π.length < N->π≠ex->∃k y,nd (π++[k])=some y
structure Cut (nd:Ix->Option Addr)(ι:Ix)(nd':Ix->Option Addr): Prop where
 sub:∀π x,nd' π=some x->nd π=some x
 oth:∀π,(∀j,π≠ι.take j)->nd' π=nd π
theorem xn (xs:List V)(y:V): atI (xs++[y]) (-1)=some y:=by
 have l:(xs++[y]).length=xs.length+1:=by rw[List.length_append];rfl
 unfold atI ixN
 rw[if_neg (by decide),l,if_pos (by omega)]
 have e:((-1:Int)+((xs.length+1:Nat):Int)).toNat=xs.length:=by omega
 rw[e]
 show (xs++[y])[xs.length]?=_
 rw[List.getElem?_append_right (Nat.le_refl _),Nat.sub_self]
 rfl
structure Way (nd:Ix->Option Addr)(ι:Ix)(ds:List Addr): Prop where
 at':∀(j:Nat) (d:Addr),ds[j]?=some d->nd (ι.take j)=some d
def Cw (a:Adr): Sp:=fun vs H Q _=>∃(p t:Addr) (ns:List Int) (low:Int) (nd:Ix->Option Addr) (fp:List Addr) (cn:Nat) (ι:Ix),vs=[.ref p,.ref t]/\lz a H p ns low nd fp cn/\H t=some (.tup (ι.map V.int))/\ι.length=ns.length ∧
 ∀q ds H',H' q=some (.lst (ds.map V.ref))->Way nd ι ds->1<=ds.length->ds.length<=ns.length->(ds.length < ns.length->nd (ι.take ds.length)=none)->Same H H'->H q=none->Q (.ref q) H'
def Cy:Sp:=fun vs H Q _=>∃(q t:Addr) (N:Nat) (top:Addr) (nd:Ix->Option Addr) (fp:List Addr) (cn:Nat) (ι:Ix) (ds:List Addr),vs=[.ref q,.ref t]/\fY H N top nd fp cn/\H q=some (.lst (ds.map V.ref))/\ds.length=N/\Way nd ι ds/\H t=some (.tup (ι.map V.int))/\ι.length=N/\1<=N/\N<=3/\Bk N nd (ι.take (N-1)) ∧
 ∀nd' H',fY H' N top nd' fp cn->Full N nd'->Cut nd ι nd'->Fr fp fp H H'->Q .non H'
theorem fY.out {H:Hp}{N:Nat}{top:Addr}{nd:Ix->Option Addr}{fp:List Addr}{cn:Nat}(S:fY H N top nd fp cn){π:Ix}{d:Addr}{i:Int}{kvs:List (Key×V)}(hl:π.length < N)(hd:nd π=some d)(hk:H d=some (.dK kvs))(no:∀j,nd (π++[i]++[j])=none):
  fY (upd H d (.dK (dk kvs (.inl i)))) N top (bA nd (π++[i]) none) fp cn:=by
 obtain⟨⟨FA,q1,⟨ks,q2⟩,q3,q4,q5⟩,dm⟩:=S.tb π d hl hd
 rw[hk] at q1
 cases q1
 refine S.at1 (Nat.le_refl _) hl hd aq ⟨_,xk q2⟩ (tR q3) (by rw[ou,if_pos rfl];rfl) (fun j hj=>by rw[ou,if_neg (fun w=>hj (Sum.inl.inj w))];exact q4 j) (Nat.le_trans (oW _ _) q5) no (fun b u e _ nb=>by rw[av nb];exact e) (fun b hb=>hb) (fun e w=>by cases w) fun b hb=>?_
 by_cases c:b=d
 ·rw[c];exact⟨_,aq⟩
 ·obtain⟨kv,e⟩:=S.lv b hb
  exact⟨kv,by rw[av c];exact e⟩
theorem uT.empty {H:Hp}{d:Addr}{ch:Int->Option Addr}{cn:Nat}(T:uT H d ch cn){kvs:List (Key×V)}(h:H d=some (.dK kvs)): (kvs.length=0->∀i,ch i=none)/\(kvs.length≠0->∃i x,ch i=some x):=by
 obtain⟨FA,q1,⟨ks,q2⟩,q3,q4,q5⟩:=T
 rw[h] at q1
 cases q1
 constructor
 ·intro z i
  have e:kvs=[]:=List.eq_nil_of_length_eq_zero z
  have q:=q4 i
  rw[e] at q
  cases c:ch i with
  | none=>rfl
  | some x=>rw[c] at q;cases q
 ·intro z
  cases kvs with
  | nil=>exact absurd rfl z
  | cons p r =>
   cases ks with
   | nil=>cases q2
   | cons k ks =>
    have:=(xm (k:=k) q2).mp List.mem_cons_self
    rw[q4 k] at this
    cases c:ch k with
    | none=>rw[c] at this;cases this
    | some x=>exact⟨k,x,c⟩
section
variable {P:Program}{w:World}{K:W.Frag}{mg:Str->Option Value}{base:Heap}{a:Adr}
theorem FC {dvs:List V} (R:bC K mg "prune" xX ["path", "indexes"] dvs) (T:Txt w K mg a) :
  HasFn P w K mg base 1 "prune" ["path", "indexes"] (Cy) dvs:=by
 refine R.ok zH (fun vs H Q E h=>?_) (fun f cdv A outer s H vs Q E hr h=>?_)
 ·obtain⟨q,t,N,top,nd,fp,cn,ι,ds,rfl,_⟩:=h
  rfl
 obtain⟨q,t,N,top,nd,fp,cn,ι,ds,rfl,S,hq,dl,W,ht,il,N1,N3,fx,k⟩:=h
 refine⟨_,(@ao _ _ _ (dW cE rfl (Dv (by rfl) T.lr (@ae _ _ _ _ _ (aK l7 (bU dN (by rfl) T.pN PySem.boot_len (@ae _ _ _ _ _ (pv 0) aj rfl)) au) (@ae _ _ _ _ _ au (@ae _ _ _ _ _ (nI jx au) aj rfl) rfl) rfl)) (b5 (i:=2) zH.nd rfl (by first | exact Or.inl rfl | exact Or.inr rfl))
   (@ao _ _ _ (bx (aV oP (bU C8 (by rfl) T.pN PySem.boot_len (@ae _ _ _ _ _ (@cY _ _ _ _ _ _ _ cV (pv 0) (pv 2) (fun _ _=>rfl)) aj rfl)) au (bH _)) (@ao _ _ _ (aT (tQ (@cY _ _ _ _ _ _ _ cV (pv 0) (aK l7 (pv 2) au) (fun _ _=>rfl)) (@cY _ _ _ _ _ _ _ jy (pv 1) (aK l7 (pv 2) au) (fun _ _=>rfl)) ⟨rfl,rfl,rfl,rfl⟩))) aS)))),?_⟩
 have lq:(ds.map V.ref).length=N:=by rw[List.length_map];exact dl
 have nq:q∉fp:=fun w=>by obtain⟨kv,e⟩:=S.lv q w;rw[hq] at e;cases e
 have nt:t∉fp:=fun w=>by obtain⟨kv,e⟩:=S.lv t w;rw[ht] at e;cases e
 walk_at "go"
 rw[lq]
 have en:((N:Int)-1-0).toNat=N-1:=by omega
 rw[en]
 refine E4 (fun i σ H'=>∃(nd':Ix->Option Addr) (v:Option V),σ=[some (.ref q),some (.ref t),v]/\fY H' N top nd' fp cn/\Bk N nd' (ι.take (N-1-i))/\Cut nd ι nd'/\(∀(j:Nat) (d:Addr),j<=N-1-i->ds[j]?=some d->nd' (ι.take j)=some d)/\Fr fp fp H H') ⟨nd,_,rfl,S,fx,⟨fun _ _ e=>e,fun _ _=>rfl⟩,fun j d _ e=>W.at' j d e,Fr.refl _ _⟩ ?_ ?_
 ·rintro i σ H1 hi ⟨nd',v,rfl,S1,f1,C1,W1,r1⟩
  obtain⟨L,hL⟩:∃L:Nat,N-1-i=L+1:=⟨N-2-i,by omega⟩
  have eL:(N:Int)-1-(i:Int)=((L+1:Nat):Int):=by omega
  have eL2:N-1-(i+1)=L:=by omega
  rw[eL]
  rw[hL] at f1 W1
  have hd:L+1 < ds.length:=by omega
  have g1:ds[L+1]?=some ds[L+1]:=List.getElem?_eq_getElem hd
  have g0:ds[L]?=some ds[L]:=List.getElem?_eq_getElem (by omega)
  have gx:ι[L]?=some ι[L]:=List.getElem?_eq_getElem (by omega)
  generalize ds[L+1]=d1 at g1
  generalize ds[L]=d0 at g0
  generalize ι[L]=ix at gx
  have n1:=W1 (L+1) d1 (Nat.le_refl _) g1
  have n0:=W1 L d0 (by omega) g0
  have tk:ι.take (L+1)=ι.take L++[ix]:=by rw[List.take_add_one,gx];rfl
  have l0:(ι.take L).length=L:=by rw[List.length_take];omega
  have l1:(ι.take (L+1)).length=L+1:=by rw[List.length_take];omega
  have T1:=(S1.tb _ d1 (by omega) n1).1
  have T0:=(S1.tb _ d0 (by omega) n0).1
  obtain⟨kvs,hk,_⟩:=id T1
  obtain⟨FA,hk0,_,nk0,vk0,_⟩:=id T0
  have emp:=uT.empty T1 hk
  have hq1:=r1.1 _ _ hq nq
  have ht1:=r1.1 _ _ ht nt
  have a1:atI (ds.map V.ref) ((L+1:Nat):Int)=some (.ref d1):=by exact oU (by rw[List.getElem?_map,g1];rfl)
  have a0:atI (ds.map V.ref) (((L+1:Nat):Int)-1)=some (.ref d0):=by
   have:((L+1:Nat):Int)-1=(L:Int):=by omega
   rw[this];exact oU (by rw[List.getElem?_map,g0];rfl)
  have ax:atI (ι.map V.int) (((L+1:Nat):Int)-1)=some (.int ix):=by
   have:((L+1:Nat):Int)-1=(L:Int):=by omega
   rw[this];exact oU (by rw[List.getElem?_map,gx];rfl)
  have kx:V.int ix=kV (.inl ix):=rfl
  have vx:True->bf FA (.inl ix)=some (.ref d1):=fun _=>by rw[vk0,<-tk,n1];rfl
  walk_at "go"
  show ite _ _ _
  by_cases c:kvs.length=0
  ·rw[if_pos (by rw[decide_eq_true_eq,c];rfl)]
   have ch:=emp.1 c
   have isd:IsD H1 d0:=.inl ⟨FA,Rd.of hk0⟩
   walk_at "go"
   refine⟨vx trivial,?_⟩
   have O:=S1.out (i:=ix) (by omega:(ι.take L).length < N) n0 hk0 (fun j=>by rw[<-tk];exact ch j)
   rw[<-tk] at O
   have tn:∀j,j<=L->ι.take j≠ι.take (L+1):=fun j hj z=>by
    have:=congrArg List.length z
    rw[l1,List.length_take] at this
    omega
   refine⟨_,_,rfl,O,fun π e w1 w2 w3 w4=>?_,⟨fun π x w=>?_,fun π w=>?_⟩,fun j d w1 w2=>?_,r1.trans (Fr.put (S1.tb _ d0 (by omega) n0).2)⟩
   ·rw[eL2] at w4
    unfold bA at w1
    by_cases c2:π=ι.take (L+1)
    ·rw[if_pos c2] at w1;cases w1
    ·rw[if_neg c2] at w1
     obtain⟨k,y,w⟩:=f1 π e w1 w2 w3 c2
     refine⟨k,y,?_⟩
     unfold bA
     rw[if_neg fun z=>w4 (by rw[tk] at z;exact(List.append_inj' z rfl).1)]
     exact w
   ·unfold bA at w
    by_cases c2:π=ι.take (L+1)
    ·rw[if_pos c2] at w;cases w
    ·rw[if_neg c2] at w;exact C1.sub π x w
   ·unfold bA
    rw[if_neg (w _)];exact C1.oth π w
   ·unfold bA
    rw[if_neg (tn j (by omega))]
    exact W1 j d (by omega) w2
  ·rw[if_neg (by rw[decide_eq_true_eq];intro z;injection z with z;omega)]
   obtain⟨j,y,hy⟩:=emp.2 c
   refine⟨nd',_,rfl,S1,fun π e w1 w2 w3 w4=>?_,C1,fun j d w1 w2=>W1 j d (by omega) w2,r1⟩
   by_cases c2:π=ι.take (L+1)
   ·exact⟨j,y,by rw[c2];exact hy⟩
   ·exact f1 π e w1 w2 w3 c2
 ·rintro σ H1 ⟨nd',v,rfl,S1,f1,C1,W1,r1⟩
  refine k nd' H1 S1 (fun π d h1 h2 h3=>f1 π d h1 h2 h3 ?_) C1 r1
  rw[Nat.sub_self,List.take_zero];exact h2
theorem sM {dvs:List V} (R:bg K a.aZ "path_to" "Tree.path_to" iX ["self", "indexes"] dvs) (T:Txt w K mg a) :
  aB P w K mg base a.aZ 1 "path_to" ["self", "indexes"] (Cw a) dvs:=by
 refine R.ok gW (fun vs H Q E h=>?_) (fun f cdv A outer s H vs Q E hr h=>?_)
 ·obtain⟨p,t,ns,low,nd,fp,cn,ι,rfl,_⟩:=h
  rfl
 obtain⟨p,t,ns,low,nd,fp,cn,ι,rfl,S,ht,il,k⟩:=h
 refine⟨_,(@ah _ _ _ _ _ (@aN _ _ 2 _ _ _ _ gW.nd rfl (by first | exact Or.inl rfl | exact Or.inr rfl) (@kB _ _ _ _ (@ae _ _ _ _ _ (aJ (pv 0) rfl) aj rfl)) (by rfl) (by first | exact Or.inl rfl | exact Or.inr rfl))
   (@ah _ _ _ _ _ (dW cE rfl (Ar (j7 tN (pv 1) oS (kC (nI jx au)))) (b5 (i:=3) gW.nd rfl (by first | exact Or.inl rfl | exact Or.inr rfl))
   (@ah _ _ _ _ _ (bx (aV (ke hr.u1) (pv 3) (@cY _ _ _ _ _ _ _ cV (pv 2) (nI jx au) (fun _ _=>rfl)) (by with_unfolding_all rfl)) (@ao _ _ _ Ea) aS)
   (@ao _ _ _ (aT (El PySem.F.plainAttrs_list PySem.F.slot_list_append PySem.F.type_list_append ng (pv 2) (@ae _ _ _ _ _ (sZ hr.u1 (@cY _ _ _ _ _ _ _ cV (pv 2) (nI jx au) (fun _ _=>rfl)) (pv 3) (fun _ _=>rfl)) aj rfl))))))
   (@ao _ _ _ (@aI _ _ _ _ (pv 2))))),?_⟩
 have t1:=T.b9;have t2:=T.cH;have t3:=T.dF
 have SA:=S
 obtain⟨⟨dx,sh,top,h1,h2,h3⟩,g,fu,ib⟩:=S
 have gl:=g.len
 obtain⟨κ,z,ek⟩:∃κ z,ι=κ++[z]:=by
  have ne:ι≠[]:=fun w=>by rw[w] at il;simp at il;omega
  exact⟨_,_,(List.dropLast_concat_getLast ne).symm⟩
 have kl:κ.length+1=ns.length:=by rw[ek,List.length_append] at il;exact il
 walk_at "go"
 intro q hq0
 have s1:Same H (upd H q (.lst [.ref top])):=aH hq0
 have hq:upd H q (.lst [.ref top]) q=some (.lst [.ref top]):=aq
 generalize upd H q (.lst [.ref top])=H1 at s1 hq
 have h11:=s1 _ _ h1
 have ht1:=s1 _ _ ht
 rw[ek] at ht1
 walk_at "go"
 refine⟨fun w=>?_,fun y hy=>?_⟩
 ·have z2:=w.2
  rw[List.length_map,List.length_append] at z2
  have e:HT.sIx (κ.length+1) (κ.length+1) (some (-1))=κ.length:=by
   show (if (-1:Int) < 0 then ((-1:Int)+(((κ.length+1:Nat)):Int)).toNat else min (-1:Int).toNat (κ.length+1))=_
   rw[if_pos (by decide)]
   omega
  have z3:HT.sIx (κ.length+1) (κ.length+1) (some (-1))=κ.length+1:=z2
  rw[e] at z3
  omega
 rw[qL]
 have s2:Same H1 (upd H1 y (.tup (κ.map V.int))):=aH hy
 have e2:upd H1 y (.tup (κ.map V.int)) y=some (.tup (κ.map V.int)):=aq
 generalize upd H1 y (.tup (κ.map V.int))=H2 at s2 e2
 have hq2:=s2 _ _ hq
 have nyq:y≠q:=fun w=>by rw[w,hq] at hy;cases hy
 have s02:=s1.trans s2
 walk_at "go"
 refine xC (xs:=κ.map V.int) (fun i σ H'=>∃(ds:List Addr) (v:Option V),σ=[some (.ref p),some (.ref t),some (.ref q),v]/\H' q=some (.lst (ds.map V.ref))/\ds.length=i+1/\Way nd ι ds/\Same H H'/\H' y=some (.tup (κ.map V.int))) ⟨[top],_,rfl,hq2,rfl,⟨fun j d w=>?_⟩,s02,e2⟩ (fun i σ H' _ w=>?_) ?_ ?_
 ·cases j with
  | zero=>cases w;rw[List.take_zero];exact h3.tp
  | succ j=>cases w
 ·obtain⟨ds,v,_,_,_,_,_,w⟩:=w
  exact SqT.of w
 ·rintro i v σ H3 hi ⟨ds,v5,rfl,g1,g2,W,s3,g3⟩
  obtain⟨ix,rfl,hix⟩:=c6 hi
  have il':i < κ.length:=(List.getElem?_eq_some_iff.mp hix).1
  have hx:ι[i]?=some ix:=by rw[ek,List.getElem?_append_left il'];exact hix
  have tk:ι.take (i+1)=ι.take i++[ix]:=by rw[List.take_add_one,hx];rfl
  obtain⟨es,d,ed⟩:∃es d,ds=es++[d]:=by
   have ne:ds≠[]:=fun w=>by rw[w] at g2;cases g2
   exact⟨_,_,(List.dropLast_concat_getLast ne).symm⟩
  have el:es.length=i:=by rw[ed,List.length_append] at g2;exact Nat.succ.inj g2
  have hd:=W.at' i d (by rw[ed,List.getElem?_append_right (by omega),el,Nat.sub_self];rfl)
  have em:ds.map V.ref=es.map V.ref++[.ref d]:=by rw[ed,List.map_append];rfl
  have lst:=xn (es.map V.ref) (.ref d)
  have I3:=h3.same s3
  obtain⟨kvs,q1,q2,q3,q4,q5⟩:=(I3.tb _ d (by rw[List.length_take];omega) hd).1
  rw[em] at g1
  have gg:=lW.k (k:=Sum.inl ix) q1
  rw[q4 ix,<-tk] at gg
  cases e:nd (ι.take (i+1)) with
  | none =>
   rw[e] at gg
   walk_at "go"
   refine k q ds H3 (by rw[em];exact g1) W (by omega) (by omega) (fun _=>by rw[g2];exact e) s3 hq0
  | some x =>
   rw[e] at gg
   walk_at "go"
   refine⟨by rw[<-em,List.length_map,sizeLine_eq];omega,ds++[x],_,rfl,?_,by rw[List.length_append,g2];rfl,⟨fun j y' w=>?_⟩,fun b u w=>?_,?_⟩
   ·rw[aq,List.map_append,em];rfl
   ·by_cases c:j < ds.length
    ·rw[List.getElem?_append_left c] at w;exact W.at' j y' w
    ·have jl:=(List.getElem?_eq_some_iff.mp w).1
     rw[List.length_append] at jl
     have ej:j=i+1:=by simp at jl;omega
     rw[ej,List.getElem?_append_right (by omega),g2,Nat.sub_self] at w
     cases w
     rw[ej];exact e
   ·rw[av (az w hq0)];exact s3 _ _ w
   ·rw[av nyq];exact g3
 ·rintro σ H3 ⟨ds,v5,rfl,g1,g2,W,s3,g3⟩
  rw[List.length_map] at g2
  walk_at "go"
  exact k q ds H3 g1 W (by omega) (by omega) (fun w=>by omega) s3 hq0
end
structure Gone (N:Nat)(nd:Ix->Option Addr)(ι:Ix)(nd':Ix->Option Addr): Prop where
 no:nd' ι=none
 oth:∀π,π.length=N->π≠ι->nd' π=nd π
 sub:∀π x,nd' π=some x->nd π=some x
theorem Cut.gone {nd nd':Ix->Option Addr}{ι:Ix}(C:Cut (bA nd ι none) ι nd'): Gone ι.length nd ι nd':=by
 refine⟨?_,fun π h1 h2=>?_,fun π x h=>?_⟩
 ·cases e:nd' ι with
  | none=>rfl
  | some x=>have:=C.sub ι x e;unfold bA at this;rw[if_pos rfl] at this;cases this
 ·rw[C.oth π fun j z=>by
   have:=congrArg List.length z
   rw[List.length_take] at this
   exact h2 (by rw[z,List.take_of_length_le (by omega)])]
  unfold bA
  rw[if_neg h2]
 ·have:=C.sub π x h
  unfold bA at this
  by_cases c:π=ι
  ·rw[if_pos c] at this;cases this
  ·rw[if_neg c] at this;exact this
theorem lz.kept {a:Adr} {H H':Hp} {p:Addr} {ns:List Int} {low:Int} {nd nd':Ix->Option Addr} {fp fp':List Addr} {cn cn':Nat} {dx sh top:Addr} (h1:H p=some (.ins a.aZ dx [("shape",.ref sh),("top",.ref top)])) (h2:eN a.aw H sh ns low) (S:fY H ns.length top nd fp cn) (g:Good ns low) (S':fY H' ns.length top nd' fp' cn') (fu:Full ns.length nd') (ib:∀π x,nd' π=some x->Fit (ns.take π.length) π) (r:∀b u,H b=some u->b∉fp->H' b=some u):lz a H' p ns low nd' fp' cn':=by
 have nf:∀b u,H b=some u->(∀kv,u≠.dK kv)->b∉fp:=fun b u e h w=>by obtain⟨kv,e'⟩:=S.lv b w;rw[e'] at e;cases e;exact h _ rfl
 obtain⟨dxs,ts,hs,hw⟩:=id h2
 exact⟨⟨dx,sh,top,r _ _ h1 (nf _ _ h1 fun _ w=>by cases w),⟨dxs,ts,r _ _ hs (nf _ _ hs fun _ w=>by cases w),r _ _ hw (nf _ _ hw fun _ w=>by cases w)⟩,S'⟩,g,fu,ib⟩
def Cz (a:Adr): Sp:=fun vs H Q E=>∃(p:Addr) (ns:List Int) (low n:Int) (nd:Ix->Option Addr) (fp:List Addr) (cn:Nat),vs=[.ref p,.int n]/\lz a H p ns low nd fp cn ∧
 (0<=n/\n < pgs ns->∀nd' H',lz a H' p ns low nd' fp cn->Gone ns.length nd (parts ns n) nd'->Fr fp fp H H'->Q (ndV (nd (parts ns n))) H')/\(¬(0<=n/\n < pgs ns)->E (.ref a.aD) none H)
section
variable {P:Program}{w:World}{K:W.Frag}{mg:Str->Option Value}{base:Heap}{a:Adr}
theorem yD {dvs:List V} (R:bg K a.aZ "drop" "Tree.drop" gA ["self", "page"] dvs) (T:Txt w K mg a)
  (bQ:aB P w K mg base a.aZ 4 "indexes" ["self", "page"] (Cu a) [])
  (ja:aB P w K mg base a.aZ 1 "path_to" ["self", "indexes"] (Cw a) [])
  (yE:HasFn P w K mg base 1 "prune" ["path", "indexes"] (Cy) []) :
  aB P w K mg base a.aZ 5 "drop" ["self", "page"] (Cz a) dvs:=by
 refine R.ok iA (fun vs H Q E h=>?_) (fun f cdv A outer s H vs Q E hr h=>?_)
 ·obtain⟨p,ns,low,n,nd,fp,cn,rfl,_⟩:=h
  rfl
 obtain⟨p,ns,low,n,nd,fp,cn,rfl,S,k1,k2⟩:=h
 let R4:{t:TS // PSs (iq (CXE P w) P w K mg base rj "Tree.drop" (ak gA) f cdv A outer s H E) ((aY gA).drop 4) t}:=⟨_,(@ah _ _ _ _ _ (aT (bz yE (hr.mono (by decide)) (by rfl) af (@ae _ _ _ _ _ (pv 3) (@ae _ _ _ _ _ (pv 2) aj rfl) rfl)))
   (@ao _ _ _ (@aI _ _ _ _ (pv 4))))⟩
 refine⟨_,(@ah _ _ _ _ _ (@aN _ _ 2 _ _ _ _ iA.nd rfl (by first | exact Or.inl rfl | exact Or.inr rfl) (bu (pv 0) T.b9 bQ (hr.mono (by decide)) af (@ae _ _ _ _ _ (pv 1) aj rfl)) (by rfl) (by first | exact Or.inl rfl | exact Or.inr rfl))
   (@ah _ _ _ _ _ (@aN _ _ 3 _ _ _ _ iA.nd rfl (by first | exact Or.inl rfl | exact Or.inr rfl) (bu (pv 0) T.b9 ja (hr.mono (by decide)) af (@ae _ _ _ _ _ (pv 2) aj rfl)) (by rfl) (by first | exact Or.inl rfl | exact Or.inr rfl))
   (@ah _ _ _ _ _ (bx (aV wJ (bU dN (by rfl) T.pN PySem.boot_len (@ae _ _ _ _ _ (pv 3) aj rfl)) (bU dN (by rfl) T.pN PySem.boot_len (@ae _ _ _ _ _ (pv 2) aj rfl)) (bH _)) (@ao _ _ _ (@aI _ _ _ _ gG)) aS)
   (@ah _ _ _ _ _ (@aN _ _ 4 _ _ _ _ iA.nd rfl (by first | exact Or.inl rfl | exact Or.inr rfl) (Es (@cY _ _ _ _ _ _ _ cV (pv 3) (nI jx au) (fun _ _=>rfl)) (@cY _ _ _ _ _ _ _ jy (pv 2) (nI jx au) (fun _ _=>rfl)) gG ⟨rfl,rfl,rfl,rfl⟩) (by rfl) (by first | exact Or.inl rfl | exact Or.inr rfl))
   R4.2)))),?_⟩
 have t1:=T.b9;have t2:=T.cH;have t3:=T.dF
 have SA:=S
 obtain⟨⟨dx,sh,top,h1,h2,h3⟩,g,fu,ib⟩:=S
 walk_at "go"
 refine⟨fun c t H1 s1 ht=>?_,fun c=>k2 c⟩
 have pl:=eI ns n
 have SA1:=SA.same s1
 have h11:=s1 _ _ h1
 have gl:=g.len
 generalize parts ns n=ι at ht pl k1
 walk_at "go"
 intro q ds H2 hq W l1 l2 sh2 s2 qn
 have s12:=s1.trans s2
 have I2:=h3.same s12
 have ht2:=s2 _ _ ht
 have em:(ds.map V.ref).length=ds.length:=List.length_map ..
 have em2:(ι.map V.int).length=ns.length:=by rw[List.length_map];exact pl
 walk_at "go"
 show ite _ _ _
 rw[em,em2]
 by_cases c1:ds.length < ns.length
 ·rw[if_pos (by rw[decide_eq_true_eq];exact Int.ofNat_lt.mpr c1)]
  walk_at "go"
  have nn:nd ι=none:=by
   cases e2:nd ι with
   | none=>rfl
   | some y=>obtain⟨d,q⟩:=h3.pre _ rfl e2 ds.length;rw[sh2 c1] at q;cases q
  have:=k1 c nd H2 (SA.same s12) ⟨nn,fun _ _ _=>rfl,fun _ _ w=>w⟩ (Fr.same s12)
  rw[nn] at this
  exact this
 ·rw[if_neg (by rw[decide_eq_true_eq];intro z;exact c1 (Int.ofNat_lt.mp z))]
  have dl:ds.length=ns.length:=by omega
  have tail:∀H3,fY H3 ns.length top (bA nd ι none) fp cn->Fr fp fp H2 H3->R4.1 { nx:=fun x H'=>Q V.non H',rt:=Q } [some (.ref p),some (.int n),some (.ref t),some (.ref q),some (ndV (nd ι))] H3:=by
   intro H3 I3 r3
   have nq:q∉fp:=fun w=>by obtain⟨kv,e⟩:=I2.lv q w;rw[hq] at e;cases e
   have nt:t∉fp:=fun w=>by obtain⟨kv,e⟩:=I2.lv t w;rw[ht2] at e;cases e
   have hq3:=r3.1 _ _ hq nq
   have ht3:=r3.1 _ _ ht2 nt
   have n1:1<=ns.length:=by omega
   have n3:ns.length<=3:=by omega
   have W3:Way (bA nd ι none) ι ds:=⟨fun j d w=>by
    unfold bA
    rw[if_neg fun z=>by
     have:=congrArg List.length z
     have jl:=(List.getElem?_eq_some_iff.mp w).1
     rw[List.length_take] at this
     omega]
    exact W.at' j d w⟩
   have fx:Bk ns.length (bA nd ι none) (ι.take (ns.length-1)):=fun π d w1 w2 w3 w4=>by
    unfold bA at w1
    rw[if_neg fun z=>by rw[z] at w3;omega] at w1
    obtain⟨k,y,w⟩:=fu π d w1 w2 w3
    refine⟨k,y,?_⟩
    unfold bA
    rw[if_neg fun z=>by
     apply w4
     rw[<-pl,<-z,List.length_append]
     exact(List.take_left' rfl).symm]
    exact w
   walk_at "go"
   intro nd' H4 I4 f4 C4 r4
   walk_at "go"
   have gg:=C4.gone
   rw[pl] at gg
   exact k1 c nd' H4 (lz.kept h1 h2 h3 g I4 f4 (fun π x w=>ib π x (gg.sub π x w)) (fun b u w1 w2=>r4.1 _ _ (r3.1 _ _ (s12 _ _ w1) w2) w2)) gg (((Fr.same s12).trans r3).trans r4)
  obtain⟨κ,z,ek⟩:∃κ z,ι=κ++[z]:=by
   have ne:ι≠[]:=fun w=>by rw[w] at pl;simp at pl;omega
   exact⟨_,_,(List.dropLast_concat_getLast ne).symm⟩
  obtain⟨es,d,ed⟩:∃es d,ds=es++[d]:=by
   have ne:ds≠[]:=fun w=>by rw[w] at dl;simp at dl;omega
   exact⟨_,_,(List.dropLast_concat_getLast ne).symm⟩
  have kl:κ.length+1=ns.length:=by rw[ek,List.length_append] at pl;exact pl
  have el:es.length+1=ns.length:=by rw[ed,List.length_append] at dl;exact dl
  have hd:=W.at' es.length d (by rw[ed,List.getElem?_append_right (Nat.le_refl _),Nat.sub_self];rfl)
  have tkk:ι.take es.length=κ:=by rw[ek];exact List.take_left' (by omega)
  rw[tkk] at hd
  have a1:atI (ds.map V.ref) (-1)=some (.ref d):=by rw[ed,List.map_append];exact xn _ _
  have a2:atI (ι.map V.int) (-1)=some (.int z):=by rw[ek];exact zZ κ z
  obtain⟨kvs,hk,_,_,vk,_⟩:=(I2.tb κ d (by omega) hd).1
  have isd:IsD H2 d:=.inl ⟨kvs,Rd.of hk⟩
  have kz:V.int z=kV (.inl z):=rfl
  have vz:=vk z
  rw[<-ek] at vz
  walk_at "go"
  refine⟨fun v hv=>?_,fun hv=>?_⟩
  ·rw[vz] at hv
   cases e:nd ι with
   | none=>rw[e] at hv;cases hv
   | some y =>
    rw[e] at hv
    cases hv
    have O:=I2.out (i:=z) (by omega:κ.length < ns.length) hd hk (fun j=>by
     cases e:nd (κ++[z]++[j]) with
     | none=>rfl
     | some y=>have:=I2.lg _ _ e;rw[List.length_append,List.length_append] at this;simp at this;omega)
    rw[<-ek] at O
    have:=tail _ O (Fr.put (I2.tb κ d (by omega) hd).2)
    rw[e] at this
    exact this
  ·rw[vz] at hv
   cases e:nd ι with
   | some y=>rw[e] at hv;cases hv
   | none =>
    have en:bA nd ι none=nd:=funext fun π=>by
     unfold bA
     split
     ·rename_i w;rw[w,e]
     ·rfl
    have:=tail H2 (by rw[en];exact I2) (Fr.refl _ _)
    rw[e] at this
    exact this
end
section
variable {P:Program}{w:World}{K:W.Frag}{mg:Str->Option Value}{base:Heap}{a:Adr}
end
end K36

set_option maxHeartbeats 4000000
namespace K36
open PySem L2
theorem z_ {H H':Hp}{q:Addr}(s:Same H H')(h:H' q=none): H q=none:=by
 cases e:H q with
 | none=>rfl
 | some u=>rw[s _ _ e] at h;cases h
section
variable {a:Adr}{H:Hp}{p:Addr}{ns:List Int}{low:Int}{nd:Ix->Option Addr}{fp:List Addr}{cn:Nat}{top:Addr}
end
section
variable {P:Program}{w:World}{K:W.Frag}{mg:Str->Option Value}{base:Heap}{a:Adr}
end
end K36

set_option maxHeartbeats 4000000
namespace K36
open PySem L2
inductive Lf where
 | fresh (r:Int) | held (r f:Int) | out (r s:Int) | named (r:Int) (n:Str) (p:Int)
 deriving DecidableEq
def Lf.rights:Lf->Int
 | .fresh r=>r | .held r _=>r | .out r _=>r | .named r _ _=>r
def Lf.rL (q:Int): Lf->Lf
 | .fresh _=>.fresh q | .held _ f=>.held q f | .out _ s=>.out q s | .named _ n p=>.named q n p
def Lf.row:Lf->List V
 | .fresh r=>[.str "fresh",.int r] | .held r f=>[.str "held",.int r,.int f] | .out r s=>[.str "out",.int r,.int s] | .named r n p=>[.str "named",.int r,.str n,.int p]
def Lf.cls (a:Adr): Lf->Addr
 | .fresh _=>a.aF
 | .held _ _=>a.bq
 | .out _ _=>a.bX
 | .named _ _ _=>a.aW
def Lf.fs:Lf->List (Str×V)
 | .fresh r=>[("rights",.int r)] | .held r f=>[("rights",.int r),("frame",.int f)] | .out r s=>[("rights",.int r),("slot",.int s)] | .named r n p=>[("rights",.int r),("name",.str n),("part",.int p)]
def Lf.kind:Lf->Nat
 | .fresh _=>0 | .held _ _=>1 | .out _ _=>2 | .named _ _ _=>3
def ez (a:Adr)(H:Hp)(x:Addr)(f:Lf): Prop:=∃dx,H x=some (.ins (f.cls a) dx f.fs)
theorem ez.same {a:Adr}{H H':Hp}{x:Addr}{f:Lf}(h:ez a H x f)(s:Same H H'): ez a H' x f:=let ⟨dx,e⟩:=h;⟨dx,s _ _ e⟩
def OkR (r:Int): Prop:=0<=r/\r<=3
instance (r:Int): Decidable (OkR r):=by unfold OkR;infer_instance
def uU (a:Adr): Sp:=fun vs H Q E=>∃r:Int,vs=[.int r]/\(OkR r->Q .non H)/\(¬OkR r->E (.ref a.aO) none H)
def Bl:Sp:=fun vs H Q _=>∃(r:Int) (d:Str),vs=[.int r,.str d]/\OkR r/\((d = "read" ∧ Q (.bl (decide (r%2=1))) H)\/(d = "write" ∧ Q (.bl (decide (2<=r))) H))
def fZ (a:Adr)(K:W.Frag): Sp:=fun vs H Q E=>∃(p dx C:Addr) (r:Int),vs=[.ref p,.int r]/\H p=some (.ins C dx [])/\Cls K C/\aQ K C "rights" ∧
 (OkR r->Q .non (upd H p (.ins C dx [("rights",.int r)])))/\(¬OkR r->E (.ref a.aO) none H)
def Aa (K:W.Frag): Sp:=fun vs H Q _=>∃(p dx C:Addr) (fs:List (Str×V)) (r:Int) (d:Str),vs=[.ref p,.str d]/\H p=some (.ins C dx fs)/\Cls K C/\aQ K C "rights" ∧ fs.lookup ("rights" : Str)=some (.int r)/\OkR r/\((d = "read" ∧ Q (.bl (decide (r%2=1))) H)\/(d = "write" ∧ Q (.bl (decide (2<=r))) H))
theorem IH {r:Int}(h:OkR r): (!decide (V.int (Builtin.bitAnd r 1)=V.int 0))=decide (r%2=1):=by
 have:r=0\/r=1\/r=2\/r=3:=by have:=h.1;have:=h.2;omega
 rcases this with rfl | rfl | rfl | rfl<;>decide +kernel
theorem II {r:Int}(h:OkR r): (!decide (V.int (Builtin.bitAnd r 2)=V.int 0))=decide (2<=r):=by
 have:r=0\/r=1\/r=2\/r=3:=by have:=h.1;have:=h.2;omega
 rcases this with rfl | rfl | rfl | rfl<;>decide +kernel
def uV (a:Adr): Sp:=fun vs H Q E=>∃(p dx:Addr) (r f:Int),vs=[.ref p,.int r,.int f]/\H p=some (.ins a.bq dx []) ∧
 (OkR r->Q .non (upd H p (.ins a.bq dx (Lf.held r f).fs)))/\(¬OkR r->E (.ref a.aO) none H)
def xq (a:Adr): Sp:=fun vs H Q E=>∃(p dx:Addr) (r f:Int),vs=[.ref p,.int r,.int f]/\H p=some (.ins a.bX dx []) ∧
 (OkR r->Q .non (upd H p (.ins a.bX dx (Lf.out r f).fs)))/\(¬OkR r->E (.ref a.aO) none H)
def rM (a:Adr): Sp:=fun vs H Q E=>∃(p dx:Addr) (r f:Int) (n:Str),vs=[.ref p,.int r,.str n,.int f]/\H p=some (.ins a.aW dx []) ∧
 (OkR r->Q .non (upd H p (.ins a.aW dx (Lf.named r n f).fs)))/\(¬OkR r->E (.ref a.aO) none H)
def dP (a:Adr)(n:Nat): Sp:=fun vs H Q E=>∃(x:Addr) (g:Lf) (q:Int),vs=[.ref x,.int q]/\ez a H x g/\g.kind=n ∧
 (OkR q->∀y H',ez a H' y (g.rL q)->Same H H'->H y=none->Q (.ref y) H')/\(¬OkR q->∀H',Same H H'->E (.ref a.aO) none H')
section
variable {P:Program}{w:World}{K:W.Frag}{mg:Str->Option Value}{base:Heap}{a:Adr}
theorem sN {dvs:List V} (R:bC K mg "check_rights" iT ["rights"] dvs) (T:Txt w K mg a) :
  HasFn P w K mg base 1 "check_rights" ["rights"] (uU a) dvs:=by
 refine R.ok sf (fun vs H Q E h=>?_) (fun f cdv A outer s H vs Q E hr h=>?_)
 ·obtain⟨r,rfl,_⟩:=h
  rfl
 obtain⟨r,rfl,k1,k2⟩:=h
 refine⟨_,(@ao _ _ _ (bx (gH (eQ gq gq au (pv 0) au)) (@ao _ _ _ (cZ T.k_ rfl (by rfl) T.uD af (@ae _ _ _ _ _ bd aj rfl))) aS)),?_⟩
 walk_at "go"
 refine iw (fun c0=>?_) (fun c0=>?_)
 ·walk_at "go"
  exact qf (fun c1=>⟨aP,k2 fun z=>c1 z.2⟩) fun c1=>k1 ⟨c0,c1⟩
 ·walk_at "go"
  exact k2 fun z=>c0 z.1
theorem G0 {dvs:List V} (R:bC K mg "lets" Ba ["rights", "deed"] dvs) (T:Txt w K mg a) :
  HasFn P w K mg base 1 "lets" ["rights", "deed"] (Bl) dvs:=by
 refine R.ok GR (fun vs H Q E h=>?_) (fun f cdv A outer s H vs Q E hr h=>?_)
 ·obtain⟨r,d,rfl,_⟩:=h
  rfl
 obtain⟨r,d,rfl,hr0,k⟩:=h
 refine⟨_,(@ao _ _ _ (@aI _ _ _ _ (xH G_ (aK xE (pv 0) (Di (by rfl) T.Fu T.cP (pv 1) (fun _ _=>rfl))) au (bH _)))),?_⟩
 obtain⟨t1,n1⟩:=T.jR
 obtain⟨t2,n2⟩:=T.i9
 rcases k with ⟨rfl,q⟩ | ⟨rfl,q⟩
 ·refine⟨_,rfl,_,rfl,_,.int 1,_,rfl,n1,⟨_,rfl⟩,?_⟩
  walk_at "go"
  rw[<-IH hr0] at q
  exact q
 ·refine⟨_,rfl,_,rfl,_,.int 2,_,rfl,n2,⟨_,rfl⟩,?_⟩
  walk_at "go"
  rw[<-II hr0] at q
  exact q
theorem ku {f:Addr} {oc:Value} {od:Option Addr} {dV kV doc pm:Value} {an:Option Addr} {cdv ct:Value} {osl:Array (Option Value)} (lk:K.lookup f=some ⟨oc,od,.func (W.fnOf "__init__" "Leaf.__init__" (bB bw) (aY bw) (ak bw) dV kV doc pm an cdv ct),osl⟩) (hcd:W.codeIn K cdv "Leaf.__init__" = true) (T:Txt w K mg a)
  (cw:HasFn P w K mg base 1 "check_rights" ["rights"] (uU a) []) :
  gv P w K mg base (CXE P w) 2 f (W.fnOf "__init__" "Leaf.__init__" (bB bw) (aY bw) (ak bw) dV kV doc pm an cdv ct) ["self", "rights"] (fZ a K):=by
 refine qZ lk hcd qo (fun vs H Q E h=>?_) (fun A outer s H vs Q E hr h=>?_)
 ·obtain⟨p,dx,C,r,rfl,_⟩:=h
  rfl
 obtain⟨p,dx,C,r,rfl,hp,t1,t2,k1,k2⟩:=h
 refine⟨_,(@ah _ _ _ _ _ (aT (bz cw (hr.mono (by decide)) (by rfl) af (@ae _ _ _ _ _ (pv 1) aj rfl)))
   (@ao _ _ _ (bI (pv 0) (pv 1) rfl))),?_⟩
 walk_at "go"
 refine⟨fun ok=>?_,fun bad=>k2 bad⟩
 walk_at "go"
 exact k1 ok
theorem js {f:Addr} {oc:Value} {od:Option Addr} {dV kV doc pm:Value} {an:Option Addr} {cdv ct:Value} {osl:Array (Option Value)} (lk:K.lookup f=some ⟨oc,od,.func (W.fnOf "may" "Leaf.may" (bB cK) (aY cK) (ak cK) dV kV doc pm an cdv ct),osl⟩) (hcd:W.codeIn K cdv "Leaf.may" = true) (T:Txt w K mg a)
  (lA:HasFn P w K mg base 1 "lets" ["rights", "deed"] (Bl) []) :
  gv P w K mg base (CXE P w) 2 f (W.fnOf "may" "Leaf.may" (bB cK) (aY cK) (ak cK) dV kV doc pm an cdv ct) ["self", "deed"] (Aa K):=by
 refine qZ lk hcd zG (fun vs H Q E h=>?_) (fun A outer s H vs Q E hr h=>?_)
 ·obtain⟨p,dx,C,fs,r,d,rfl,_⟩:=h
  rfl
 obtain⟨p,dx,C,fs,r,d,rfl,hp,t1,t2,hl,h0,k⟩:=h
 refine⟨_,(@ao _ _ _ (@aI _ _ _ _ (bz lA (hr.mono (by decide)) (by rfl) af (@ae _ _ _ _ _ (aJ (pv 0) rfl) (@ae _ _ _ _ _ (pv 1) aj rfl) rfl)))),?_⟩
 walk_at "go"
 rcases k with ⟨rfl,q⟩ | ⟨rfl,q⟩
 ·exact .inl ⟨rfl,q⟩
 ·exact .inr ⟨rfl,q⟩
theorem qN {dvs:List V} (R:eM K a.bq "Held.__init__" gN ["self", "rights", "frame"] dvs) (T:Txt w K mg a)
  (bE:zq P w K mg base a.eY 2 "__init__" ["self", "rights"] (fZ a K) []) :
  cf P w K mg base a.bq 3 ["self", "rights", "frame"] (uV a) dvs:=by
 refine R.ok qq (fun vs H Q E h=>?_) (fun f cdv A outer s H vs Q E hr h=>?_)
 ·obtain⟨p,dx,r,f,rfl,_⟩:=h
  rfl
 obtain⟨p,dx,r,f,rfl,hp,k1,k2⟩:=h
 refine⟨_,(@ah _ _ _ _ _ (aT (ER (by rfl) T.Be bE (hr.mono (by decide)) af (@ae _ _ _ _ _ (pv 0) (@ae _ _ _ _ _ (pv 1) aj rfl) rfl)))
   (@ao _ _ _ (bI (pv 0) (pv 2) rfl))),?_⟩
 have d1:=T.nu;have d2:=T.eh;have d3:=T.iB
 walk_at "go"
 refine⟨fun ok=>?_,fun bad=>k2 bad⟩
 walk_at "go"
 rw[lQ (by decide +kernel),kF,ip]
 exact k1 ok
theorem sO {dvs:List V} (R:eM K a.bX "Out.__init__" iV ["self", "rights", "slot"] dvs) (T:Txt w K mg a)
  (bE:zq P w K mg base a.eY 2 "__init__" ["self", "rights"] (fZ a K) []) :
  cf P w K mg base a.bX 3 ["self", "rights", "slot"] (xq a) dvs:=by
 refine R.ok su (fun vs H Q E h=>?_) (fun f cdv A outer s H vs Q E hr h=>?_)
 ·obtain⟨p,dx,r,f,rfl,_⟩:=h
  rfl
 obtain⟨p,dx,r,f,rfl,hp,k1,k2⟩:=h
 refine⟨_,(@ah _ _ _ _ _ (aT (ER (by rfl) T.Be bE (hr.mono (by decide)) af (@ae _ _ _ _ _ (pv 0) (@ae _ _ _ _ _ (pv 1) aj rfl) rfl)))
   (@ao _ _ _ (bI (pv 0) (pv 2) rfl))),?_⟩
 have d1:=T.qH;have d2:=T.fh;have d3:=T.k9
 walk_at "go"
 refine⟨fun ok=>?_,fun bad=>k2 bad⟩
 walk_at "go"
 rw[lQ (by decide +kernel),kF,ip]
 exact k1 ok
theorem pR {dvs:List V} (R:eM K a.aW "Named.__init__" fO ["self", "rights", "name", "part"] dvs) (T:Txt w K mg a)
  (bE:zq P w K mg base a.eY 2 "__init__" ["self", "rights"] (fZ a K) []) :
  cf P w K mg base a.aW 3 ["self", "rights", "name", "part"] (rM a) dvs:=by
 refine R.ok pf (fun vs H Q E h=>?_) (fun f cdv A outer s H vs Q E hr h=>?_)
 ·obtain⟨p,dx,r,f,n,rfl,_⟩:=h
  rfl
 obtain⟨p,dx,r,f,n,rfl,hp,k1,k2⟩:=h
 refine⟨_,(@ah _ _ _ _ _ (aT (ER (by rfl) T.Be bE (hr.mono (by decide)) af (@ae _ _ _ _ _ (pv 0) (@ae _ _ _ _ _ (pv 1) aj rfl) rfl)))
   (@ah _ _ _ _ _ (bI (pv 0) (pv 2) rfl)
   (@ao _ _ _ (bI (pv 0) (pv 3) rfl)))),?_⟩
 have d1:=T.kh;have d2:=T.dC;have d3:=T.iC;have d4:=T.iD
 walk_at "go"
 refine⟨fun ok=>?_,fun bad=>k2 bad⟩
 walk_at "go"
 rw[lQ (by decide +kernel),kF,lQ (by decide +kernel),lQ (by decide +kernel),kF,ip,ip]
 exact k1 ok
theorem qO {dvs:List V} (R:bg K a.aF "righted" "Fresh.righted" gM ["self", "rights"] dvs) (T:Txt w K mg a)
  (ck:cf P w K mg base a.aF 2 ["self", "rights"] (fZ a K) []) :
  aB P w K mg base a.aF 4 "righted" ["self", "rights"] (dP a 0) dvs:=by
 refine R.ok qp (fun vs H Q E h=>?_) (fun f cdv A outer s H vs Q E hr h=>?_)
 ·obtain⟨x,g,q,rfl,_⟩:=h
  rfl
 obtain⟨x,g,q,rfl,S,hk,k1,k2⟩:=h
 refine⟨_,(@ao _ _ _ (@aI _ _ _ _ (iP ck (hr.mono (by decide)) (by rfl) T.yw af (@ae _ _ _ _ _ (pv 1) aj rfl)))),?_⟩
 have d1:=T.i6;have d2:=T.dB
 cases g with
 | fresh r =>
  obtain⟨dx,hx⟩:=S
  have hx:H x=some (.ins a.aF dx _):=hx
  unfold Lf.fs at hx
  walk_at "go"
  intro y dy hy hdy ny
  have hy':upd H dy (.own y) y=none:=by rw[av ny.symm];exact hy
  have sm:Same H (upd (upd H dy (.own y)) y (.ins a.aF dy [])):=(aH hdy).trans (aH hy')
  have e1:upd (upd H dy (.own y)) y (.ins a.aF dy []) y=some (.ins a.aF dy []):=aq
  walk_at "go"
  refine⟨fun ok=>⟨rfl,?_⟩,fun bad=>k2 bad _ sm⟩
  refine k1 ok y _ ⟨dy,aq⟩ ?_ hy
  rw[ip]
  exact(aH hdy).trans (aH hy')
 | held _ _=>cases hk
 | out _ _=>cases hk
 | named _ _ _=>cases hk
theorem sP {dvs:List V} (R:bg K a.bq "righted" "Held.righted" iU ["self", "rights"] dvs) (T:Txt w K mg a)
  (g7:cf P w K mg base a.bq 3 ["self", "rights", "frame"] (uV a) []) :
  aB P w K mg base a.bq 5 "righted" ["self", "rights"] (dP a 1) dvs:=by
 refine R.ok sr (fun vs H Q E h=>?_) (fun f cdv A outer s H vs Q E hr h=>?_)
 ·obtain⟨x,g,q,rfl,_⟩:=h
  rfl
 obtain⟨x,g,q,rfl,S,hk,k1,k2⟩:=h
 refine⟨_,(@ao _ _ _ (@aI _ _ _ _ (iP g7 (hr.mono (by decide)) (by rfl) T.Bf af (@ae _ _ _ _ _ (pv 1) (@ae _ _ _ _ _ (aJ (pv 0) rfl) aj rfl) rfl)))),?_⟩
 have d1:=T.nu;have d2:=T.eh;have d3:=T.iB
 cases g with
 | fresh _=>cases hk
 | held r f =>
  obtain⟨dx,hx⟩:=S
  have hx:H x=some (.ins a.bq dx _):=hx
  unfold Lf.fs at hx
  walk_at "go"
  intro y dy hy hdy ny
  have hy':upd H dy (.own y) y=none:=by rw[av ny.symm];exact hy
  have sm:Same H (upd (upd H dy (.own y)) y (.ins a.bq dy [])):=(aH hdy).trans (aH hy')
  have e1:upd (upd H dy (.own y)) y (.ins a.bq dy []) y=some (.ins a.bq dy []):=aq
  walk_at "go"
  refine⟨fun ok=>⟨rfl,?_⟩,fun bad=>k2 bad _ sm⟩
  refine k1 ok y _ ⟨dy,aq⟩ ?_ hy
  rw[ip]
  exact(aH hdy).trans (aH hy')
 | out _ _=>cases hk
 | named _ _ _=>cases hk
theorem uW {dvs:List V} (R:bg K a.bX "righted" "Out.righted" jD ["self", "rights"] dvs) (T:Txt w K mg a)
  (je:cf P w K mg base a.bX 3 ["self", "rights", "slot"] (xq a) []) :
  aB P w K mg base a.bX 5 "righted" ["self", "rights"] (dP a 2) dvs:=by
 refine R.ok ug (fun vs H Q E h=>?_) (fun f cdv A outer s H vs Q E hr h=>?_)
 ·obtain⟨x,g,q,rfl,_⟩:=h
  rfl
 obtain⟨x,g,q,rfl,S,hk,k1,k2⟩:=h
 refine⟨_,(@ao _ _ _ (@aI _ _ _ _ (iP je (hr.mono (by decide)) (by rfl) T.Hm af (@ae _ _ _ _ _ (pv 1) (@ae _ _ _ _ _ (aJ (pv 0) rfl) aj rfl) rfl)))),?_⟩
 have d1:=T.qH;have d2:=T.fh;have d3:=T.k9
 cases g with
 | fresh _=>cases hk
 | held _ _=>cases hk
 | out r f =>
  obtain⟨dx,hx⟩:=S
  have hx:H x=some (.ins a.bX dx _):=hx
  unfold Lf.fs at hx
  walk_at "go"
  intro y dy hy hdy ny
  have hy':upd H dy (.own y) y=none:=by rw[av ny.symm];exact hy
  have sm:Same H (upd (upd H dy (.own y)) y (.ins a.bX dy [])):=(aH hdy).trans (aH hy')
  have e1:upd (upd H dy (.own y)) y (.ins a.bX dy []) y=some (.ins a.bX dy []):=aq
  walk_at "go"
  refine⟨fun ok=>⟨rfl,?_⟩,fun bad=>k2 bad _ sm⟩
  refine k1 ok y _ ⟨dy,aq⟩ ?_ hy
  rw[ip]
  exact(aH hdy).trans (aH hy')
 | named _ _ _=>cases hk
theorem qP {dvs:List V} (R:bg K a.aW "righted" "Named.righted" gO ["self", "rights"] dvs) (T:Txt w K mg a)
  (f7:cf P w K mg base a.aW 3 ["self", "rights", "name", "part"] (rM a) []) :
  aB P w K mg base a.aW 5 "righted" ["self", "rights"] (dP a 3) dvs:=by
 refine R.ok qu (fun vs H Q E h=>?_) (fun f cdv A outer s H vs Q E hr h=>?_)
 ·obtain⟨x,g,q,rfl,_⟩:=h
  rfl
 obtain⟨x,g,q,rfl,S,hk,k1,k2⟩:=h
 refine⟨_,(@ao _ _ _ (@aI _ _ _ _ (iP f7 (hr.mono (by decide)) (by rfl) T.yx af (@ae _ _ _ _ _ (pv 1) (@ae _ _ _ _ _ (aJ (pv 0) rfl) (@ae _ _ _ _ _ (aJ (pv 0) rfl) aj rfl) rfl) rfl)))),?_⟩
 have d1:=T.kh;have d2:=T.dC;have d3:=T.iC;have d4:=T.iD
 cases g with
 | fresh _=>cases hk
 | held _ _=>cases hk
 | out _ _=>cases hk
 | named r n f =>
  obtain⟨dx,hx⟩:=S
  have hx:H x=some (.ins a.aW dx _):=hx
  unfold Lf.fs at hx
  walk_at "go"
  intro y dy hy hdy ny
  have hy':upd H dy (.own y) y=none:=by rw[av ny.symm];exact hy
  have sm:Same H (upd (upd H dy (.own y)) y (.ins a.aW dy [])):=(aH hdy).trans (aH hy')
  have e1:upd (upd H dy (.own y)) y (.ins a.aW dy []) y=some (.ins a.aW dy []):=aq
  walk_at "go"
  refine⟨fun ok=>⟨rfl,?_⟩,fun bad=>k2 bad _ sm⟩
  refine k1 ok y _ ⟨dy,aq⟩ ?_ hy
  rw[ip]
  exact(aH hdy).trans (aH hy')
end
theorem cI {H H':Hp}{q:Addr}{o:HO}(hq:H q=none)(hh:upd H q o=H'): Same H H'/\H' q=some o:=by subst hh;exact⟨aH hq,aq⟩
theorem KL {H H':Hp}{y dy:Addr}{o o1 o2:HO}(hy:H y=none)(hdy:H dy=none)(hh:upd (upd (upd H dy o1) y o2) y o=H'): Same H H'/\H' y=some o:=by
 subst hh
 refine⟨fun b u e=>?_,aq⟩
 rw[av (az e hy),av (az e hy),av (az e hdy)];exact e
structure Bx (p:Prop): Prop where
 o:p
def ky (t ad de:V): List (Str×V):=[("task",t),("address",ad),("deed",de)]
def pS (K:W.Frag): Sp:=fun vs H Q _=>∃(e C:Addr) (t ad de:V),vs=[.ref e,t,ad,de]/\H e=some (exM e (.ref C) none)/\XO K C/\iy K C "task" ∧ iy K C "address" ∧ iy K C "deed" ∧
 ∀d H',H d=none->d≠e->H' e=some (exM e (.ref C) (some d))->H' d=some (xdW d (ky t ad de))->(∀b,b≠e->b≠d->H' b=H b)->Q .non H'
def Ac (K:W.Frag): Sp:=fun vs H Q _=>∃(e C:Addr) (pg:V),vs=[.ref e,pg]/\H e=some (exM e (.ref C) none)/\XO K C/\iy K C "page" ∧
 ∀d H',H d=none->d≠e->H' e=some (exM e (.ref C) (some d))->H' d=some (xdW d [("page",pg)])->(∀b,b≠e->b≠d->H' b=H b)->Q .non H'
section
variable {P:Program}{w:World}{K:W.Frag}{mg:Str->Option Value}{base:Heap}{a:Adr}
theorem pT {f:Addr} {oc:Value} {od:Option Addr} {dV kV doc pm:Value} {an:Option Addr} {cdv ct:Value} {osl:Array (Option Value)} (lk:K.lookup f=some ⟨oc,od,.func (W.fnOf "__init__" "Taken.__init__" (bB bn) (aY bn) (ak bn) dV kV doc pm an cdv ct),osl⟩) (hcd:W.codeIn K cdv "Taken.__init__" = true) (T:Txt w K mg a) :
  gv P w K mg base (CXE P w) 1 f (W.fnOf "__init__" "Taken.__init__" (bB bn) (aY bn) (ak bn) dV kV doc pm an cdv ct) ["self", "page"] (Ac K):=by
 refine qZ lk hcd ph (fun vs H Q E h=>?_) (fun A outer s H vs Q E hr h=>?_)
 ·obtain⟨e,C,pg,rfl,_⟩:=h
  rfl
 obtain⟨e,C,pg,rfl,he,xo,x1,k⟩:=h
 refine⟨_,(@ah _ _ _ _ _ (aT (zC T.pL (by rfl) T.rF (@ae _ _ _ _ _ (pv 0) (@ae _ _ _ _ _ (pv 1) aj rfl) rfl)))
   (@ao _ _ _ (zA (pv 0) (pv 1) rfl))),?_⟩
 have zr:[pg].length<=sizeLine:=by rw[sizeLine_eq];show 1<=_;decide
 walk_at "go"
 intro d hd ne
 have hd0:H d=none:=by rw[av ne] at hd;exact hd
 exact k d _ hd0 ne aq (by rw[av ne,aq]) fun b n1 n2=>by rw[av n1,av n2,av n1]
theorem jt {f:Addr} {oc:Value} {od:Option Addr} {dV kV doc pm:Value} {an:Option Addr} {cdv ct:Value} {osl:Array (Option Value)} (lk:K.lookup f=some ⟨oc,od,.func (W.fnOf "__init__" "Fault.__init__" (bB bo) (aY bo) (ak bo) dV kV doc pm an cdv ct),osl⟩) (hcd:W.codeIn K cdv "Fault.__init__" = true) (T:Txt w K mg a) :
  gv P w K mg base (CXE P w) 1 f (W.fnOf "__init__" "Fault.__init__" (bB bo) (aY bo) (ak bo) dV kV doc pm an cdv ct) ["self", "task", "address", "deed"] (pS K):=by
 refine qZ lk hcd pj (fun vs H Q E h=>?_) (fun A outer s H vs Q E hr h=>?_)
 ·obtain⟨e,C,t,ad,de,rfl,_⟩:=h
  rfl
 obtain⟨e,C,t,ad,de,rfl,he,xo,x1,x2,x3,k⟩:=h
 refine⟨_,(@ah _ _ _ _ _ (aT (zC T.pL (by rfl) T.rF (@ae _ _ _ _ _ (pv 0) (@ae _ _ _ _ _ (pv 1) (@ae _ _ _ _ _ (pv 2) (@ae _ _ _ _ _ (pv 3) aj rfl) rfl) rfl) rfl)))
   (@ah _ _ _ _ _ (zA (pv 0) (pv 1) rfl)
   (@ah _ _ _ _ _ (zB (pv 0) (pv 2) rfl)
   (@ao _ _ _ (zB (pv 0) (pv 3) rfl))))),?_⟩
 have zr:[t,ad,de].length<=sizeLine:=by rw[sizeLine_eq];show 3<=_;decide
 walk_at "go"
 intro d hd ne
 have hd0:H d=none:=by rw[av ne] at hd;exact hd
 generalize hh:upd _ e _=H1
 have a1:H1 e=some (exM e (.ref C) (some d)):=by rw[<-hh];exact aq
 have a2:H1 d=some (xdW d [("task",t)]):=by rw[<-hh,av ne,aq]
 have a3:∀b,b≠e->b≠d->H1 b=H b:=fun b n1 n2=>by rw[<-hh,av n1,av n2,av n1]
 clear hh
 have z1:[(("task" : Str),t)].length < 1000:=by show 1 < 1000;decide
 walk_at "go"
 refine k d _ hd0 ne aq ?_ fun b n1 n2=>by rw[av n1,av n2,av n1,av n2];exact a3 b n1 n2
 have e1:gu "address" ad ([]:List (Str×V))=([("address",ad)]:List (Str×V)):=rfl
 rw[av ne,aq,lQ (by decide +kernel),lQ (by decide +kernel),e1,lQ (by decide +kernel)]
 rfl
end
end K36

set_option maxHeartbeats 4000000
namespace K36
open PySem L2
def eA (a:Adr)(H:Hp)(p:Addr)(ns:List Int)(low task:Int)(nd:Ix->Option Addr)(fp:List Addr)(cn:Nat): Prop:=∃dx sh tr dt sh2 top dxs ts,H p=some (.ins a.aG dx [("shape",.ref sh),("task",.int task),("tree",.ref tr)]) ∧
 H tr=some (.ins a.aZ dt [("shape",.ref sh2),("top",.ref top)])/\lz a H tr ns low nd fp cn/\H sh=some (.ins a.aw dxs (ot ts low))/\H ts=some (.tup (ns.map V.int))/\Good ns low/\p∉fp/\p≠tr/\tr∉fp/\sh∉fp/\ts∉fp
theorem eA.same {a:Adr}{H H':Hp}{p:Addr}{ns:List Int}{low task:Int}{nd:Ix->Option Addr}{fp:List Addr}{cn:Nat}(S:eA a H p ns low task nd fp cn)(s:Same H H'): eA a H' p ns low task nd fp cn:=by
 obtain⟨dx,sh,tr,dt,sh2,top,dxs,ts,h1,h2,h3,h4,h4',h5⟩:=S
 exact⟨dx,sh,tr,dt,sh2,top,dxs,ts,s _ _ h1,s _ _ h2,h3.same s,s _ _ h4,s _ _ h4',h5⟩
def mP (a:Adr): Sp:=fun vs H Q E=>∃(p:Addr) (ns:List Int) (low task n:Int) (nd:Ix->Option Addr) (fp:List Addr) (cn:Nat),vs=[.ref p,.int n]/\eA a H p ns low task nd fp cn ∧
 (0<=n/\n < pgs ns->∀H',Same H H'->Q (ndV (nd (parts ns n))) H')/\(¬(0<=n/\n < pgs ns)->E (.ref a.aD) none H)
def yF (a:Adr): Sp:=fun vs H Q E=>∃(p x:Addr) (ns:List Int) (low task n:Int) (nd:Ix->Option Addr) (fp:List Addr) (cn:Nat),vs=[.ref p,.int n,.ref x]/\eA a H p ns low task nd fp cn/\cn < 100000/\(∃u,H x=some u) ∧
 (0<=n/\n < pgs ns->∀nd' fp' H',eA a H' p ns low task nd' fp' (cn+1)->Put nd (parts ns n) x nd'->L2.Fr fp fp' H H'->(∀b∈fp,b∈fp')->Q .non H')/\(¬(0<=n/\n < pgs ns)->E (.ref a.aD) none H)
def Ad (a:Adr): Sp:=fun vs H Q _=>∃(p sh dx:Addr) (ns:List Int) (low task:Int),vs=[.ref p,.ref sh,.int task]/\H p=some (.ins a.aG dx [])/\eN a.aw H sh ns low/\Good ns low ∧
 ∀top H',H top=none->eA a H' p ns low task (fun π=>if π=[] then some top else none) [top] 0->(∀b u,H b=some u->b≠p->H' b=some u)->Q .non H'
section
variable {P:Program}{w:World}{K:W.Frag}{mg:Str->Option Value}{base:Heap}{a:Adr}
theorem wa {dvs:List V} (R:bg K a.aG "leaf" "Space.leaf" kH ["self", "page"] dvs) (T:Txt w K mg a)
  (mQ:aB P w K mg base a.aZ 5 "leaf" ["self", "page"] (Cv a) []) :
  aB P w K mg base a.aG 6 "leaf" ["self", "page"] (mP a) dvs:=by
 refine R.ok vJ (fun vs H Q E h=>?_) (fun f cdv A outer s H vs Q E hr h=>?_)
 ·obtain⟨p,ns,low,task,n,nd,fp,cn,rfl,_⟩:=h
  rfl
 obtain⟨p,ns,low,task,n,nd,fp,cn,rfl,S,k1,k2⟩:=h
 refine⟨_,(@ao _ _ _ (@aI _ _ _ _ (bu (aJ (pv 0) rfl) T.b9 mQ (hr.mono (by decide)) af (@ae _ _ _ _ _ (pv 1) aj rfl)))),?_⟩
 have t1:=T.bh;have t2:=T.b_;have t3:=T.b9
 obtain⟨dx,sh,tr,dt,sh2,top,dxs,ts,h1,h2,h3,h4,h4',h5,h6,h7,h8,h9,h10⟩:=S
 walk_at "go"
 exact k2
theorem yG {dvs:List V} (R:bg K a.aG "put" "Space.put" ml ["self", "page", "leaf"] dvs) (T:Txt w K mg a)
  (oy:aB P w K mg base a.aZ 5 "put" ["self", "page", "leaf"] (Fz a) []) :
  aB P w K mg base a.aG 6 "put" ["self", "page", "leaf"] (yF a) dvs:=by
 refine R.ok x9 (fun vs H Q E h=>?_) (fun f cdv A outer s H vs Q E hr h=>?_)
 ·obtain⟨p,x,ns,low,task,n,nd,fp,cn,rfl,_⟩:=h
  rfl
 obtain⟨p,x,ns,low,task,n,nd,fp,cn,rfl,S,lc,hx,k1,k2⟩:=h
 refine⟨_,(@ao _ _ _ (aT (bu (aJ (pv 0) rfl) T.b9 oy (hr.mono (by decide)) af (@ae _ _ _ _ _ (pv 1) (@ae _ _ _ _ _ (pv 2) aj rfl) rfl)))),?_⟩
 have t1:=T.bh;have t2:=T.b_;have t3:=T.b9
 obtain⟨dx,sh,tr,dt,sh2,top,dxs,ts,h1,h2,h3,h4,h4',h5,h6,h7,h8,h9,h10⟩:=S
 walk_at "go"
 refine⟨fun hn nd' fp' H' S' pt fr sub=>?_,k2⟩
 have e2:=L2.Fr.out fr h2 h8
 have e1:=L2.Fr.out fr h1 h6
 have e3:=L2.Fr.out fr h4 h9
 have e4:=L2.Fr.out fr h4' h10
 exact k1 hn nd' fp' H' ⟨dx,sh,tr,dt,sh2,top,dxs,ts,e1.1,e2.1,S',e3.1,e4.1,h5,e1.2,h7,e2.2,e3.2,e4.2⟩ pt fr sub
theorem pU {dvs:List V} (R:eM K a.aG "Space.__init__" fP ["self", "shape", "task"] dvs) (T:Txt w K mg a)
  (g9:cf P w K mg base a.aZ 1 ["self", "shape"] (Ct a) []) :
  cf P w K mg base a.aG 3 ["self", "shape", "task"] (Ad a) dvs:=by
 refine R.ok pq (fun vs H Q E h=>?_) (fun f cdv A outer s H vs Q E hr h=>?_)
 ·obtain⟨p,sh,dx,ns,low,task,rfl,_⟩:=h
  rfl
 obtain⟨p,sh,dx,ns,low,task,rfl,hp,S,g,k⟩:=h
 refine⟨_,(@ah _ _ _ _ _ (bI (pv 0) (pv 1) rfl)
   (@ah _ _ _ _ _ (bI (pv 0) (pv 2) rfl)
   (@ao _ _ _ (bI (pv 0) (iP g9 (hr.mono (by decide)) (by rfl) T.IE af (@ae _ _ _ _ _ (pv 1) aj rfl)) rfl)))),?_⟩
 have t1:=T.bh;have t2:=T.b_;have t3:=T.cj;have t4:=T.fj;have t5:=T.b9
 walk_at "go"
 rw[kF,lQ (by decide +kernel),kF]
 generalize hh:upd _ p (.ins a.aG dx [("shape",.ref sh),("task",.int task)])=H1
 have hp1:H1 p=some (.ins a.aG dx [("shape",.ref sh),("task",.int task)]):=by rw[<-hh];exact aq
 have kp1:∀b,b≠p->H1 b=H b:=fun b nb=>by rw[<-hh,av nb,av nb]
 clear hh
 obtain⟨dxs,ts,hs,hw⟩:=id S
 have nps:sh≠p:=fun z=>by
  rw[<-z,hs] at hp
  injection hp with hp
  injection hp with _ _ hf
  have:=fq ts low
  rw[hf] at this
  cases this
 have npt:ts≠p:=(tF hp hw (by intro z;cases z)).symm
 have S1:eN a.aw H1 sh ns low:=⟨dxs,ts,by rw[kp1 _ nps];exact hs,by rw[kp1 _ npt];exact hw⟩
 refine fun y dy hy hdy nyd=>⟨y,sh,dy,ns,low,rfl,aq,?_,g,fun top H' ht TR keep=>⟨rfl,?_⟩⟩
 ·exact S1.same fun b u e=>by rw[av (az e hy),av (az e hdy)];exact e
 ·have npy:p≠y:=az hp1 hy
  have kp2:∀b u,H1 b=some u->H' b=some u:=fun b u e=>keep b u (by rw[av (az e hy),av (az e hdy)];exact e) (az e hy)
  have hp2:=kp2 _ _ hp1
  have z2:([("shape",.ref sh),("task",.int task)]:List (Str×V)).length < 1000:=by show 2 < 1000;decide
  walk_at "go"
  rw[lQ (by decide +kernel),lQ (by decide +kernel),kF]
  obtain⟨dt,sh2,top2,q1,_,_⟩:=id TR.ob
  have ty:top≠y:=fun z=>by rw[z,aq] at ht;cases ht
  have t1n:H1 top=none:=by
   cases e:H1 top with
   | none=>rfl
   | some u =>
    have nd':top≠dy:=az e hdy
    rw[av ty,av nd',e] at ht;cases ht
  have tp:top≠p:=fun z=>by rw[z,hp1] at t1n;cases t1n
  have nin:∀b u,H1 b=some u->b∉[top]:=fun b u e z=>by rw[List.mem_singleton.mp z,t1n] at e;cases e
  have hs1:H1 sh=some (.ins a.aw dxs (ot ts low)):=by rw[kp1 _ nps];exact hs
  have hw1:H1 ts=some (.tup (ns.map V.int)):=by rw[kp1 _ npt];exact hw
  refine k top _ (by rw[<-kp1 _ tp];exact t1n) ⟨dx,sh,y,dt,sh2,top2,dxs,ts,aq,by rw[av (Ne.symm npy)];exact q1,?_,by rw[av nps];exact kp2 _ _ hs1,by rw[av npt];exact kp2 _ _ hw1,g,nin _ _ hp1,npy,fun z=>ty (List.mem_singleton.mp z).symm,nin _ _ hs1,nin _ _ hw1⟩ fun b u e nb=>by rw[av nb];exact kp2 _ _ (by rw[kp1 _ nb];exact e)
  obtain⟨⟨dt',sh',top',r1,⟨dz,tz,r2,r3⟩,r4⟩,g',fu,ib⟩:=TR
  have nz:sh'≠p:=fun z=>by
   rw[z,hp2] at r2
   injection r2 with r2
   injection r2 with _ _ hf
   have:=fq tz low
   rw[<-hf] at this
   have b1:(("low" : Str) == "shape")=false:=by decide +kernel
   have b2:(("low" : Str) == "task")=false:=by decide +kernel
   simp only [List.lookup,b1,b2] at this
   cases this
  have nt:tz≠p:=(tF hp2 r3 (by intro z;cases z)).symm
  exact⟨⟨dt',sh',top',by rw[av (Ne.symm npy)];exact r1,⟨dz,tz,by rw[av nz];exact r2,by rw[av nt];exact r3⟩,r4.keep fun b u e hb=>by rw[List.mem_singleton.mp hb] at e ⊢;rw[av tp];exact e⟩,g',fu,ib⟩
end
end K36

set_option maxHeartbeats 4000000
namespace K36
open PySem L2
theorem dJ {H H2:Hp}{e d:Addr}{o:HO}(he:H e=none)(hd:upd H e o d=none)(k:∀b,b≠e->b≠d->H2 b=upd H e o b): Same H (del H2 e):=fun b u q=>by
 have n1:b≠e:=az q he
 have n2:b≠d:=fun z=>by rw[<-z,av n1,q] at hd;cases hd
 rw[c9 n1,k b n1 n2,av n1];exact q
theorem gD {H H':Hp}{q:Addr}(s:Same H H')(h:H' q=none): H q=none:=by
 cases e:H q with
 | none=>rfl
 | some u=>rw[s _ _ e] at h;cases h
def Ae (r:Int)(dd:Str): Bool:=if dd = "read" then decide (r%2=1) else decide (2<=r)
theorem nV {r:Int}{b:Bool}(h:decide (r%2=1)=b): Ae r "read" = b:=by unfold Ae;rw[if_pos rfl];exact h
theorem rN {r:Int}{b:Bool}(h:decide (2<=r)=b): Ae r "write" = b:=by unfold Ae;rw[if_neg (by decide +kernel)];exact h
def FD (a:Adr): Sp:=fun vs H Q E=>∃(p:Addr) (ns:List Int) (low task n:Int) (dd:Str) (nd:Ix->Option Addr) (fp:List Addr) (cn:Nat),vs=[.ref p,.int n,.str dd]/\eA a H p ns low task nd fp cn/\(dd = "read" ∨ dd = "write") ∧
 (∀x,nd (parts ns (n / plc low))=some x->∃g:Lf,ez a H x g/\OkR g.rights) ∧
 (¬(0<=n/\n < pgs ns*plc low)->E (.ref a.aD) none H) ∧
 (0<=n/\n < pgs ns*plc low->nd (parts ns (n / plc low))=none->∀d H',H' d=some (xdW d (ky (.int task) (.int n) (.str dd)))->Same H H'->E (.ref a.aA) (some d) H') ∧
 (0<=n/\n < pgs ns*plc low->∀x g,nd (parts ns (n / plc low))=some x->ez a H x g->(Ae g.rights dd=false->∀d H',H' d=some (xdW d (ky (.int task) (.int n) (.str dd)))->Same H H'->E (.ref a.aL) (some d) H') ∧
  (Ae g.rights dd=true->∀t H',H' t=some (.tup [.int (n / plc low),.int (n%plc low),.ref x])->Same H H'->H t=none->Q (.ref t) H'))
section
variable {P:Program}{w:World}{K:W.Frag}{mg:Str->Option Value}{base:Heap}{a:Adr}
theorem wc {dvs:List V} (R:bg K a.aG "seek" "Space.seek" kJ ["self", "address", "deed"] dvs) (T:Txt w K mg a)
  (cC:aB P w K mg base a.aw 3 "page_of" ["self", "address"] (uQ a) [])
  (bM:aB P w K mg base a.aG 6 "leaf" ["self", "page"] (mP a) [])
  (bS:xh P w K mg base a.aA 1 ["self", "task", "address", "deed"] (pS K) [])
  (rO:aB P w K mg base a.aF 2 "may" ["self", "deed"] (Aa K) [])
  (uX:aB P w K mg base a.bq 2 "may" ["self", "deed"] (Aa K) [])
  (xr:aB P w K mg base a.bX 2 "may" ["self", "deed"] (Aa K) [])
  (rP:aB P w K mg base a.aW 2 "may" ["self", "deed"] (Aa K) [])
  (fA:xh P w K mg base a.aL 1 ["self", "task", "address", "deed"] (pS K) [])
  (cq:aB P w K mg base a.aw 3 "place_of" ["self", "address"] (qI a) []) :
  aB P w K mg base a.aG 7 "seek" ["self", "address", "deed"] (FD a) dvs:=by
 refine R.ok jM (fun vs H Q E h=>?_) (fun f cdv A outer s H vs Q E hr h=>?_)
 ·obtain⟨p,ns,low,task,n,dd,nd,fp,cn,rfl,_⟩:=h
  rfl
 obtain⟨p,ns,low,task,n,dd,nd,fp,cn,rfl,S,hdd,lv,k0,k1,k2⟩:=h
 refine⟨_,(@ah _ _ _ _ _ (@aN _ _ 3 _ _ _ _ jM.nd rfl (by first | exact Or.inl rfl | exact Or.inr rfl) (bu (aJ (pv 0) rfl) T.aE cC (hr.mono (by decide)) af (@ae _ _ _ _ _ (pv 1) aj rfl)) (by rfl) (by first | exact Or.inl rfl | exact Or.inr rfl))
   (@ah _ _ _ _ _ (@aN _ _ 4 _ _ _ _ jM.nd rfl (by first | exact Or.inl rfl | exact Or.inr rfl) (bu (pv 0) T.bh bM (hr.mono (by decide)) af (@ae _ _ _ _ _ (pv 3) aj rfl)) (by rfl) (by first | exact Or.inl rfl | exact Or.inr rfl))
   (@ah _ _ _ _ _ (bx (aV xF (pv 4) gG (bH _)) (@ao _ _ _ (ni bS (hr.mono (by decide)) rfl (by rfl) T.la af (@ae _ _ _ _ _ (aJ (pv 0) rfl) (@ae _ _ _ _ _ (pv 1) (@ae _ _ _ _ _ (pv 2) aj rfl) rfl) rfl))) aS)
   (@ah _ _ _ _ _ (bx (gH (kA (EV (k:=2) (m := "may") (dvs:=[]) (pv 4) (hr.mono (by decide)) af (@ae _ _ _ _ _ (pv 2) aj rfl) (by rfl) (by rfl) (by rfl)))) (@ao _ _ _ (ni fA (hr.mono (by decide)) rfl (by rfl) T.zU af (@ae _ _ _ _ _ (aJ (pv 0) rfl) (@ae _ _ _ _ _ (pv 1) (@ae _ _ _ _ _ (pv 2) aj rfl) rfl) rfl))) aS)
   (@ao _ _ _ (@aI _ _ _ _ (@b8 _ _ _ _ _ (@ae _ _ _ _ _ (pv 3) (@ae _ _ _ _ _ (bu (aJ (pv 0) rfl) T.aE cq (hr.mono (by decide)) af (@ae _ _ _ _ _ (pv 1) aj rfl)) (@ae _ _ _ _ _ (pv 4) aj rfl) rfl) rfl)))))))),?_⟩
 have t1:=T.bh;have t2:=T.b_;have t3:=T.cj;have t4:=T.fj;have t5:=T.aE
 have SA:=S
 obtain⟨dx,sh,tr,dt,sh2,top,dxs,ts,h1,h2,h3,h4,h4',h5,h6,h7,h8,h9,h10⟩:=S
 have SH:eN a.aw H sh ns low:=⟨dxs,ts,h4,h4'⟩
 have pp:0 < plc low:=by unfold plc;exact two_pos _
 walk_at "go"
 refine⟨fun hin=>?_,k0⟩
 have pin:0<=n / plc low/\n / plc low < pgs ns:=⟨Int.ediv_nonneg hin.1 (Int.le_of_lt pp),Int.ediv_lt_of_lt_mul pp hin.2⟩
 walk_at "go"
 refine⟨fun _ H1 s1=>?_,fun z=>absurd pin z⟩
 have SA1:=SA.same s1
 have h1':=s1 _ _ h1
 cases hx:nd (parts ns (n / plc low)) with
 | none =>
  have zr:[V.int task,V.int n,V.str dd].length<=sizeLine:=by rw[sizeLine_eq];show 3<=_;decide
  have xo:=XO.of T.bN;have x1:=T.km;have x2:=T.ie;have x3:=T.kj
  have nv:ndV none=.non:=rfl
  walk_at "go"
  refine fun e he=>⟨e,a.aA,.int task,.int n,.str dd,rfl,aq,xo,x1,x2,x3,fun d H2 hd ne q1 q2 q3=>⟨rfl,some d,q1,?_⟩⟩
  exact k1 hin hx d (del H2 e) (by rw[c9 ne];exact q2) (s1.trans (dJ he hd q3))
 | some x =>
  obtain⟨g,lf,ok⟩:=lv x hx
  have k2':=k2 hin x g hx lf
  clear k0 k1 k2
  have zr:[V.int task,V.int n,V.str dd].length<=sizeLine:=by rw[sizeLine_eq];show 3<=_;decide
  have xo:=XO.of T.cQ;have x1:=T.uG;have x2:=T.pJ;have x3:=T.uF
  have SH1:eN a.aw H1 sh ns low:=SH.same s1
  have h4b:=s1 _ _ h4
  cases g with
  | fresh r =>
   obtain⟨dy,ey⟩:=lf.same s1
   have c1:=T.i6;have c2:=T.dB
   have lk1:(Lf.fresh r).fs.lookup ("may" : Str)=none:=by walk_at "lk"
   have lk2:(Lf.fresh r).fs.lookup ("rights" : Str)=some (.int r):=by walk_at "lk"
   have ok:OkR r:=ok
   walk_at "go"
   rcases hdd with rfl | rfl
   ·refine .inl ⟨rfl,?_⟩
    cases hb:decide (r%2=1) with
    | false =>
     walk_at "go"
     refine fun e he=>⟨e,a.aL,.int task,.int n,.str _,rfl,aq,xo,x1,x2,x3,fun d H2 hd ne q1 q2 q3=>⟨rfl,some d,q1,?_⟩⟩
     exact k2'.1 (nV hb) d (del H2 e) (by rw[c9 ne];exact q2) (s1.trans (dJ he hd q3))
    | true =>
     walk_at "go"
     refine⟨fun _=>?_,fun z=>absurd hin z⟩
     walk_at "go"
     intro tt htt
     generalize hh:upd _ tt _=H2
     obtain⟨s2,e2⟩:=cI htt hh
     clear hh
     exact k2'.2 (nV hb) tt H2 e2 (s1.trans s2) (gD s1 htt)
   ·refine .inr ⟨rfl,?_⟩
    cases hb:decide (2<=r) with
    | false =>
     walk_at "go"
     refine fun e he=>⟨e,a.aL,.int task,.int n,.str _,rfl,aq,xo,x1,x2,x3,fun d H2 hd ne q1 q2 q3=>⟨rfl,some d,q1,?_⟩⟩
     exact k2'.1 (rN hb) d (del H2 e) (by rw[c9 ne];exact q2) (s1.trans (dJ he hd q3))
    | true =>
     walk_at "go"
     refine⟨fun _=>?_,fun z=>absurd hin z⟩
     walk_at "go"
     intro tt htt
     generalize hh:upd _ tt _=H2
     obtain⟨s2,e2⟩:=cI htt hh
     clear hh
     exact k2'.2 (rN hb) tt H2 e2 (s1.trans s2) (gD s1 htt)
  | held r f0 =>
   obtain⟨dy,ey⟩:=lf.same s1
   have c1:=T.nu;have c2:=T.eh
   have lk1:(Lf.held r f0).fs.lookup ("may" : Str)=none:=by walk_at "lk"
   have lk2:(Lf.held r f0).fs.lookup ("rights" : Str)=some (.int r):=by walk_at "lk"
   have ok:OkR r:=ok
   walk_at "go"
   rcases hdd with rfl | rfl
   ·refine .inl ⟨rfl,?_⟩
    cases hb:decide (r%2=1) with
    | false =>
     walk_at "go"
     refine fun e he=>⟨e,a.aL,.int task,.int n,.str _,rfl,aq,xo,x1,x2,x3,fun d H2 hd ne q1 q2 q3=>⟨rfl,some d,q1,?_⟩⟩
     exact k2'.1 (nV hb) d (del H2 e) (by rw[c9 ne];exact q2) (s1.trans (dJ he hd q3))
    | true =>
     walk_at "go"
     refine⟨fun _=>?_,fun z=>absurd hin z⟩
     walk_at "go"
     intro tt htt
     generalize hh:upd _ tt _=H2
     obtain⟨s2,e2⟩:=cI htt hh
     clear hh
     exact k2'.2 (nV hb) tt H2 e2 (s1.trans s2) (gD s1 htt)
   ·refine .inr ⟨rfl,?_⟩
    cases hb:decide (2<=r) with
    | false =>
     walk_at "go"
     refine fun e he=>⟨e,a.aL,.int task,.int n,.str _,rfl,aq,xo,x1,x2,x3,fun d H2 hd ne q1 q2 q3=>⟨rfl,some d,q1,?_⟩⟩
     exact k2'.1 (rN hb) d (del H2 e) (by rw[c9 ne];exact q2) (s1.trans (dJ he hd q3))
    | true =>
     walk_at "go"
     refine⟨fun _=>?_,fun z=>absurd hin z⟩
     walk_at "go"
     intro tt htt
     generalize hh:upd _ tt _=H2
     obtain⟨s2,e2⟩:=cI htt hh
     clear hh
     exact k2'.2 (rN hb) tt H2 e2 (s1.trans s2) (gD s1 htt)
  | out r s0 =>
   obtain⟨dy,ey⟩:=lf.same s1
   have c1:=T.qH;have c2:=T.fh
   have lk1:(Lf.out r s0).fs.lookup ("may" : Str)=none:=by walk_at "lk"
   have lk2:(Lf.out r s0).fs.lookup ("rights" : Str)=some (.int r):=by walk_at "lk"
   have ok:OkR r:=ok
   walk_at "go"
   rcases hdd with rfl | rfl
   ·refine .inl ⟨rfl,?_⟩
    cases hb:decide (r%2=1) with
    | false =>
     walk_at "go"
     refine fun e he=>⟨e,a.aL,.int task,.int n,.str _,rfl,aq,xo,x1,x2,x3,fun d H2 hd ne q1 q2 q3=>⟨rfl,some d,q1,?_⟩⟩
     exact k2'.1 (nV hb) d (del H2 e) (by rw[c9 ne];exact q2) (s1.trans (dJ he hd q3))
    | true =>
     walk_at "go"
     refine⟨fun _=>?_,fun z=>absurd hin z⟩
     walk_at "go"
     intro tt htt
     generalize hh:upd _ tt _=H2
     obtain⟨s2,e2⟩:=cI htt hh
     clear hh
     exact k2'.2 (nV hb) tt H2 e2 (s1.trans s2) (gD s1 htt)
   ·refine .inr ⟨rfl,?_⟩
    cases hb:decide (2<=r) with
    | false =>
     walk_at "go"
     refine fun e he=>⟨e,a.aL,.int task,.int n,.str _,rfl,aq,xo,x1,x2,x3,fun d H2 hd ne q1 q2 q3=>⟨rfl,some d,q1,?_⟩⟩
     exact k2'.1 (rN hb) d (del H2 e) (by rw[c9 ne];exact q2) (s1.trans (dJ he hd q3))
    | true =>
     walk_at "go"
     refine⟨fun _=>?_,fun z=>absurd hin z⟩
     walk_at "go"
     intro tt htt
     generalize hh:upd _ tt _=H2
     obtain⟨s2,e2⟩:=cI htt hh
     clear hh
     exact k2'.2 (rN hb) tt H2 e2 (s1.trans s2) (gD s1 htt)
  | named r n0 p0 =>
   obtain⟨dy,ey⟩:=lf.same s1
   have c1:=T.kh;have c2:=T.dC
   have lk1:(Lf.named r n0 p0).fs.lookup ("may" : Str)=none:=by walk_at "lk"
   have lk2:(Lf.named r n0 p0).fs.lookup ("rights" : Str)=some (.int r):=by walk_at "lk"
   have ok:OkR r:=ok
   walk_at "go"
   rcases hdd with rfl | rfl
   ·refine .inl ⟨rfl,?_⟩
    cases hb:decide (r%2=1) with
    | false =>
     walk_at "go"
     refine fun e he=>⟨e,a.aL,.int task,.int n,.str _,rfl,aq,xo,x1,x2,x3,fun d H2 hd ne q1 q2 q3=>⟨rfl,some d,q1,?_⟩⟩
     exact k2'.1 (nV hb) d (del H2 e) (by rw[c9 ne];exact q2) (s1.trans (dJ he hd q3))
    | true =>
     walk_at "go"
     refine⟨fun _=>?_,fun z=>absurd hin z⟩
     walk_at "go"
     intro tt htt
     generalize hh:upd _ tt _=H2
     obtain⟨s2,e2⟩:=cI htt hh
     clear hh
     exact k2'.2 (nV hb) tt H2 e2 (s1.trans s2) (gD s1 htt)
   ·refine .inr ⟨rfl,?_⟩
    cases hb:decide (2<=r) with
    | false =>
     walk_at "go"
     refine fun e he=>⟨e,a.aL,.int task,.int n,.str _,rfl,aq,xo,x1,x2,x3,fun d H2 hd ne q1 q2 q3=>⟨rfl,some d,q1,?_⟩⟩
     exact k2'.1 (rN hb) d (del H2 e) (by rw[c9 ne];exact q2) (s1.trans (dJ he hd q3))
    | true =>
     walk_at "go"
     refine⟨fun _=>?_,fun z=>absurd hin z⟩
     walk_at "go"
     intro tt htt
     generalize hh:upd _ tt _=H2
     obtain⟨s2,e2⟩:=cI htt hh
     clear hh
     exact k2'.2 (rN hb) tt H2 e2 (s1.trans s2) (gD s1 htt)
end
end K36

set_option maxHeartbeats 4000000
namespace K36
open PySem L2
def bp (H H':Hp): Prop:=∀b u,H b=some u->(∀kv:List (Key×V),u≠.dK kv)->H' b=some u
theorem bp.refl (H:Hp): bp H H:=fun _ _ e _=>e
theorem bp.same {H H':Hp}(s:Same H H'): bp H H':=fun b u e _=>s b u e
theorem bp.trans {H H' H'':Hp}(k:bp H H')(k':bp H' H''): bp H H'':=fun b u e h=>k' b u (k b u e h) h
theorem bp.lst {H H':Hp}(k:bp H H'){b:Addr}{xs:List V}(e:H b=some (.lst xs)): H' b=some (.lst xs):=k b _ e fun _ w=>by cases w
theorem bp.tup {H H':Hp}(k:bp H H'){b:Addr}{xs:List V}(e:H b=some (.tup xs)): H' b=some (.tup xs):=k b _ e fun _ w=>by cases w
theorem bp.ins {H H':Hp}(k:bp H H'){b C dx:Addr}{fs:List (Str×V)}(e:H b=some (.ins C dx fs)): H' b=some (.ins C dx fs):=k b _ e fun _ w=>by cases w
theorem bp.lf {a:Adr}{H H':Hp}(k:bp H H'){x:Addr}{g:Lf}(e:ez a H x g): ez a H' x g:=let ⟨dx,h⟩:=e;⟨dx,k.ins h⟩
theorem bp.sh {C:Addr}{H H':Hp}(k:bp H H'){x:Addr}{ns:List Int}{low:Int}(e:eN C H x ns low): eN C H' x ns low:=let ⟨dx,t,h1,h2⟩:=e;⟨dx,t,k.ins h1,k.tup h2⟩
theorem lz.mR {a:Adr}{H H':Hp}{p:Addr}{ns:List Int}{low:Int}{nd:Ix->Option Addr}{fp fp':List Addr}{cn:Nat}(S:lz a H p ns low nd fp cn)(r:Fr fp fp' H H'): bp H H':=fun b u e h=>by
 obtain⟨⟨dx,sh,top,h1,h2,h3⟩,g,fu,ib⟩:=S
 exact r.1 b u e fun w=>by obtain⟨kv,e'⟩:=h3.lv b w;rw[e'] at e;cases e;exact h _ rfl
theorem Good.nn {ns:List Int}{low:Int}(g:Good ns low): ∀x∈ns,0<=x:=fun x hx=>by have:=(g.all x hx).1;omega
theorem Af (ns:List Int): span ns=pgs ns:=rfl
theorem Good.apart {ns:List Int}{low:Int}(g:Good ns low){m n:Int}(m0:0<=m)(m1:m < pgs ns)(n0:0<=n)(n1:n < pgs ns)(h:m≠n): parts ns m≠parts ns n:=fun z=>h ((Dp g.nn m0 (by rw[Af];exact m1) n0 (by rw[Af];exact n1)).mp z)
theorem Put.page {ns:List Int}{low:Int}{nd nd':Ix->Option Addr}{x:Addr}{n m:Int}(g:Good ns low)(P:Put nd (parts ns n) x nd')(n0:0<=n)(n1:n < pgs ns)(m0:0<=m)(m1:m < pgs ns): nd' (parts ns m)=if m=n then some x else nd (parts ns m):=by
 by_cases c:m=n
 ·rw[if_pos c,c];exact P.at'
 ·rw[if_neg c]
  refine P.oth _ fun j z=>g.apart m0 m1 n0 n1 c ?_
  have l:=congrArg List.length z
  rw[List.length_take,eI,eI] at l
  rw[z,List.take_of_length_le (by rw[eI];omega)]
theorem eA.mR {a:Adr}{H H':Hp}{p:Addr}{ns:List Int}{low task:Int}{nd:Ix->Option Addr}{fp fp':List Addr}{cn:Nat}(S:eA a H p ns low task nd fp cn)(r:L2.Fr fp fp' H H'): bp H H':=by
 obtain⟨dx,sh,tr,dt,sh2,top,dxs,ts,h1,h2,h3,_⟩:=S
 exact h3.mR r
theorem eA.good {a:Adr}{H:Hp}{p:Addr}{ns:List Int}{low task:Int}{nd:Ix->Option Addr}{fp:List Addr}{cn:Nat}(S:eA a H p ns low task nd fp cn): Good ns low:=by
 obtain⟨dx,sh,tr,dt,sh2,top,dxs,ts,h1,h2,h3,h4,h4',h5,_⟩:=S
 exact h5
def fB (M:Int->Option Addr)(n:Int)(xs:List Addr): Int->Option Addr:=fun m=>if n<=m/\m < n+xs.length then xs[(m-n).toNat]? else M m
theorem xt (M:Int->Option Addr)(n m:Int): fB M n [] m=M m:=by
 unfold fB
 rw[if_neg]
 rintro⟨h1,h2⟩
 simp at h2
 omega
theorem uY {M:Int->Option Addr}{n:Int}{xs:List Addr}{i:Nat}{x:Addr}(h:xs[i]?=some x)(m:Int): fB M n (xs.take (i+1)) m=if m=n+i then some x else fB M n (xs.take i) m:=by
 have il:=(List.getElem?_eq_some_iff.mp h).1
 have l1:(xs.take (i+1)).length=i+1:=by rw[List.length_take];omega
 have l2:(xs.take i).length=i:=by rw[List.length_take];omega
 unfold fB
 rw[l1,l2]
 by_cases c:m=n+i
 ·rw[if_pos c,if_pos (by omega)]
  have e:(m-n).toNat=i:=by omega
  rw[e,List.getElem?_take_of_lt (by omega),h]
 ·rw[if_neg c]
  by_cases c2:n<=m/\m < n+i
  ·rw[if_pos c2,if_pos (by omega),List.getElem?_take_of_lt (by omega),List.getElem?_take_of_lt (by omega)]
  ·rw[if_neg c2,if_neg (by omega)]
theorem pV {n m:Int}{k i:Nat}(h:(jm n k)[i]?=some m): m=n+i/\i < k:=by
 unfold jm at h
 rw[List.getElem?_map] at h
 by_cases c:i < k
 ·rw[List.getElem?_range c] at h
  cases h
  exact⟨rfl,c⟩
 ·rw[List.getElem?_eq_none (by rw[List.length_range];omega)] at h
  cases h
theorem gE (n:Int)(k:Nat): (jm n k).length=k:=by unfold jm;rw[List.length_map,List.length_range]
def CB (a:Adr): Sp:=fun vs H Q E=>∃(p l:Addr) (ns:List Int) (low task n:Int) (nd:Ix->Option Addr) (fp:List Addr) (cn:Nat) (xs:List Addr),vs=[.ref p,.int n,.ref l]/\eA a H p ns low task nd fp cn/\cn+xs.length < 100000/\H l=some (.lst (xs.map V.ref))/\(∀x∈xs,∃g,ez a H x g) ∧
 (¬eu ns n xs.length->E (.ref a.aM) none H) ∧
 (eu ns n xs.length->∀(j:Nat) x,j < xs.length->(∀i:Nat,i < j->nd (parts ns (n+i))=none)->nd (parts ns (n+j))=some x->∀d H',H' d=some (xdW d [("page",.int (n+j))])->Same H H'->E (.ref a.bj) (some d) H') ∧
 (eu ns n xs.length->(∀i:Nat,i < xs.length->nd (parts ns (n+i))=none)->∀nd' fp' H',eA a H' p ns low task nd' fp' (cn+xs.length)->(∀m,0<=m->m < pgs ns->nd' (parts ns m)=fB (fun m=>nd (parts ns m)) n xs m)->L2.Fr fp fp' H H'->(∀b∈fp,b∈fp')->Q .non H')
section
variable {P:Program}{w:World}{K:W.Frag}{mg:Str->Option Value}{base:Heap}{a:Adr}
theorem yH {dvs:List V} (R:bg K a.aG "lay" "Space.lay" mo ["self", "first", "leaves"] dvs) (T:Txt w K mg a)
  (aU:aB P w K mg base a.aw 2 "stretch" ["self", "first", "many"] (iJ a) [])
  (bM:aB P w K mg base a.aG 6 "leaf" ["self", "page"] (mP a) [])
  (f9:xh P w K mg base a.bj 1 ["self", "page"] (Ac K) [])
  (eJ:aB P w K mg base a.aG 6 "put" ["self", "page", "leaf"] (yF a) []) :
  aB P w K mg base a.aG 7 "lay" ["self", "first", "leaves"] (CB a) dvs:=by
 refine R.ok eW (fun vs H Q E h=>?_) (fun f cdv A outer s H vs Q E hr h=>?_)
 ·obtain⟨p,l,ns,low,task,n,nd,fp,cn,xs,rfl,_⟩:=h
  rfl
 obtain⟨p,l,ns,low,task,n,nd,fp,cn,xs,rfl,S,lc,hl,lx,k0,k1,k2⟩:=h
 refine⟨_,(@ah _ _ _ _ _ (@aN _ _ 3 _ _ _ _ eW.nd rfl (by first | exact Or.inl rfl | exact Or.inr rfl) (bu (aJ (pv 0) rfl) T.aE aU (hr.mono (by decide)) af (@ae _ _ _ _ _ (pv 1) (@ae _ _ _ _ _ (bU dN (by rfl) T.pN PySem.boot_len (@ae _ _ _ _ _ (pv 2) aj rfl)) aj rfl) rfl)) (by rfl) (by first | exact Or.inl rfl | exact Or.inr rfl))
   (@ah _ _ _ _ _ (dW cE rfl (gk (pv 3)) (b5 (i:=4) eW.nd rfl (by first | exact Or.inl rfl | exact Or.inr rfl))
   (@ao _ _ _ (bx (aV xG (bu (pv 0) T.bh bM (hr.mono (by decide)) af (@ae _ _ _ _ _ (pv 4) aj rfl)) gG (bH _)) (@ao _ _ _ (ni f9 (hr.mono (by decide)) rfl (by rfl) T.Cg af (@ae _ _ _ _ _ (pv 4) aj rfl))) aS)))
   (@ao _ _ _ (dW cE rfl (Iq false false (by rfl) T.Fw (pv 3) (pv 2)) (HK (n:=2) rfl (y_ (b5 (i:=4) eW.nd rfl (by first | exact Or.inl rfl | exact Or.inr rfl)) (y_ (b5 (i:=5) eW.nd rfl (by first | exact Or.inl rfl | exact Or.inr rfl)) Gd)))
   (@ao _ _ _ (aT (bu (pv 0) T.bh eJ (hr.mono (by decide)) af (@ae _ _ _ _ _ (pv 4) (@ae _ _ _ _ _ (pv 5) aj rfl) rfl)))))))),?_⟩
 have t1:=T.bh;have t2:=T.b_;have t3:=T.cj
 have SA:=S
 obtain⟨dx,sh,tr,dt,sh2,top,dxs,ts,h1,h2,h3,h4,h4',h5,h6,h7,h8,h9,h10⟩:=S
 have SH:eN a.aw H sh ns low:=⟨dxs,ts,h4,h4'⟩
 have t5:=T.aE
 have xl:(xs.map V.ref).length=xs.length:=List.length_map ..
 walk_at "go"
 rw[xl]
 refine⟨fun st q H1 s1 e1 hq=>?_,k0⟩
 rw[Int.toNat_natCast] at e1
 have zr:[V.int n].length<=sizeLine:=by rw[sizeLine_eq];show 1<=_;decide
 have st2:=st.2
 walk_at "go"
 refine iN (xs:=(jm n xs.length).map V.int) (fun i σ H'=>Bx ((∃v4 v5,σ=[some (.ref p),some (.int n),some (.ref l),some (.ref q),v4,v5])/\(∀j:Nat,j < i->nd (parts ns (n+j))=none)/\(∀b u,H1 b=some u->H' b=some u))) ⟨⟨⟨_,_,rfl⟩,fun j z=>absurd z (Nat.not_lt_zero _),fun _ _ e=>e⟩⟩ (fun i σ H' _ z=>SqL.of (z.o.2.2 _ _ e1)) ?_ ?_
 ·rintro i x σ H2 hx ⟨⟨v4,v5,rfl⟩,fr,s2⟩
  obtain⟨m,rfl,hm⟩:=c6 hx
  obtain⟨rfl,il⟩:=pV hm
  have s02:Same H H2:=s1.trans s2
  have SA2:=SA.same s02
  have h12:=s02 _ _ h1
  have pin:0<=n+(i:Int)/\n+(i:Int) < pgs ns:=by omega
  walk_at "go"
  refine⟨fun _ H3 s3=>?_,fun z=>absurd pin z⟩
  cases hx:nd (parts ns (n+i)) with
  | none =>
   have nv:ndV none=.non:=rfl
   walk_at "go"
   refine⟨⟨⟨_,_,rfl⟩,fun j hj=>?_,fun b u e=>s3 _ _ (s2 _ _ e)⟩⟩
   by_cases c:j=i
   ·rw[c];exact hx
   ·exact fr j (by omega)
  | some x =>
   have xo:=XO.of T.i8;have x1:=T.vY
   have zr:[V.int (n+(i:Int))].length<=sizeLine:=by rw[sizeLine_eq];show 1<=_;decide
   have nv:ndV (some x)=.ref x:=rfl
   walk_at "go"
   refine fun e he=>⟨e,a.bj,.int (n+(i:Int)),rfl,aq,xo,x1,fun d H4 hd ne q1 q2 q3=>⟨rfl,some d,q1,?_⟩⟩
   exact k1 st i x il fr hx d (del H4 e) (by rw[c9 ne];exact q2) ((s02.trans s3).trans (dJ he hd q3))
 ·rintro σ H2 ⟨⟨v4,v5,rfl⟩,fr,s2⟩
  rw[List.length_map,gE] at fr
  have s02:Same H H2:=s1.trans s2
  have e12:H2 q=_:=s2 _ _ e1
  have hl2:=s02 _ _ hl
  walk_at "go"
  refine⟨SqL.of e12,SqL.of hl2,?_⟩
  refine GN (xs:=(jm n xs.length).map V.int) (ys:=xs.map V.ref) xs.length (by rw[List.length_map,gE]) xl (fun i σ H'=>Bx (∃v4 v5 nd' fp',σ=[some (.ref p),some (.int n),some (.ref l),some (.ref q),v4,v5]/\eA a H' p ns low task nd' fp' (cn+i)/\(∀m,0<=m->m < pgs ns->nd' (parts ns m)=fB (fun m=>nd (parts ns m)) n (xs.take i) m)/\L2.Fr fp fp' H H'/\(∀b∈fp,b∈fp')/\bp H2 H')) ⟨⟨_,_,nd,fp,rfl,SA.same s02,fun m _ _=>(xt (fun m=>nd (parts ns m)) n m).symm,L2.Fr.same s02,fun b hb=>hb,bp.refl _⟩⟩ (fun i σ H' _ z=>?_) ?_ ?_
  ·obtain⟨v4,v5,nd',fp',_,_,_,_,_,kn⟩:=z.o
   exact⟨SqL.of (kn.lst e12),SqL.of (kn.lst hl2)⟩
  ·rintro i x y σ H3 tu hx hy ⟨v4,v5,nd',fp',rfl,SA3,pv,fr3,sub,kn⟩ htu
   obtain⟨m,rfl,hm⟩:=c6 hx
   obtain⟨rfl,il⟩:=pV hm
   rw[List.getElem?_map,Option.map_eq_some_iff] at hy
   obtain⟨x,hy,rfl⟩:=hy
   have pin:0<=n+(i:Int)/\n+(i:Int) < pgs ns:=by omega
   have s4:=aH (u:=.tup [.int (n+(i:Int)),.ref x]) htu
   have e4:upd H3 tu (.tup [.int (n+(i:Int)),.ref x]) tu=some (.tup [.int (n+(i:Int)),.ref x]):=aq
   generalize upd H3 tu (.tup [.int (n+(i:Int)),.ref x])=H4 at s4 e4
   have SA4:=SA3.same s4
   obtain⟨gx,lf⟩:=lx x (List.mem_of_getElem? hy)
   obtain⟨dl,lf4⟩:=(kn.lf (lf.same s02)).same s4
   have h14:=s4 _ _ (kn.ins (s02 _ _ h1))
   have lc2:cn+i < 100000:=by omega
   have lv4:∃u,H4 x=some u:=⟨_,lf4⟩
   walk_at "go"
   refine⟨fun _ DK Dh H5 SA5 pt fr5 KN=>?_,fun z=>absurd pin z⟩
   refine⟨⟨_,_,DK,Dh,rfl,SA5,fun m m0 m1=>?_,(fr3.trans (L2.Fr.same s4)).trans fr5,fun b hb=>KN _ (sub _ hb),(kn.trans (bp.same s4)).trans (SA4.mR fr5)⟩⟩
   rw[pt.page h5 pin.1 pin.2 m0 m1,uY hy,pv m m0 m1]
  ·rintro σ H3 ⟨v4,v5,nd',fp',rfl,SA3,pv,fr3,sub,kn⟩
   rw[List.take_length] at pv
   walk_at "go"
   exact k2 st fr nd' fp' H3 SA3 pv fr3 sub
end
end K36

set_option maxHeartbeats 4000000
namespace K36
open PySem L2
theorem oz {K:W.Frag}{l acc:Addr}{xs:List V}{k:Nat}{te:TE}{σ:St}{H1:Hp}{QH:Hp->Prop}(I:Nat->List V->Hp->Prop)(hn:xs.length < sizeLine)(h0:I 0 [] (upd H1 acc (.lst [])))
  (sm:∀i ys H2,I i ys H2->H2 acc=some (.lst ys)/\SqL K H2 l xs/\ys.length=i)
  (he:∀(i:Nat) (x:V) (ys:List V) (H2:Hp),xs[i]?=some x->I i ys H2->∀R:VK,(∀v H6,H6 acc=some (.lst ys)->I (i+1) (ys++[v]) (upd H6 acc (.lst (ys++[v])))->R v H6)->te (some x::σ) H2 R)
  (q:∀ys H2,I xs.length ys H2->QH H2) (hk:k=1:=by rfl):∃(W:Nat->List V->Hp->Prop) (n':Nat),W 0 [] (upd H1 acc (.lst [])) ∧
 ∀i ys H2,W i ys H2->H2 acc=some (.lst ys)/\ys.length < sizeLine/\((i=n'/\(Itl K l).stop i H2/\QH H2)\/(i < n'/\(Itl K l).go i H2/\∀x H3,(Itl K l).yld i H2 x H3->∀τ:St,τ.length=k->(wG 0) x (τ++σ) H3 fun τ2 H4 =>
  (∃τ':St,τ'.length=k/\τ2=τ'++σ)/\EG τ2 H4 fun b H5=>if b=true then te τ2 H5 fun v H6=>H6 acc=some (.lst ys)/\W (i+1) (ys++[v]) (upd H6 acc (.lst (ys++[v]))) else W (i+1) ys H5)):=by
 subst hk
 refine⟨fun i ys H2=>i<=xs.length/\I i ys H2,xs.length,⟨Nat.zero_le _,h0⟩,?_⟩
 rintro i ys H2 ⟨hi,hI⟩
 obtain⟨m1,m2,m3⟩:=sm i ys H2 hI
 refine⟨m1,by omega,?_⟩
 by_cases hlt:i < xs.length
 ·refine .inr ⟨hlt,⟨xs,xs[i],m2,by simp[hlt]⟩,?_⟩
  rintro x H3 ⟨rfl,hx⟩ τ hτ
  have hx:=hx xs m2
  obtain⟨t,rfl⟩:∃t,τ=[t]:=by
   match τ,hτ with
   | [t],_=>exact⟨t,rfl⟩
  refine⟨⟨[some x],rfl,rfl⟩,?_⟩
  unfold EG
  simp only [if_true]
  exact he i x ys _ hx hI _ fun v H6 e1 e2=>⟨e1,hlt,e2⟩
 ·have e:i=xs.length:=by omega
  subst e
  exact .inl ⟨rfl,⟨xs,m2,Nat.le_refl _⟩,q ys H2 hI⟩
theorem IJ {g g':Lf}(h:g.fs=g'.fs): g=g':=by
 have n1:¬(("frame" : Str) = "slot"):=by decide +kernel
 have n2:¬(("slot" : Str) = "frame"):=by decide +kernel
 cases g<;>cases g'<;>unfold Lf.fs at h<;>simp only [List.cons.injEq,Prod.mk.injEq,V.int.injEq,V.str.injEq,true_and,and_true,reduceCtorEq,and_false,n1,n2,false_and] at h
 ·rw[h]
 ·rw[h.1,h.2]
 ·rw[h.1,h.2]
 ·rw[h.1,h.2.1,h.2.2]
theorem FE {a:Adr}{H:Hp}{x:Addr}{g g':Lf}(h:ez a H x g)(h':ez a H x g'): g=g':=by
 obtain⟨d,e⟩:=h
 obtain⟨d',e'⟩:=h'
 rw[e] at e'
 injection e' with e'
 injection e' with _ _ ef
 exact IJ ef
def ju (H H':Hp): Prop:=∀b u,H b=some u->(∀zs:List V,u≠.lst zs)->H' b=some u
theorem ju.upd {H:Hp}{l:Addr}{xs:List V}{u:HO}(h:H l=some (.lst xs)): ju H (upd H l u):=fun b v e n=>by
 rw[av fun z=>by rw[z,h] at e;cases e;exact n _ rfl];exact e
theorem ju.ins {H H':Hp}(k:ju H H'){b C dx:Addr}{fs:List (Str×V)}(e:H b=some (.ins C dx fs)): H' b=some (.ins C dx fs):=k b _ e fun _ w=>by cases w
theorem ju.tup {H H':Hp}(k:ju H H'){b:Addr}{xs:List V}(e:H b=some (.tup xs)): H' b=some (.tup xs):=k b _ e fun _ w=>by cases w
theorem ju.dK {H H':Hp}(k:ju H H'){b:Addr}{xs:List (Key×V)}(e:H b=some (.dK xs)): H' b=some (.dK xs):=k b _ e fun _ w=>by cases w
theorem ju.lf {a:Adr}{H H':Hp}(k:ju H H'){x:Addr}{g:Lf}(e:ez a H x g): ez a H' x g:=let ⟨dx,h⟩:=e;⟨dx,k.ins h⟩
theorem eA.FG {a:Adr}{H H':Hp}{p:Addr}{ns:List Int}{low task:Int}{nd:Ix->Option Addr}{fp:List Addr}{cn:Nat}(S:eA a H p ns low task nd fp cn)(k:ju H H'): eA a H' p ns low task nd fp cn:=by
 obtain⟨dx,sh,tr,dt,sh2,top,dxs,ts,h1,h2,h3,h4,h4',h5⟩:=S
 refine⟨dx,sh,tr,dt,sh2,top,dxs,ts,k.ins h1,k.ins h2,?_,k.ins h4,k.tup h4',h5⟩
 obtain⟨⟨dy,sh,top,q1,⟨dz,tz,q2,q3⟩,q4⟩,g,fu,ib⟩:=h3
 exact⟨⟨dy,sh,top,k.ins q1,⟨dz,tz,k.ins q2,k.tup q3⟩,q4.keep fun b u e m=>by obtain⟨kv,e'⟩:=q4.lv b m;rw[e] at e';cases e';exact k.dK e⟩,g,fu,ib⟩
theorem eA.tr {a:Adr}{H:Hp}{p:Addr}{ns:List Int}{low task:Int}{nd:Ix->Option Addr}{fp:List Addr}{cn:Nat}(S:eA a H p ns low task nd fp cn): ∃dx sh tr dt sh2 top,H p=some (.ins a.aG dx [("shape",.ref sh),("task",.int task),("tree",.ref tr)]) ∧
  H tr=some (.ins a.aZ dt [("shape",.ref sh2),("top",.ref top)])/\lz a H tr ns low nd fp cn/\eN a.aw H sh ns low/\∀nd' fp' cn' H',lz a H' tr ns low nd' fp' cn'->L2.Fr fp fp' H H'->eA a H' p ns low task nd' fp' cn':=by
 obtain⟨dx,sh,tr,dt,sh2,top,dxs,ts,h1,h2,h3,h4,h4',h5,h6,h7,h8,h9,h10⟩:=S
 refine⟨dx,sh,tr,dt,sh2,top,h1,h2,h3,⟨dxs,ts,h4,h4'⟩,fun nd' fp' cn' H' S' fr=>?_⟩
 have e2:=L2.Fr.out fr h2 h8
 have e1:=L2.Fr.out fr h1 h6
 have e3:=L2.Fr.out fr h4 h9
 have e4:=L2.Fr.out fr h4' h10
 exact⟨dx,sh,tr,dt,sh2,top,dxs,ts,e1.1,e2.1,S',e3.1,e4.1,h5,e1.2,h7,e2.2,e3.2,e4.2⟩
theorem eA.mono {a:Adr}{H:Hp}{p:Addr}{ns:List Int}{low task:Int}{nd:Ix->Option Addr}{fp:List Addr}{cn cn':Nat}(S:eA a H p ns low task nd fp cn)(h:cn<=cn'): eA a H p ns low task nd fp cn':=by
 obtain⟨dx,sh,tr,dt,sh2,top,dxs,ts,h1,h2,⟨⟨dy,sh',top',q1,q2,q3⟩,g,fu,ib⟩,r⟩:=S
 exact⟨dx,sh,tr,dt,sh2,top,dxs,ts,h1,h2,⟨⟨dy,sh',top',q1,q2,q3.mono h⟩,g,fu,ib⟩,r⟩
theorem Gone.page {ns:List Int}{low:Int}{nd nd':Ix->Option Addr}{n m:Int}(g:Good ns low)(G:Gone ns.length nd (parts ns n) nd')(n0:0<=n)(n1:n < pgs ns)(m0:0<=m)(m1:m < pgs ns): nd' (parts ns m)=if m=n then none else nd (parts ns m):=by
 by_cases c:m=n
 ·rw[if_pos c,c];exact G.no
 ·rw[if_neg c]
  exact G.oth _ (eI ns m) (g.apart m0 m1 n0 n1 c)
def rQ (M:Int->Option Addr)(n k:Int): Int->Option Addr:=fun m=>if n<=m/\m < n+k then none else M m
def Hole (ns:List Int)(nd:Ix->Option Addr)(n:Int)(j:Nat): Prop:=(∀i:Nat,i < j->(nd (parts ns (n+i))).isSome=true)/\nd (parts ns (n+j))=none
def uZ (a:Adr): Sp:=fun vs H Q E=>∃(p l:Addr) (ns:List Int) (low task n:Int) (kk:Nat) (dd:Str) (nd:Ix->Option Addr) (fp:List Addr) (cn:Nat),vs=[.ref p,.ref l,.str dd]/\eA a H p ns low task nd fp cn/\H l=some (.lst ((jm n kk).map V.int))/\0<=n/\n+kk<=pgs ns ∧
 (∀j:Nat,j < kk->Hole ns nd n j->∀d H',H' d=some (xdW d (ky (.int task) (.int ((n+j)*plc low)) (.str dd)))->Same H H'->E (.ref a.aA) (some d) H') ∧
 ((∀i:Nat,i < kk->(nd (parts ns (n+i))).isSome=true)->∀H',Same H H'->Q .non H')
def FH (a:Adr): Sp:=fun vs H Q E=>∃(p:Addr) (ns:List Int) (low task n m:Int) (nd:Ix->Option Addr) (fp:List Addr) (cn:Nat),vs=[.ref p,.int n,.int m]/\eA a H p ns low task nd fp cn ∧
 (¬eu ns n m->E (.ref a.aM) none H) ∧
 (eu ns n m->∀j:Nat,(j:Int) < m->Hole ns nd n j->∀d H',H' d=some (xdW d (ky (.int task) (.int ((n+j)*plc low)) (.str "unmap")))->Same H H'->E (.ref a.aA) (some d) H') ∧
 (eu ns n m->∀xs:List Addr,(xs.length:Int)=m->(∀(i:Nat) x,xs[i]?=some x->nd (parts ns (n+i))=some x)->∀q nd' H',eA a H' p ns low task nd' fp cn->H' q=some (.lst (xs.map V.ref))->(∀m',0<=m'->m' < pgs ns->nd' (parts ns m')=rQ (fun m=>nd (parts ns m)) n m m')->L2.Fr fp fp H H'->H q=none->Q (.ref q) H')
def Ag (a:Adr): Sp:=fun vs H Q E=>∃(p:Addr) (ns:List Int) (low task n m r:Int) (nd:Ix->Option Addr) (fp:List Addr) (cn:Nat),vs=[.ref p,.int n,.int m,.int r]/\eA a H p ns low task nd fp cn/\cn < 90000/\(∀(i:Nat) x,(i:Int) < m->nd (parts ns (n+i))=some x->∃g,ez a H x g) ∧
 (¬eu ns n m->E (.ref a.aM) none H) ∧
 (eu ns n m->¬OkR r->∀H',Same H H'->E (.ref a.aO) none H') ∧
 (eu ns n m->OkR r->∀j:Nat,(j:Int) < m->Hole ns nd n j->∀d H',H' d=some (xdW d (ky (.int task) (.int ((n+j)*plc low)) (.str "rights")))->Same H H'->E (.ref a.aA) (some d) H') ∧
 (eu ns n m->OkR r->(∀i:Nat,(i:Int) < m->(nd (parts ns (n+i))).isSome=true)->∀(ys:List Addr) nd' fp' H',(ys.length:Int)=m->eA a H' p ns low task nd' fp' (cn+64)->(∀(i:Nat) x y g,nd (parts ns (n+i))=some x->ez a H x g->ys[i]?=some y->ez a H' y (g.rL r))->(∀m',0<=m'->m' < pgs ns->nd' (parts ns m')=fB (fun m=>nd (parts ns m)) n ys m')->L2.Fr fp fp' H H'->(∀b∈fp,b∈fp')->Q .non H')
theorem Bm (M:Int->Option Addr)(n:Int)(ys:List Addr)(y:Addr)(m:Int): fB M n (ys++[y]) m=if m=n+ys.length then some y else fB M n ys m:=by
 have h:=uY (M:=M) (n:=n) (xs:=ys++[y]) (i:=ys.length) (x:=y) (by rw[List.getElem?_append_right (Nat.le_refl _),Nat.sub_self];rfl) m
 rw[List.take_of_length_le (by rw[List.length_append];exact Nat.le_refl _),List.take_left' rfl] at h
 exact h
theorem FI (M:Int->Option Addr)(n:Int)(ys:List Addr): fB M n ys (n+ys.length)=M (n+ys.length):=by
 unfold fB
 rw[if_neg (by omega)]
section
variable {P:Program}{w:World}{K:W.Frag}{mg:Str->Option Value}{base:Heap}{a:Adr}
theorem lY {dvs:List V} (R:bg K a.aG "check_mapped" "Space.check_mapped" dA ["self", "pages", "deed"] dvs) (T:Txt w K mg a)
  (bM:aB P w K mg base a.aG 6 "leaf" ["self", "page"] (mP a) [])
  (bS:xh P w K mg base a.aA 1 ["self", "task", "address", "deed"] (pS K) [])
  (bW:aB P w K mg base a.aw 2 "address_of" ["self", "page", "place"] (uR a) []) :
  aB P w K mg base a.aG 7 "check_mapped" ["self", "pages", "deed"] (uZ a) dvs:=by
 refine R.ok fK (fun vs H Q E h=>?_) (fun f cdv A outer s H vs Q E hr h=>?_)
 ·obtain⟨p,l,ns,low,task,n,kk,dd,nd,fp,cn,rfl,_⟩:=h
  rfl
 obtain⟨p,l,ns,low,task,n,kk,dd,nd,fp,cn,rfl,S,hl,n0,n1,k1,k2⟩:=h
 refine⟨_,(@ao _ _ _ (dW cE rfl (gk (pv 1)) (b5 (i:=3) fK.nd rfl (by first | exact Or.inl rfl | exact Or.inr rfl))
   (@ao _ _ _ (bx (aV xF (bu (pv 0) T.bh bM (hr.mono (by decide)) af (@ae _ _ _ _ _ (pv 3) aj rfl)) gG (bH _)) (@ao _ _ _ (ni bS (hr.mono (by decide)) rfl (by rfl) T.la af (@ae _ _ _ _ _ (aJ (pv 0) rfl) (@ae _ _ _ _ _ (bu (aJ (pv 0) rfl) T.aE bW (hr.mono (by decide)) af (@ae _ _ _ _ _ (pv 3) (@ae _ _ _ _ _ au aj rfl) rfl)) (@ae _ _ _ _ _ (pv 2) aj rfl) rfl) rfl))) aS)))),?_⟩
 have t1:=T.bh;have t2:=T.cj;have t3:=T.fj;have t5:=T.aE
 have SA:=S
 obtain⟨dx,sh,tr,dt,sh2,top,h1,h2,h3,h4,_⟩:=S.tr
 have gd:=SA.good
 have pp:0 < plc low:=yy low
 walk_at "go"
 refine iN (xs:=(jm n kk).map V.int) (fun i σ H'=>Bx ((∃v3,σ=[some (.ref p),some (.ref l),some (.str dd),v3])/\(∀j:Nat,j < i->(nd (parts ns (n+j))).isSome=true)/\(∀b u,H b=some u->H' b=some u))) ⟨⟨⟨_,rfl⟩,fun j z=>absurd z (Nat.not_lt_zero _),fun _ _ e=>e⟩⟩ (fun i σ H' _ z=>SqL.of (z.o.2.2 _ _ hl)) ?_ ?_
 ·rintro i x σ H2 hx ⟨⟨v3,rfl⟩,fr,s2⟩
  obtain⟨m,rfl,hm⟩:=c6 hx
  obtain⟨rfl,il⟩:=pV hm
  have s02:Same H H2:=s2
  have SA2:=SA.same s02
  have h12:=s02 _ _ h1
  have pin:0<=n+(i:Int)/\n+(i:Int) < pgs ns:=by omega
  walk_at "go"
  refine⟨fun _ H3 s3=>?_,fun z=>absurd pin z⟩
  have h13:=s3 _ _ h12
  have h43:=(h4.same s02).same s3
  cases hx:nd (parts ns (n+i)) with
  | none =>
   have nv:ndV none=.non:=rfl
   obtain⟨dxs,ts,hs,hw⟩:=id h43
   walk_at "go"
   refine⟨fun _=>?_,fun z=>absurd ⟨pin,Int.le_refl _,pp⟩ z⟩
   have xo:=XO.of T.bN;have x1:=T.km;have x2:=T.ie;have x3:=T.kj
   have zr:[V.int task,V.int ((n+(i:Int))*plc low+0),V.str dd].length<=sizeLine:=by rw[sizeLine_eq];show 3<=_;decide
   walk_at "go"
   refine fun e he=>⟨e,a.aA,.int task,.int ((n+(i:Int))*plc low+0),.str dd,rfl,aq,xo,x1,x2,x3,fun d H4 hd ne q1 q2 q3=>⟨rfl,some d,q1,?_⟩⟩
   rw[Int.add_zero] at q2
   exact k1 i il ⟨fr,hx⟩ d (del H4 e) (by rw[c9 ne];exact q2) ((s02.trans s3).trans (dJ he hd q3))
  | some x =>
   have nv:ndV (some x)=.ref x:=rfl
   walk_at "go"
   refine⟨⟨⟨_,rfl⟩,fun j hj=>?_,fun b u e=>s3 _ _ (s2 _ _ e)⟩⟩
   by_cases c:j=i
   ·rw[c,hx];rfl
   ·exact fr j (by omega)
 ·rintro σ H2 ⟨⟨v3,rfl⟩,fr,s2⟩
  rw[List.length_map,gE] at fr
  walk_at "go"
  exact k2 fr H2 s2
theorem wd {dvs:List V} (R:bg K a.aG "lift" "Space.lift" kI ["self", "first", "many"] dvs) (T:Txt w K mg a)
  (aU:aB P w K mg base a.aw 2 "stretch" ["self", "first", "many"] (iJ a) [])
  (bO:aB P w K mg base a.aG 7 "check_mapped" ["self", "pages", "deed"] (uZ a) [])
  (mS:aB P w K mg base a.aZ 5 "drop" ["self", "page"] (Cz a) []) :
  aB P w K mg base a.aG 8 "lift" ["self", "first", "many"] (FH a) dvs:=by
 refine R.ok nM (fun vs H Q E h=>?_) (fun f cdv A outer s H vs Q E hr h=>?_)
 ·obtain⟨p,ns,low,task,n,m,nd,fp,cn,rfl,_⟩:=h
  rfl
 obtain⟨p,ns,low,task,n,m,nd,fp,cn,rfl,S,k0,k1,k2⟩:=h
 refine⟨_,(ah (aN (i:=3) nM.nd rfl (by first | exact Or.inl rfl | exact Or.inr rfl) (bu (aJ (pv 0) rfl) T.aE aU (hr.mono (by decide)) af (ae (pv 1) (ae (pv 2) aj rfl) rfl)))
   (ah (aT (bu (pv 0) T.bh bO (hr.mono (by decide)) af (ae (pv 3) (ae bd aj rfl) rfl)))
   (ao (aI (B7 (xs:=["page"]) (N':=["self", "first", "many", "pages"]) rfl ⟨rfl,by decide +kernel,by decide +kernel,by dsimp only [iq,PyProof.Rows.envOfC];decide +kernel,by decide +kernel,by dsimp only [iq];decide +kernel,rfl⟩ (gk (pv 3)) (fun _ _ _ _ _=>(b5 (i:=0) (by dsimp only [dw];decide +kernel) rfl (by first | exact Or.inl rfl | exact Or.inr rfl))) (fun _ _ _ _ _=>xR) (fun _ _ _ _ _=>(bu (GB (K:=K) rfl (pv 1) rfl) T.b9 mS (hr.mono (by decide)) wY (ae (pv 0) aj rfl)))))))),?_⟩
 have t1:=T.bh;have t2:=T.cj;have t3:=T.b_;have t5:=T.aE;have t6:=T.b9
 have SA:=S
 obtain⟨dx,sh,tr,dt,sh2,top,h1,h2,h3,h4,_⟩:=S.tr
 obtain⟨dxs,ts,hs,hw⟩:=id h4
 have gd:=SA.good
 walk_at "go"
 refine⟨fun st q H1 s1 e1 hq=>?_,k0⟩
 obtain⟨kk,rfl⟩:∃kk:Nat,m=(kk:Int):=⟨m.toNat,by have:=st.1.1;omega⟩
 rw[Int.toNat_natCast] at e1
 have st0:=st.2.1
 have st1:=st.2.2
 have KO:=st.1.2
 have SA1:=SA.same s1
 have h11:=s1 _ _ h1
 walk_at "go"
 refine⟨fun j jl ho d H2 hd s2=>k1 st j (by omega) ho d H2 hd (s1.trans s2),fun all H2 s2=>?_⟩
 have e2:=s2 _ _ e1
 have s02:=s1.trans s2
 obtain⟨xs,xl,xa⟩:∃xs:List Addr,xs.length=kk/\∀(i:Nat) x,xs[i]?=some x->nd (parts ns (n+i))=some x:=by
  refine⟨(List.range kk).map fun i:Nat=>(nd (parts ns (n+(i:Int)))).getD 0,by rw[List.length_map,List.length_range],fun i x h=>?_⟩
  rw[List.getElem?_map] at h
  by_cases c:i < kk
  ·rw[List.getElem?_range c] at h
   have:=all i c
   cases e:nd (parts ns (n+i)) with
   | none=>rw[e] at this;cases this
   | some y=>simp[e] at h;rw[h]
  ·rw[List.getElem?_eq_none (by rw[List.length_range];omega)] at h
   cases h
 walk_at "go"
 intro acc hacc
 have a0:H acc=none:=s02.free hacc
 refine oz (xs:=(jm n kk).map V.int) (fun i ys H'=>Bx (∃nd',ys=(xs.take i).map V.ref/\H' acc=some (.lst ys)/\eA a H' p ns low task nd' fp cn/\(∀m',0<=m'->m' < pgs ns->nd' (parts ns m')=rQ (fun m=>nd (parts ns m)) n i m')/\L2.Fr fp fp H H'/\H' q=some (.lst ((jm n kk).map V.int))/\i<=kk)) (by rw[List.length_map,gE,sizeLine_eq];omega) ⟨⟨nd,rfl,aq,(SA.same s02).same (aH hacc),fun m' _ _=>?_,L2.Fr.same (s02.trans (aH hacc)),aH hacc _ _ e2,Nat.zero_le _⟩⟩ (fun i ys H' z=>?_) (fun i x ys H' hx z R r=>?_) (fun ys H' z=>?_)
 ·unfold rQ;rw[if_neg (by omega)]
 ·obtain⟨nd',z1,z2,z3,z4,z5,z6,z7⟩:=z.o
  exact⟨z2,SqL.of z6,by rw[z1,List.length_map,List.length_take];omega⟩
 ·obtain⟨nd',z1,z2,z3,z4,z5,z6,z7⟩:=z.o
  obtain⟨m,rfl,hm⟩:=c6 hx
  obtain⟨rfl,il⟩:=pV hm
  have pin:0<=n+(i:Int)/\n+(i:Int) < pgs ns:=by omega
  obtain⟨dx3,sh3,tr3,dt3,LU,LW,q1,q2,q3,q4,back⟩:=z3.tr
  walk_at "go"
  refine⟨fun _ DK H5 S5 G fr5=>?_,fun z=>absurd pin z⟩
  have ex:xs[i]?=some (xs[i]'(by omega)):=List.getElem?_eq_getElem (by omega)
  generalize xs[i]'(by omega)=x at ex
  have ev:nd' (parts ns (n+i))=some x:=by
   rw[z4 _ pin.1 pin.2]
   unfold rQ
   rw[if_neg (by omega)]
   exact xa i x ex
  rw[ev]
  have SP5:=back DK fp cn H5 S5 fr5
  have nf:acc∉fp:=fun w=>by
   obtain⟨⟨_,_,_,_,_,q⟩,_⟩:=id h3
   obtain⟨kv,e⟩:=q.lv _ w
   rw[a0] at e;cases e
  have nq:q∉fp:=fun w=>by
   obtain⟨⟨_,_,_,_,_,q'⟩,_⟩:=id h3
   obtain⟨kv,e⟩:=q'.lv _ w
   rw[hq] at e;cases e
  have e5:=(L2.Fr.out fr5 z2 nf).1
  have e6:=(L2.Fr.out fr5 z6 nq).1
  have nqa:q≠acc:=az e2 hacc
  refine r _ _ e5 ⟨⟨DK,?_,aq,SP5.FG (ju.upd e5),fun m' m0 m1=>?_,⟨fun b u e nb=>?_,fun b hb=>.inl hb⟩,by rw[av nqa];exact e6,by omega⟩⟩
  ·rw[z1,List.take_add_one,ex,List.map_append];rfl
  ·rw[G.page gd pin.1 pin.2 m0 m1,z4 m' m0 m1]
   unfold rQ
   by_cases c:m'=n+i
   ·rw[if_pos c,if_pos (by omega)]
   ·rw[if_neg c]
    by_cases c2:n<=m'/\m' < n+i
    ·rw[if_pos c2,if_pos (by omega)]
    ·rw[if_neg c2,if_neg (by omega)]
  ·rw[av (az e a0)]
   exact(z5.trans fr5).1 b u e nb
 ·obtain⟨nd',z1,z2,z3,z4,z5,z6,z7⟩:=z.o
  rw[List.length_map,gE] at z1 z4
  rw[List.take_of_length_le (by omega)] at z1
  exact k2 st xs (by omega) xa acc nd' H' z3 (by rw[z2,z1]) z4 z5 a0
theorem sQ {dvs:List V} (R:bg K a.aG "change" "Space.change" iY ["self", "first", "many", "rights"] dvs) (T:Txt w K mg a)
  (aU:aB P w K mg base a.aw 2 "stretch" ["self", "first", "many"] (iJ a) [])
  (cw:HasFn P w K mg base 1 "check_rights" ["rights"] (uU a) [])
  (bO:aB P w K mg base a.aG 7 "check_mapped" ["self", "pages", "deed"] (uZ a) [])
  (eJ:aB P w K mg base a.aG 6 "put" ["self", "page", "leaf"] (yF a) [])
  (g_:aB P w K mg base a.aF 4 "righted" ["self", "rights"] (dP a 0) [])
  (jf:aB P w K mg base a.bq 5 "righted" ["self", "rights"] (dP a 1) [])
  (jW:aB P w K mg base a.bX 5 "righted" ["self", "rights"] (dP a 2) [])
  (hJ:aB P w K mg base a.aW 5 "righted" ["self", "rights"] (dP a 3) [])
  (bM:aB P w K mg base a.aG 6 "leaf" ["self", "page"] (mP a) []) :
  aB P w K mg base a.aG 8 "change" ["self", "first", "many", "rights"] (Ag a) dvs:=by
 refine R.ok gX (fun vs H Q E h=>?_) (fun f cdv A outer s H vs Q E hr h=>?_)
 ·obtain⟨p,ns,low,task,n,m,r,nd,fp,cn,rfl,_⟩:=h
  rfl
 obtain⟨p,ns,low,task,n,m,r,nd,fp,cn,rfl,S,lc,lv,k0,k1,k2,k3⟩:=h
 refine⟨_,(@ah _ _ _ _ _ (@aN _ _ 4 _ _ _ _ gX.nd rfl (by first | exact Or.inl rfl | exact Or.inr rfl) (bu (aJ (pv 0) rfl) T.aE aU (hr.mono (by decide)) af (@ae _ _ _ _ _ (pv 1) (@ae _ _ _ _ _ (pv 2) aj rfl) rfl)) (by rfl) (by first | exact Or.inl rfl | exact Or.inr rfl))
   (@ah _ _ _ _ _ (aT (bz cw (hr.mono (by decide)) (by rfl) af (@ae _ _ _ _ _ (pv 3) aj rfl)))
   (@ah _ _ _ _ _ (aT (bu (pv 0) T.bh bO (hr.mono (by decide)) af (@ae _ _ _ _ _ (pv 4) (@ae _ _ _ _ _ bd aj rfl) rfl)))
   (@ao _ _ _ (dW cE rfl (gk (pv 4)) (b5 (i:=5) gX.nd rfl (by first | exact Or.inl rfl | exact Or.inr rfl))
   (@ao _ _ _ (aT (bu (pv 0) T.bh eJ (hr.mono (by decide)) af (@ae _ _ _ _ _ (pv 5) (@ae _ _ _ _ _ (EV (k:=5) (m := "righted") (dvs:=[]) (bu (pv 0) T.bh bM (hr.mono (by decide)) af (@ae _ _ _ _ _ (pv 5) aj rfl)) (hr.mono (by decide)) af (@ae _ _ _ _ _ (pv 3) aj rfl) (by rfl) (by rfl) (by rfl)) aj rfl) rfl))))))))),?_⟩
 have t1:=T.bh;have t2:=T.cj;have t3:=T.b_;have t5:=T.aE
 have SA:=S
 obtain⟨dx,sh,tr,dt,sh2,top,h1,h2,h3,h4,_⟩:=S.tr
 obtain⟨dxs,ts,hs,hw⟩:=id h4
 have gd:=SA.good
 walk_at "go"
 refine⟨fun st q H1 s1 e1 hq=>?_,k0⟩
 obtain⟨kk,rfl⟩:∃kk:Nat,m=(kk:Int):=⟨m.toNat,by have:=st.1.1;omega⟩
 rw[Int.toNat_natCast] at e1
 have st0:=st.2.1
 have st1:=st.2.2
 have KO:=st.1.2
 have SA1:=SA.same s1
 have h11:=s1 _ _ h1
 walk_at "go"
 refine⟨fun ok=>?_,fun bad=>k1 st bad H1 s1⟩
 walk_at "go"
 refine⟨fun j jl ho d H2 hd s2=>k2 st ok j (by omega) ho d H2 hd (s1.trans s2),fun all H2 s2=>?_⟩
 have e2:=s2 _ _ e1
 have s02:=s1.trans s2
 have h12:=s2 _ _ h11
 walk_at "go"
 refine iN (xs:=(jm n kk).map V.int) (fun i σ H'=>Bx (∃v5 ys nd' fp',σ=[some (.ref p),some (.int n),some (.int kk),some (.int r),some (.ref q),v5]/\ys.length=i/\eA a H' p ns low task nd' fp' (cn+i)/\(∀(i:Nat) x y g,nd (parts ns (n+i))=some x->ez a H x g->ys[i]?=some y->ez a H' y (g.rL r))/\(∀m',0<=m'->m' < pgs ns->nd' (parts ns m')=fB (fun m=>nd (parts ns m)) n ys m')/\L2.Fr fp fp' H H'/\(∀b∈fp,b∈fp')/\bp H2 H')) ⟨⟨_,[],nd,fp,rfl,rfl,SA.same s02,fun i x y g _ _ z=>(by cases z),fun m' _ _=>(xt (fun m=>nd (parts ns m)) n m').symm,L2.Fr.same s02,fun b hb=>hb,bp.refl _⟩⟩ (fun i σ H' _ z=>?_) ?_ ?_
 ·obtain⟨v5,ys,nd',fp',_,_,_,_,_,_,_,kn⟩:=z.o
  exact SqL.of (kn.lst e2)
 ·rintro i x σ H3 hx ⟨v5,ys,nd',fp',rfl,yl,SA3,ly,pv,fr3,sub,kn⟩
  obtain⟨m,rfl,hm⟩:=c6 hx
  obtain⟨rfl,il⟩:=pV hm
  have pin:0<=n+(i:Int)/\n+(i:Int) < pgs ns:=by omega
  have hsome:=all i il
  obtain⟨x,hx⟩:∃x,nd (parts ns (n+i))=some x:=by
   cases e:nd (parts ns (n+i)) with
   | none=>rw[e] at hsome;cases hsome
   | some x=>exact⟨x,rfl⟩
  obtain⟨g,lf⟩:=lv i x (by omega) hx
  have hx3:nd' (parts ns (n+i))=some x:=by
   rw[pv _ pin.1 pin.2,<-yl,FI,yl];exact hx
  have lf3:=kn.lf (lf.same s02)
  have h13:=kn.ins h12
  walk_at "go"
  refine⟨fun _ H4 s4=>?_,fun z=>absurd pin z⟩
  rw[hx3]
  have lf4:=lf3.same s4
  have SA4:=SA3.same s4
  have h14:=s4 _ _ h13
  have lc4:cn+i < 100000:=by omega
  obtain⟨C,dxl,fs,f1,f2,f3,f4⟩:∃C dx fs,H4 x=some (.ins C dx fs)/\Cls K C/\aB P w K mg base C 5 "righted" ["self", "rights"] (dP a g.kind) []/\fs.lookup ("righted" : Str)=none:=by
   obtain⟨dl,hl⟩:=id lf4
   cases g with
   | fresh r=>exact⟨_,_,_,hl,T.i6,g_.mono (by decide),by walk_at "lk"⟩
   | held r f=>exact⟨_,_,_,hl,T.nu,jf.mono (by decide),by walk_at "lk"⟩
   | out r f=>exact⟨_,_,_,hl,T.qH,jW.mono (by decide),by walk_at "lk"⟩
   | named r n f=>exact⟨_,_,_,hl,T.kh,hJ.mono (by decide),by walk_at "lk"⟩
  have nv:ndV (some x)=.ref x:=rfl
  rw[nv]
  walk_at "go"
  refine⟨fun _ y H5 ly5 s5 hy5=>?_,fun bad=>absurd ok bad⟩
  have SA5:=SA4.same s5
  have h15:=s5 _ _ h14
  have lvy:∃u,H5 y=some u:=by obtain⟨dl,e⟩:=id ly5;exact⟨_,e⟩
  walk_at "go"
  refine⟨fun _ DK Dh H6 SA6 pt fr6 KP=>?_,fun z=>absurd pin z⟩
  have k6:=SA5.mR fr6
  refine⟨⟨_,ys++[y],DK,Dh,rfl,by rw[List.length_append,yl];rfl,SA6,fun i' x' y' g' a1 a2 a3=>?_,fun m' m0 m1=>?_,(fr3.trans (L2.Fr.same (s4.trans s5))).trans fr6,fun b hb=>KP _ (sub _ hb),(kn.trans (bp.same (s4.trans s5))).trans k6⟩⟩
  ·by_cases c:i' < ys.length
   ·rw[List.getElem?_append_left c] at a3
    exact k6.lf (((ly i' x' y' g' a1 a2 a3).same s4).same s5)
   ·have l3:=(List.getElem?_eq_some_iff.mp a3).1
    rw[List.length_append] at l3
    have ei:i'=ys.length:=by simp at l3;omega
    rw[ei,List.getElem?_append_right (Nat.le_refl _),Nat.sub_self] at a3
    cases a3
    rw[ei,yl,hx] at a1
    cases a1
    have eg:g'=g:=FE a2 lf
    rw[eg]
    exact k6.lf ly5
  ·rw[pt.page gd pin.1 pin.2 m0 m1,Bm,pv m' m0 m1,yl]
 ·rintro σ H3 ⟨v5,ys,nd',fp',rfl,yl,SA3,ly,pv,fr3,sub,kn⟩
  rw[List.length_map,gE] at yl
  rw[List.length_map,gE] at SA3
  walk_at "go"
  exact k3 st ok (fun i il=>all i (by omega)) ys nd' fp' H3 (by omega) (SA3.mono (by omega)) ly pv fr3 sub
end
end K36

set_option maxHeartbeats 4000000
namespace K36
open PySem L2
def Kq (p:Addr)(H H':Hp): Prop:=∀b u,H b=some u->b≠p->H' b=some u
section
variable {p q x dx b:Addr}{H H1 H2:Hp}{o o1 o2 u:HO}
theorem Kq.refl:Kq p H H:=fun _ _ e _=>e
theorem Kq.set (h:Kq p H H1): Kq p H (upd H1 p o):=fun b u e nb=>by rw[av nb];exact h b u e nb
theorem Kq.new (h:Kq p H H1)(hq:H1 q=none): Kq p H (upd H1 q o):=fun b u e nb=>by rw[av (az (h b u e nb) hq)];exact h b u e nb
theorem mkd (hx:H1 x=none)(hd:H1 dx=none)(k:Kq x (upd (upd H1 dx o1) x o2) H2)(e:H1 b=some u): H2 b=some u :=
 k b u (by rw[av (az e hx),av (az e hd)];exact e) (az e hx)
theorem Kq.mk (h:Kq p H H1)(hx:H1 x=none)(hd:H1 dx=none)(k:Kq x (upd (upd H1 dx o1) x o2) H2): Kq p H H2:=fun b u e nb=>mkd hx hd k (h b u e nb)
theorem DL {H0:Hp}(hh:upd H p o=H1)(k:Kq p H0 H): H1 p=some o/\Kq p H0 H1:=by subst hh;exact⟨aq,k.set⟩
theorem Ah (hx:H1 x=none)(hd:H1 dx=none): Same H1 (upd (upd H1 dx o1) x o2):=fun b u e=>by rw[av (az e hx),av (az e hd)];exact e
end
def mU:Sp:=fun _ _ _ _=>False
def JD (C N:Addr)(lo:Int): Sp:=fun vs H Q E=>∃(p dx:Addr) (n:Int),vs=[.ref p,.int n]/\H p=some (.ins C dx [])/\lo<=n/\n<=64/\∀H',Kq p H H'->Q .non H'
def CtE (a:Adr)(H:Hp)(p:Addr)(n:Nat): Prop:=∃dx l,H p=some (.ins a.bV dx [("kept",.ref l)])/\H l=some (.lst ((List.replicate n (0:Int)).map V.int))
def StE (a:Adr)(H:Hp)(p:Addr)(n:Nat): Prop:=∃dx c s ct,H p=some (.ins a.bF dx [("tally",.ref c),("length",.int s),("contents",.ref ct)])/\CtE a H c n
def PlE (a:Adr)(H:Hp)(p:Addr)(n m:Nat): Prop:=∃dx f1 f2 hd s,H p=some (.ins a.bt dx [("frame_store",.ref f1),("slot_store",.ref f2),("hand",.ref hd),("length",.int s)])/\StE a H f1 n/\StE a H f2 m
def JE (a:Adr): Sp:=fun vs H Q _=>∃(p dx:Addr) (n:Int),vs=[.ref p,.int n]/\H p=some (.ins a.bV dx [])/\0<=n/\n<=64/\∀H',CtE a H' p n.toNat->Kq p H H'->Q .non H'
def JF (a:Adr): Sp:=fun vs H Q _=>∃(p dx:Addr) (n s:Int),vs=[.ref p,.int n,.int s]/\H p=some (.ins a.bF dx [])/\1<=s/\s<=64/\0<=n/\n<=64/\∀H',StE a H' p n.toNat->Kq p H H'->Q .non H'
def JG (a:Adr): Sp:=fun vs H Q _=>∃(p dx:Addr) (n m s:Int),vs=[.ref p,.int n,.int m,.int s]/\H p=some (.ins a.bt dx [])/\1<=s/\s<=64/\1<=n/\n<=64/\0<=m/\m<=64/\∀H',PlE a H' p n.toNat m.toNat->Kq p H H'->Q .non H'
def FJ (a:Adr): Sp:=fun vs H Q _=>∃(p:Addr) (n:Nat),vs=[.ref p]/\CtE a H p n/\Q (.int n) H
def CD (a:Adr): Sp:=fun vs H Q _=>∃(p:Addr) (n:Nat),vs=[.ref p]/\StE a H p n/\Q (.int n) H
def FK (a:Adr): Sp:=fun vs H Q _=>∃(p:Addr) (n m:Nat),vs=[.ref p]/\PlE a H p n m/\Q (.int (n+m:Nat)) H
theorem Ai (x:V): ∀n:Nat,(List.replicate n [x]).flatten=List.replicate n x
 | 0=>rfl
 | n+1=>by rw[List.replicate_succ,List.flatten_cons,Ai x n];rfl
theorem StE.kq {a:Adr} {H H':Hp} {p q:Addr} {n:Nat} {C dx:Addr} {fs:List (Str×V)} (h:StE a H p n) (k:Kq q H H') (hq:H q=some (.ins C dx fs)) (n1:¬fs.map (·.1)=[("kept" : Str)]) (n3:¬fs.map (·.1)=[("tally" : Str), "length", "contents"]):StE a H' p n:=by
 obtain⟨d,c,s,ct,h1,d',l,g1,g2⟩:=h
 refine⟨d,c,s,ct,k _ _ h1 fun z=>?_,d',l,k _ _ g1 fun z=>?_,k _ _ g2 (tF g2 hq (by intro z;cases z))⟩
 ·rw[z,hq] at h1;cases h1;exact n3 rfl
 ·rw[z,hq] at g1;cases g1;exact n1 rfl
def OkM (m:Int): Prop:=m=0\/m=1\/m=2\/m=4\/m=8\/m=16\/m=32\/m=64
theorem xu (m:Int): inV (.int m) [.int 0,.int 1,.int 2,.int 4,.int 8,.int 16,.int 32,.int 64]=true↔OkM m:=by
 have e:=o3 m [0,1,2,4,8,16,32,64]
 have e':inV (.int m) [.int 0,.int 1,.int 2,.int 4,.int 8,.int 16,.int 32,.int 64]=decide (m∈[0,1,2,4,8,16,32,64]):=e
 rw[e']
 unfold OkM
 simp
def NrE (a:Adr)(H:Hp)(p ln:Addr): Prop:=∃dx m,H p=some (.ins a.bD dx [("many",.int m),("lines",.ref ln)])/\H ln=some (.dK [])
def JH (a:Adr): Sp:=fun vs H Q E=>∃(p dx:Addr) (m:Int),vs=[.ref p,.int m]/\H p=some (.ins a.bD dx [])/\(OkM m->∀d H',H d=none->NrE a H' p d->Kq p H H'->Q .non H')/\(¬OkM m->E (.ref a.cN) none H)
def JI (a:Adr): Sp:=fun vs H Q _=>∃(p dx:Addr),vs=[.ref p]/\H p=some (.ins a.bJ dx [])/\∀H',Kq p H H'->Q .non H'
def FL (a:Adr): Sp:=fun vs H Q _=>∃(p ln:Addr) (t g:Int),vs=[.ref p,.int t,.int g]/\NrE a H p ln/\∀k:Int,Q (.int k) H
def FN (a:Adr): Sp:=fun vs H Q _=>∃(p ln:Addr) (t g:Int),vs=[.ref p,.int t,.int g]/\NrE a H p ln/\Q .non H
def Ho (a:Adr): Sp:=fun vs H Q _=>∃(p ln:Addr) (t g:Int),vs=[.ref p,.int t,.int g]/\NrE a H p ln/\Q .non H
section
variable {P:Program}{w:World}{K:W.Frag}{mg:Str->Option Value}{base:Heap}{a:Adr}
theorem wg {dvs:List V} (R:bg K a.bF "less" "Store.less" kL ["self", "number"] dvs) (T:Txt w K mg a):aB P w K mg base a.bF 1 "less" ["self", "number"] (mU) dvs:=R.ok vM (fun _ _ _ _ h=>h.elim) (fun _ _ _ _ _ _ _ _ _ _ h=>h.elim)
theorem u_ {dvs:List V} (R:bg K a.cO "unmark" "Hand.unmark" jF ["self", "frame"] dvs) (T:Txt w K mg a):aB P w K mg base a.cO 1 "unmark" ["self", "frame"] (mU) dvs:=R.ok um (fun _ _ _ _ h=>h.elim) (fun _ _ _ _ _ _ _ _ _ _ h=>h.elim)
theorem yI {dvs:List V} (R:bg K a.bt "word" "Pool.word" mw ["self", "frame", "place"] dvs) (T:Txt w K mg a):aB P w K mg base a.bt 1 "word" ["self", "frame", "place"] (mU) dvs:=R.ok yg (fun _ _ _ _ h=>h.elim) (fun _ _ _ _ _ _ _ _ _ _ h=>h.elim)
theorem wj {dvs:List V} (R:bC K mg "note_frame" kR ["memory", "task", "page", "leaf", "frame"] dvs) (T:Txt w K mg a):HasFn P w K mg base 1 "note_frame" ["memory", "task", "page", "leaf", "frame"] (mU) dvs:=R.ok vS (fun _ _ _ _ h=>h.elim) (fun _ _ _ _ _ _ _ _ _ _ h=>h.elim)
theorem wk {dvs:List V} (R:bC K mg "brought_in" kS ["memory", "content"] dvs) (T:Txt w K mg a):HasFn P w K mg base 1 "brought_in" ["memory", "content"] (mU) dvs:=R.ok vT (fun _ _ _ _ h=>h.elim) (fun _ _ _ _ _ _ _ _ _ _ h=>h.elim)
theorem va {dvs:List V} (R:bg K a.bJ "leaf" "Shares.leaf" jH ["self", "name", "part"] dvs) (T:Txt w K mg a):aB P w K mg base a.bJ 1 "leaf" ["self", "name", "part"] (mU) dvs:=R.ok uq (fun _ _ _ _ h=>h.elim) (fun _ _ _ _ _ _ _ _ _ _ h=>h.elim)
theorem vb {dvs:List V} (R:bg K a.bJ "less" "Shares.less" jI ["self", "name"] dvs) (T:Txt w K mg a):aB P w K mg base a.bJ 1 "less" ["self", "name"] (mU) dvs:=R.ok ur (fun _ _ _ _ h=>h.elim) (fun _ _ _ _ _ _ _ _ _ _ h=>h.elim)
theorem mV {dvs:List V} (R:bg K a.bD "forget_frame" "Near.forget_frame" dY ["self", "frame"] dvs) (T:Txt w K mg a):aB P w K mg base a.bD 1 "forget_frame" ["self", "frame"] (mU) dvs:=R.ok mG (fun _ _ _ _ h=>h.elim) (fun _ _ _ _ _ _ _ _ _ _ h=>h.elim)
theorem oA {dvs:List V} (R:eM K a.bV "Counts.__init__" eR ["self", "many"] dvs) (T:Txt w K mg a) :
  cf P w K mg base a.bV 1 ["self", "many"] (JE a) dvs:=by
 refine R.ok oh (fun vs H Q E h=>?_) (fun f cdv A outer s H vs Q E hr h=>?_)
 ·obtain⟨p,dx,n,rfl,_⟩:=h
  rfl
 obtain⟨p,dx,n,rfl,hp,n0,n1,k⟩:=h
 refine⟨_,(@ah _ _ _ _ _ (bx (gH (eQ gq gq au (pv 1) (kb (by rfl) T.i_))) (@ao _ _ _ (cZ T.dO rfl (by rfl) T.fV af (@ae _ _ _ _ _ bd aj rfl))) aS)
   (@ao _ _ _ (bI (pv 0) (aK En (@kB _ _ _ _ (@ae _ _ _ _ _ au aj rfl)) (pv 1)) rfl))),?_⟩
 have t1:=T.iI;have t2:=T.gm
 walk_at "go"
 refine iw (fun c0=>?_) (fun c0=>absurd n0 c0)
 walk_at "go"
 refine qf (fun c1=>absurd n1 c1) (fun c1=>?_)
 refine⟨aP,fun q hq=>⟨_,rfl,q,n,[V.int 0],rfl,rfl,aq,by omega,by omega,?_,fun l hl=>?_⟩⟩
 ·rw[sizeLine_eq];show 1*n.toNat<=_;omega
 ·have lp:l≠p:=fun z=>by
   rw[z,av (az hp hq),hp] at hl;cases hl
  walk_at "go"
  refine k _ ⟨dx,l,aq,?_⟩ (((Kq.refl.new hq).new hl).set)
  rw[av lp,aq,List.map_replicate,Ai]
theorem qQ {dvs:List V} (R:eM K a.cO "Hand.__init__" gQ ["self", "many"] dvs) (T:Txt w K mg a) :
  cf P w K mg base a.cO 1 ["self", "many"] (JD a.cO a.cN 1) dvs:=by
 refine R.ok qA (fun vs H Q E h=>?_) (fun f cdv A outer s H vs Q E hr h=>?_)
 ·obtain⟨p,dx,n,rfl,_⟩:=h
  rfl
 obtain⟨p,dx,n,rfl,hp,n0,n1,k⟩:=h
 refine⟨_,(@ah _ _ _ _ _ (bx (gH (eQ gq gq au (pv 1) (kb (by rfl) T.jS))) (@ao _ _ _ (cZ T.dO rfl (by rfl) T.fV af (@ae _ _ _ _ _ bd aj rfl))) aS)
   (@ah _ _ _ _ _ (bI (pv 0) (aK En (@kB _ _ _ _ (@ae _ _ _ _ _ BM aj rfl)) (pv 1)) rfl)
   (@ao _ _ _ (bI (pv 0) au rfl)))),?_⟩
 have t1:=T.tq;have t2:=T.jO;have t3:=T.gY
 walk_at "go"
 refine iw (fun c0=>?_) (fun c0=>absurd n0 c0)
 walk_at "go"
 refine qf (fun c1=>absurd n1 c1) (fun c1=>?_)
 refine⟨aP,fun q hq=>⟨_,rfl,q,n,[V.bl false],rfl,rfl,aq,by omega,by omega,?_,fun l hl=>?_⟩⟩
 ·rw[sizeLine_eq];show 1*n.toNat<=_;omega
 ·walk_at "go"
  exact k _ (((Kq.refl.new hq).new hl).set.set)
theorem pW {dvs:List V} (R:eM K a.bF "Store.__init__" fQ ["self", "many", "size"] dvs) (T:Txt w K mg a)
  (fD:cf P w K mg base a.bV 1 ["self", "many"] (JE a) []) :
  cf P w K mg base a.bF 3 ["self", "many", "size"] (JF a) dvs:=by
 refine R.ok px (fun vs H Q E h=>?_) (fun f cdv A outer s H vs Q E hr h=>?_)
 ·obtain⟨p,dx,n,s,rfl,_⟩:=h
  rfl
 obtain⟨p,dx,n,s,rfl,hp,s1,s2,n0,n1,k⟩:=h
 refine⟨_,(@ah _ _ _ _ _ (bx (gH (eQ gq gq au (pv 2) (kb (by rfl) T.lh))) (@ao _ _ _ (cZ T.dO rfl (by rfl) T.fV af (@ae _ _ _ _ _ bd aj rfl))) aS)
   (@ah _ _ _ _ _ (bI (pv 0) (iP fD (hr.mono (by decide)) (by rfl) T.Fq af (@ae _ _ _ _ _ (pv 1) aj rfl)) rfl)
   (@ah _ _ _ _ _ (bI (pv 0) (pv 2) rfl)
   (@ao _ _ _ (bI (pv 0) gw rfl))))),?_⟩
 have t1:=T.eZ;have t2:=T.gn;have t3:=T.i7;have t4:=T.fU
 walk_at "go"
 refine iw (fun c0=>?_) (fun c0=>absurd s1 c0)
 walk_at "go"
 refine qf (fun c1=>absurd s2 c1) (fun c1=>?_)
 walk_at "go"
 intro x dx' hx hdx nx
 refine⟨x,dx',n,rfl,aq,n0,n1,fun H1 C1 kp=>⟨rfl,?_⟩⟩
 have hp1:=mkd hx hdx kp hp
 have npx:=az hp hx
 walk_at "go"
 intro d hd
 have hdp:d≠p:=fun z=>by rw[z,aq] at hd;cases hd
 walk_at "go"
 obtain⟨dc,l,g1,g2⟩:=C1
 exact k _ ⟨dx,x,s,d,aq,dc,l,((Kq.refl (p:=p) (H:=H1)).set.set.new hd).set _ _ g1 npx.symm,((Kq.refl (p:=p) (H:=H1)).set.set.new hd).set _ _ g2 (tF g2 hp1 (by intro z;cases z))⟩ (((Kq.refl.mk hx hdx kp).set.set.new hd).set)
theorem qR {dvs:List V} (R:eM K a.bt "Pool.__init__" gR ["self", "frames", "slots", "size"] dvs) (T:Txt w K mg a)
  (dQ:cf P w K mg base a.bF 3 ["self", "many", "size"] (JF a) [])
  (hU:cf P w K mg base a.cO 1 ["self", "many"] (JD a.cO a.cN 1) []) :
  cf P w K mg base a.bt 5 ["self", "frames", "slots", "size"] (JG a) dvs:=by
 refine R.ok qB (fun vs H Q E h=>?_) (fun f cdv A outer s H vs Q E hr h=>?_)
 ·obtain⟨p,dx,n,m,s,rfl,_⟩:=h
  rfl
 obtain⟨p,dx,n,m,s,rfl,hp,s1,s2,n0,n1,m0,m1,k⟩:=h
 refine⟨_,(@ah _ _ _ _ _ (bI (pv 0) (iP dQ (hr.mono (by decide)) (by rfl) T.Ci af (@ae _ _ _ _ _ (pv 1) (@ae _ _ _ _ _ (pv 3) aj rfl) rfl)) rfl)
   (@ah _ _ _ _ _ (bI (pv 0) (iP dQ (hr.mono (by decide)) (by rfl) T.Ci af (@ae _ _ _ _ _ (pv 2) (@ae _ _ _ _ _ (pv 3) aj rfl) rfl)) rfl)
   (@ah _ _ _ _ _ (bI (pv 0) (iP hU (hr.mono (by decide)) (by rfl) T.IA af (@ae _ _ _ _ _ (pv 1) aj rfl)) rfl)
   (@ao _ _ _ (bI (pv 0) (pv 3) rfl))))),?_⟩
 have t1:=T.fb;have t2:=T.cX;have t3:=T.di;have t4:=T.mI;have t5:=T.jP
 walk_at "go"
 refine fun x1 d1 hx1 hd1 _=>⟨x1,d1,n,s,rfl,aq,s1,s2,by omega,n1,fun H1 S1 q1=>⟨rfl,?_⟩⟩
 have hp1:=mkd hx1 hd1 q1 hp
 have r1:=Kq.refl (p:=p) |>.mk hx1 hd1 q1
 walk_at "go"
 generalize hA:upd H1 p _=HA
 obtain⟨hpA,rA⟩:=DL hA r1
 have k1A:Kq p H1 HA:=by rw[<-hA];exact Kq.refl.set
 clear hA
 refine fun x2 d2 hx2 hd2 _=>⟨x2,d2,m,s,rfl,aq,s1,s2,m0,m1,fun H2 S2 q2=>⟨rfl,?_⟩⟩
 have hp2:=mkd hx2 hd2 q2 hpA
 have r2:=rA.mk hx2 hd2 q2
 have k12:=k1A.mk hx2 hd2 q2
 walk_at "go"
 generalize hB:upd H2 p _=HB
 obtain⟨hpB,rB⟩:=DL hB r2
 have k2B:Kq p H2 HB:=by rw[<-hB];exact Kq.refl.set
 have k1B:Kq p H1 HB:=by rw[<-hB];exact k12.set
 clear hB
 refine fun x3 d3 hx3 hd3 _=>⟨x3,d3,n,rfl,aq,n0,n1,fun H3 q3=>⟨rfl,?_⟩⟩
 have hp3:=mkd hx3 hd3 q3 hpB
 walk_at "go"
 have f1:=(k1B.mk hx3 hd3 q3).set (o:=.ins a.bt dx [("frame_store",.ref x1),("slot_store",.ref x2),("hand",.ref x3)]) |>.set (o:=.ins a.bt dx [("frame_store",.ref x1),("slot_store",.ref x2),("hand",.ref x3),("length",.int s)])
 have f2:=(k2B.mk hx3 hd3 q3).set (o:=.ins a.bt dx [("frame_store",.ref x1),("slot_store",.ref x2),("hand",.ref x3)]) |>.set (o:=.ins a.bt dx [("frame_store",.ref x1),("slot_store",.ref x2),("hand",.ref x3),("length",.int s)])
 exact k _ ⟨dx,x1,x2,x3,s,aq,S1.kq f1 hp1 (by decide +kernel) (by decide +kernel),S2.kq f2 hp2 (show ¬[("frame_store" : Str)]=[("kept" : Str)] by decide +kernel) (show ¬[("frame_store" : Str)]=[("tally" : Str), "length", "contents"] by decide +kernel)⟩ ((rB.mk hx3 hd3 q3).set.set)
theorem vd {dvs:List V} (R:bg K a.bV "free" "Counts.free" jE ["self"] dvs) (T:Txt w K mg a) :
  aB P w K mg base a.bV 1 "free" ["self"] (FJ a) dvs:=by
 refine R.ok uk (fun vs H Q E h=>?_) (fun f cdv A outer s H vs Q E hr h=>?_)
 ·obtain⟨p,n,rfl,_⟩:=h
  rfl
 obtain⟨p,n,rfl,C,k⟩:=h
 refine⟨_,(@ao _ _ _ (@aI _ _ _ _ (El PySem.F.plainAttrs_list PySem.F.slot_list_count PySem.F.type_list_count EB (aJ (pv 0) rfl) (@ae _ _ _ _ _ au aj rfl)))),?_⟩
 have t1:=T.iI;have t2:=T.gm
 obtain⟨dx,l,h1,h2⟩:=C
 walk_at "go"
 have e:(List.replicate n (0:Int)).count 0=n:=by rw[List.count_replicate_self]
 rw[e]
 exact k
theorem wn {dvs:List V} (R:bg K a.bF "free" "Store.free" kK ["self"] dvs) (T:Txt w K mg a)
  (jX:aB P w K mg base a.bV 1 "free" ["self"] (FJ a) []) :
  aB P w K mg base a.bF 2 "free" ["self"] (CD a) dvs:=by
 refine R.ok vL (fun vs H Q E h=>?_) (fun f cdv A outer s H vs Q E hr h=>?_)
 ·obtain⟨p,n,rfl,_⟩:=h
  rfl
 obtain⟨p,n,rfl,S,k⟩:=h
 refine⟨_,(@ao _ _ _ (@aI _ _ _ _ (gI (aJ (pv 0) rfl) T.iI jX (hr.mono (by decide)) af))),?_⟩
 have t1:=T.eZ;have t2:=T.gn;have t3:=T.iI
 obtain⟨dx,c,s,ct,h1,C⟩:=S
 have CA:=C
 obtain⟨dc,l,h2,h3⟩:=C
 walk_at "go"
 exact k
theorem yJ {dvs:List V} (R:bg K a.bt "room" "Pool.room" mq ["self"] dvs) (T:Txt w K mg a)
  (iF:aB P w K mg base a.bF 2 "free" ["self"] (CD a) []) :
  aB P w K mg base a.bt 3 "room" ["self"] (FK a) dvs:=by
 refine R.ok yd (fun vs H Q E h=>?_) (fun f cdv A outer s H vs Q E hr h=>?_)
 ·obtain⟨p,n,m,rfl,_⟩:=h
  rfl
 obtain⟨p,n,m,rfl,S,k⟩:=h
 refine⟨_,(@ao _ _ _ (@aI _ _ _ _ (aK dj (gI (aJ (pv 0) rfl) T.eZ iF (hr.mono (by decide)) af) (gI (aJ (pv 0) rfl) T.eZ iF (hr.mono (by decide)) af)))),?_⟩
 have t1:=T.fb;have t2:=T.cX;have t3:=T.di;have t4:=T.eZ
 obtain⟨dx,f1,f2,hd,s,h1,S1,S2⟩:=S
 have A1:=S1
 have A2:=S2
 obtain⟨dx1,c1,s1,ct1,g1,_⟩:=S1
 obtain⟨dx2,c2,s2,ct2,g2,_⟩:=S2
 walk_at "go"
 exact k
theorem qS {dvs:List V} (R:eM K a.bD "Near.__init__" gS ["self", "many"] dvs) (T:Txt w K mg a) :
  cf P w K mg base a.bD 1 ["self", "many"] (JH a) dvs:=by
 refine R.ok qC (fun vs H Q E h=>?_) (fun f cdv A outer s H vs Q E hr h=>?_)
 ·obtain⟨p,dx,m,rfl,_⟩:=h
  rfl
 obtain⟨p,dx,m,rfl,hp,k1,k2⟩:=h
 refine⟨_,(@ah _ _ _ _ _ (bx (aV kD (pv 1) (jn (v:=.ref a.k8) (by rfl) T.GX rfl) (by with_unfolding_all rfl)) (@ao _ _ _ (cZ T.dO rfl (by rfl) T.fV af (@ae _ _ _ _ _ bd aj rfl))) aS)
   (@ah _ _ _ _ _ (bI (pv 0) (pv 1) rfl)
   (@ao _ _ _ (bI (pv 0) gw rfl)))),?_⟩
 have t1:=T.dh;have t2:=T.jq;have t3:=T.fe
 have qs:=T.GY H
 walk_at "go"
 rw[if_pos rfl]
 cases e:inV (V.int m) [.int 0,.int 1,.int 2,.int 4,.int 8,.int 16,.int 32,.int 64] with
 | false =>
  walk_at "go"
  exact k2 fun z=>by rw[(xu m).mpr z] at e;cases e
 | true =>
  walk_at "go"
  intro d hd
  have hdp:d≠p:=fun z=>by rw[z,aq] at hd;cases hd
  have hd0:H d=none:=by rw[av hdp] at hd;exact hd
  walk_at "go"
  exact k1 ((xu m).mp e) d _ hd0 ⟨dx,m,aq,by rw[av hdp];exact aq⟩ ((Kq.refl.set.new hd).set)
theorem oB {dvs:List V} (R:eM K a.bJ "Shares.__init__" eS ["self"] dvs) (T:Txt w K mg a) :
  cf P w K mg base a.bJ 1 ["self"] (JI a) dvs:=by
 refine R.ok oi (fun vs H Q E h=>?_) (fun f cdv A outer s H vs Q E hr h=>?_)
 ·obtain⟨p,dx,rfl,_⟩:=h
  rfl
 obtain⟨p,dx,rfl,hp,k⟩:=h
 refine⟨_,(@ao _ _ _ (bI (pv 0) gw rfl)),?_⟩
 have t1:=T.ki;have t2:=T.jQ
 walk_at "go"
 intro d hd
 have pd:=az hp hd
 walk_at "go"
 exact k _ ((Kq.refl.new hd).set)
theorem pX {dvs:List V} (R:bg K a.bD "place_for" "Near.place_for" fR ["self", "task", "page"] dvs) (T:Txt w K mg a) :
  aB P w K mg base a.bD 1 "place_for" ["self", "task", "page"] (FL a) dvs:=by
 refine R.ok pz (fun vs H Q E h=>?_) (fun f cdv A outer s H vs Q E hr h=>?_)
 ·obtain⟨p,ln,t,g,rfl,_⟩:=h
  rfl
 obtain⟨p,ln,t,g,rfl,N,k⟩:=h
 refine⟨_,(@ao _ _ _ (@aI _ _ _ _ (aK xE (aK HN (pv 2) (pv 1)) (aK l7 (aJ (pv 0) rfl) au)))),?_⟩
 have t1:=T.dh;have t2:=T.jq
 obtain⟨dx,m,h1,h2⟩:=N
 walk_at "go"
 exact k _
theorem wo {dvs:List V} (R:bg K a.bD "found" "Near.found" kM ["self", "task", "page"] dvs) (T:Txt w K mg a)
  (cr:aB P w K mg base a.bD 1 "place_for" ["self", "task", "page"] (FL a) []) :
  aB P w K mg base a.bD 2 "found" ["self", "task", "page"] (FN a) dvs:=by
 refine R.ok nN (fun vs H Q E h=>?_) (fun f cdv A outer s H vs Q E hr h=>?_)
 ·obtain⟨p,ln,t,g,rfl,_⟩:=h
  rfl
 obtain⟨p,ln,t,g,rfl,N,k⟩:=h
 refine⟨_,(@ah _ _ _ _ _ (@aN _ _ 3 _ _ _ _ nN.nd rfl (by first | exact Or.inl rfl | exact Or.inr rfl) (Er hr.u1 (aJ (pv 0) rfl) (bu (pv 0) T.dh cr (hr.mono (by decide)) af (@ae _ _ _ _ _ (pv 1) (@ae _ _ _ _ _ (pv 2) aj rfl) rfl)) ⟨rfl,rfl,rfl,rfl⟩) (by rfl) (by first | exact Or.inl rfl | exact Or.inr rfl))
   (@ah _ _ _ _ _ (bx (PW.pt (y7 (aV xF (pv 3) gG (bH _)) (xB (aV (AQ hr.units) (j7 tN (pv 3) oS (kC au)) (@b8 _ _ _ _ _ (@ae _ _ _ _ _ (pv 1) (@ae _ _ _ _ _ (pv 2) aj rfl) rfl)) (bH _))))) (@ao _ _ _ (@aI _ _ _ _ gG)) aS)
   (@ao _ _ _ (@aI _ _ _ _ (j7 tN (pv 3) (kC au) oS))))),?_⟩
 have t1:=T.dh;have t3:=T.fe
 have NA:=N
 obtain⟨dx,m,h1,h2⟩:=N
 walk_at "go"
 refine⟨.inl ⟨[],.inl h2⟩,?_⟩
 walk_at "go"
 refine fun k0=>⟨none,lW.k (k:=Sum.inl k0) h2,?_⟩
 walk_at "go"
 refine iw (fun _=>?_) fun z=>absurd rfl z
 walk_at "go"
 exact k
theorem ve {dvs:List V} (R:bg K a.bD "forget" "Near.forget" jG ["self", "task", "page"] dvs) (T:Txt w K mg a)
  (dR:aB P w K mg base a.bD 2 "found" ["self", "task", "page"] (FN a) [])
  (cr:aB P w K mg base a.bD 1 "place_for" ["self", "task", "page"] (FL a) []) :
  aB P w K mg base a.bD 3 "forget" ["self", "task", "page"] (Ho a) dvs:=by
 refine R.ok uo (fun vs H Q E h=>?_) (fun f cdv A outer s H vs Q E hr h=>?_)
 ·obtain⟨p,ln,t,g,rfl,_⟩:=h
  rfl
 obtain⟨p,ln,t,g,rfl,N,k⟩:=h
 refine⟨_,(@ao _ _ _ (bx (aV xG (bu (pv 0) T.dh dR (hr.mono (by decide)) af (@ae _ _ _ _ _ (pv 1) (@ae _ _ _ _ _ (pv 2) aj rfl) rfl)) gG (bH _)) (@ao _ _ _ (aT (tQ (aJ (pv 0) rfl) (bu (pv 0) T.dh cr (hr.mono (by decide)) af (@ae _ _ _ _ _ (pv 1) (@ae _ _ _ _ _ (pv 2) aj rfl) rfl)) ⟨rfl,rfl,rfl,rfl⟩))) aS)),?_⟩
 have t1:=T.dh;have t3:=T.fe
 have NA:=N
 obtain⟨dx,m,h1,h2⟩:=N
 walk_at "go"
 refine qf (fun z=>absurd rfl z) fun _=>?_
 walk_at "go"
 exact k
end
end K36

set_option maxHeartbeats 4000000
namespace K36
open PySem L2
structure RwL (H:Hp)(l:Addr)(ts:List Addr)(gs:List Lf): Prop where
 hl:H l=some (.lst (ts.map V.ref))
 len:ts.length=gs.length
 at':∀(i:Nat) t g,ts[i]?=some t->gs[i]?=some g->H t=some (.tup g.row)
structure Lvs (a:Adr)(H:Hp)(xs:List Addr)(gs:List Lf): Prop where
 len:xs.length=gs.length
 at':∀(i:Nat) x g,xs[i]?=some x->gs[i]?=some g->ez a H x g
theorem Lvs.same {a:Adr}{H H':Hp}{xs:List Addr}{gs:List Lf}(r:Lvs a H xs gs)(s:Same H H'): Lvs a H' xs gs:=⟨r.len,fun i x g h1 h2=>(r.at' i x g h1 h2).same s⟩
theorem Lvs.mR {a:Adr}{H H':Hp}{xs:List Addr}{gs:List Lf}(r:Lvs a H xs gs)(s:bp H H'): Lvs a H' xs gs:=⟨r.len,fun i x g h1 h2=>s.lf (r.at' i x g h1 h2)⟩
theorem Lvs.get {a:Adr}{H:Hp}{xs:List Addr}{gs:List Lf}(r:Lvs a H xs gs){i:Nat}{x:Addr}(h:xs[i]?=some x): ∃g,gs[i]?=some g/\ez a H x g:=by
 have il:=(List.getElem?_eq_some_iff.mp h).1
 have e:gs[i]?=some (gs[i]'(by rw[<-r.len];exact il)):=List.getElem?_eq_getElem _
 exact⟨_,e,r.at' i x _ h e⟩
theorem Lvs.mem {a:Adr}{H:Hp}{xs:List Addr}{gs:List Lf}(r:Lvs a H xs gs): ∀x∈xs,∃g,ez a H x g:=fun x hx=>by
 obtain⟨i,il,rfl⟩:=List.mem_iff_getElem.mp hx
 obtain⟨g,_,h⟩:=r.get (List.getElem?_eq_getElem il)
 exact⟨g,h⟩
theorem Lvs.snoc {a:Adr}{H:Hp}{x:Addr}{xs:List Addr}{gs:List Lf}{g:Lf}(r:Lvs a H xs gs)(hx:ez a H x g): Lvs a H (xs++[x]) (gs++[g]):=by
 refine⟨by rw[List.length_append,List.length_append,r.len];rfl,fun i t' g' h1 h2=>?_⟩
 by_cases c:i < xs.length
 ·rw[List.getElem?_append_left c] at h1
  rw[List.getElem?_append_left (by rw[<-r.len];exact c)] at h2
  exact r.at' i t' g' h1 h2
 ·have il:=(List.getElem?_eq_some_iff.mp h1).1
  rw[List.length_append] at il
  have ei:i=xs.length:=by simp at il;omega
  rw[ei,List.getElem?_append_right (Nat.le_refl _),Nat.sub_self] at h1
  rw[ei,r.len,List.getElem?_append_right (Nat.le_refl _),Nat.sub_self] at h2
  cases h1;cases h2
  exact hx
theorem Lvs.FG {a:Adr}{H H':Hp}{xs:List Addr}{gs:List Lf}(r:Lvs a H xs gs)(s:ju H H'): Lvs a H' xs gs:=⟨r.len,fun i x g h1 h2=>s.lf (r.at' i x g h1 h2)⟩
abbrev Mf:=Int->Option Lf
structure Ab (a:Adr)(H:Hp)(ns:List Int)(nd:Ix->Option Addr)(M:Mf): Prop where
 no:∀n,0<=n->n < pgs ns->M n=none->nd (parts ns n)=none
 so:∀n g,0<=n->n < pgs ns->M n=some g->∃x,nd (parts ns n)=some x/\ez a H x g
theorem Ab.kept {a:Adr}{H H':Hp}{ns:List Int}{nd:Ix->Option Addr}{M:Mf}(A:Ab a H ns nd M)(s:bp H H'): Ab a H' ns nd M :=
 ⟨A.no,fun n g h1 h2 h3=>let ⟨x,e1,e2⟩:=A.so n g h1 h2 h3;⟨x,e1,s.lf e2⟩⟩
theorem Ab.same {a:Adr}{H H':Hp}{ns:List Int}{nd:Ix->Option Addr}{M:Mf}(A:Ab a H ns nd M)(s:Same H H'): Ab a H' ns nd M:=A.kept (bp.same s)
def Mf.lay (M:Mf)(n:Int)(gs:List Lf): Mf:=fun m=>if n<=m/\m < n+gs.length then gs[(m-n).toNat]? else M m
def Mf.gone (M:Mf)(n k:Int): Mf:=fun m=>if n<=m/\m < n+k then none else M m
def Mf.chg (M:Mf)(n k r:Int): Mf:=fun m=>if n<=m/\m < n+k then (M m).map (Lf.rL r) else M m
theorem Ab.lay {a:Adr}{H H':Hp}{ns:List Int}{nd nd':Ix->Option Addr}{M:Mf}{n:Int}{xs:List Addr}{gs:List Lf}(A:Ab a H ns nd M)(k:bp H H')(pv:∀m,0<=m->m < pgs ns->nd' (parts ns m)=fB (fun m=>nd (parts ns m)) n xs m)(lv:Lvs a H' xs gs): Ab a H' ns nd' (M.lay n gs):=by
 refine⟨fun m h1 h2 h3=>?_,fun m g' h1 h2 h3=>?_⟩
 ·rw[pv m h1 h2]
  unfold fB
  unfold Mf.lay at h3
  by_cases c:n<=m/\m < n+gs.length
  ·rw[if_pos c] at h3
   rw[List.getElem?_eq_getElem (by omega)] at h3
   cases h3
  ·rw[if_neg c] at h3
   rw[lv.len,if_neg c]
   exact A.no m h1 h2 h3
 ·rw[pv m h1 h2]
  unfold fB
  unfold Mf.lay at h3
  by_cases c:n<=m/\m < n+gs.length
  ·rw[if_pos c] at h3
   rw[lv.len,if_pos c]
   have e:xs[(m-n).toNat]?=some (xs[(m-n).toNat]'(by rw[lv.len];omega)):=List.getElem?_eq_getElem _
   exact⟨_,e,lv.at' _ _ _ e h3⟩
  ·rw[if_neg c] at h3
   rw[lv.len,if_neg c]
   obtain⟨y,e1,e2⟩:=A.so m g' h1 h2 h3
   exact⟨y,e1,k.lf e2⟩
theorem Ab.gone {a:Adr}{H H':Hp}{ns:List Int}{nd nd':Ix->Option Addr}{M:Mf}{n j:Int}(A:Ab a H ns nd M)(k:bp H H')(pv:∀m,0<=m->m < pgs ns->nd' (parts ns m)=rQ (fun m=>nd (parts ns m)) n j m): Ab a H' ns nd' (M.gone n j):=by
 refine⟨fun m h1 h2 h3=>?_,fun m g' h1 h2 h3=>?_⟩
 ·rw[pv m h1 h2]
  unfold rQ
  unfold Mf.gone at h3
  by_cases c:n<=m/\m < n+j
  ·rw[if_pos c]
  ·rw[if_neg c] at h3
   rw[if_neg c]
   exact A.no m h1 h2 h3
 ·rw[pv m h1 h2]
  unfold rQ
  unfold Mf.gone at h3
  by_cases c:n<=m/\m < n+j
  ·rw[if_pos c] at h3;cases h3
  ·rw[if_neg c] at h3
   rw[if_neg c]
   obtain⟨y,e1,e2⟩:=A.so m g' h1 h2 h3
   exact⟨y,e1,k.lf e2⟩
theorem Ab.chg {a:Adr}{H H':Hp}{ns:List Int}{nd nd':Ix->Option Addr}{M:Mf}{n j r:Int}{ys:List Addr}(A:Ab a H ns nd M)(k:bp H H')(yl:(ys.length:Int)=j)(all:∀i:Nat,(i:Int) < j->(nd (parts ns (n+i))).isSome=true)
  (ly:∀(i:Nat) x y g,nd (parts ns (n+i))=some x->ez a H x g->ys[i]?=some y->ez a H' y (g.rL r)) (pv:∀m,0<=m->m < pgs ns->nd' (parts ns m)=fB (fun m=>nd (parts ns m)) n ys m):Ab a H' ns nd' (M.chg n j r):=by
 refine⟨fun m h1 h2 h3=>?_,fun m g' h1 h2 h3=>?_⟩
 ·rw[pv m h1 h2]
  unfold fB
  unfold Mf.chg at h3
  rw[yl]
  by_cases c:n<=m/\m < n+j
  ·rw[if_pos c,Option.map_eq_none_iff] at h3
   have:=all (m-n).toNat (by omega)
   rw[show n+((m-n).toNat:Int)=m by omega,A.no m h1 h2 h3] at this
   cases this
  ·rw[if_neg c] at h3
   rw[if_neg c]
   exact A.no m h1 h2 h3
 ·rw[pv m h1 h2]
  unfold fB
  unfold Mf.chg at h3
  rw[yl]
  by_cases c:n<=m/\m < n+j
  ·rw[if_pos c,Option.map_eq_some_iff] at h3
   obtain⟨g,hg,rfl⟩:=h3
   obtain⟨x,e1,e2⟩:=A.so m g h1 h2 hg
   rw[if_pos c]
   have e:ys[(m-n).toNat]?=some (ys[(m-n).toNat]'(by omega)):=List.getElem?_eq_getElem _
   exact⟨_,e,ly (m-n).toNat x _ g (by rw[show n+((m-n).toNat:Int)=m by omega];exact e1) e2 e⟩
  ·rw[if_neg c] at h3
   rw[if_neg c]
   obtain⟨y,e1,e2⟩:=A.so m g' h1 h2 h3
   exact⟨y,e1,k.lf e2⟩
theorem Ab.isS {a:Adr}{H:Hp}{ns:List Int}{nd:Ix->Option Addr}{M:Mf}(A:Ab a H ns nd M){m:Int}(h1:0<=m)(h2:m < pgs ns): (nd (parts ns m)).isSome=(M m).isSome:=by
 cases e:M m with
 | none=>rw[A.no m h1 h2 e];rfl
 | some g=>obtain⟨x,e1,_⟩:=A.so m g h1 h2 e;rw[e1];rfl
theorem Ab.leaf {a:Adr}{H:Hp}{ns:List Int}{nd:Ix->Option Addr}{M:Mf}(A:Ab a H ns nd M){m:Int}{x:Addr}(h1:0<=m)(h2:m < pgs ns)(h:nd (parts ns m)=some x): ∃g,M m=some g/\ez a H x g:=by
 cases e:M m with
 | none=>rw[A.no m h1 h2 e] at h;cases h
 | some g=>obtain⟨y,e1,e2⟩:=A.so m g h1 h2 e;rw[e1] at h;cases h;exact⟨g,rfl,e2⟩
structure Me (a:Adr)(H:Hp)(p d nr ln sh pl:Addr)(ns:List Int)(low:Int)(ks:List Int)(w:Int): Prop where
 ob:∃dx ss,H p=some (.ins a.a_ dx [("shape",.ref sh),("pool",.ref pl),("near",.ref nr),("shares",.ref ss),("spaces",.ref d),("walks",.int w)])
 ne:NrE a H nr ln
 sh:eN a.aw H sh ns low
 gd:Good ns low
 pe:PlE a H pl 1 0
 nd:d≠ln
theorem Me.keep {a:Adr}{H H':Hp}{p d nr ln sh pl:Addr}{ns ks:List Int}{low w:Int}(M:Me a H p d nr ln sh pl ns low ks w)(k:bp H H')(hl:H' ln=some (.dK [])): Me a H' p d nr ln sh pl ns low ks w:=by
 obtain⟨⟨dx,ss,h1⟩,⟨dn,m,n1,_⟩,h3,h4,⟨dp,f1,f2,hd,s,p1,⟨dx1,c1,s1,ct1,q1,dc1,l1,q2,q3⟩,⟨dx2,c2,s2,ct2,r1,dc2,l2,r2,r3⟩⟩,h6⟩:=M
 exact⟨⟨dx,ss,k.ins h1⟩,⟨dn,m,k.ins n1,hl⟩,k.sh h3,h4,⟨dp,f1,f2,hd,s,k.ins p1,⟨dx1,c1,s1,ct1,k.ins q1,dc1,l1,k.ins q2,k.lst q3⟩,⟨dx2,c2,s2,ct2,k.ins r1,dc2,l2,k.ins r2,k.lst r3⟩⟩,h6⟩
theorem Me.same {a:Adr}{H H':Hp}{p d nr ln sh pl:Addr}{ns ks:List Int}{low w:Int}(M:Me a H p d nr ln sh pl ns low ks w)(s:Same H H'): Me a H' p d nr ln sh pl ns low ks w :=
 M.keep (bp.same s) (let ⟨_,_,_,h⟩:=M.ne;s _ _ h)
def Frs (M:Mf): Prop:=∀n g,M n=some g->∃r,g=.fresh r/\OkR r
def eB (m:Nat)(r:Int): List Lf:=List.replicate m (.fresh r)
structure Sk (a:Adr)(H:Hp)(x:Addr)(ns:List Int)(low t:Int)(fp:List Addr)(cn:Nat)(M:Mf): Prop where
 sp:∃nd,eA a H x ns low t nd fp cn/\Ab a H ns nd M
 fr:Frs M
 inn:∀n g,M n=some g->0<=n/\n < pgs ns
def vf (a:Adr): Sp:=fun vs H Q E=>∃(p d nr ln sh pl:Addr) (ns ks:List Int) (low w t n m:Int),vs=[.ref p,.int t,.int n,.int m]/\Me a H p d nr ln sh pl ns low ks w/\eu ns n m/\∀H',Same H H'->Q .non H'
def vg (a:Adr): Sp:=fun vs H Q E=>∃(p d nr ln sh pl:Addr) (ns ks:List Int) (low w t:Int) (kvs:List (Key×V)) (x:Addr),vs=[.ref p,.int t]/\Me a H p d nr ln sh pl ns low ks w/\H d=some (.dK kvs)/\bf kvs (.inl t)=some (.ref x)/\Q (.ref x) H
def CF (a:Adr): Sp:=fun vs H Q E=>∃(p d nr ln sh pl:Addr) (ns ks:List Int) (low w:Int),vs=[.ref p]/\Me a H p d nr ln sh pl ns low ks w/\Q (.int 1) H
def CG (a:Adr): Sp:=fun vs H Q E=>∃(p x:Addr) (r:Int),vs=[.ref p,.ref x]/\PlE a H p 1 0/\ez a H x (.fresh r)/\Q .non H
def DM (a:Adr): Sp:=fun vs H Q E=>∃(p d nr ln sh pl x:Addr) (ns ks:List Int) (low w r:Int),vs=[.ref p,.ref x]/\Me a H p d nr ln sh pl ns low ks w/\ez a H x (.fresh r)/\Q .non H
def Hq (a:Adr): Sp:=fun vs H Q E=>∃(p x:Addr) (r:Int),vs=[.ref p,.ref x]/\ez a H x (.fresh r)/\Q (.ref x) H
def Hr (a:Adr): Sp:=fun vs H Q E=>∃(p x:Addr) (t pg pc r:Int),vs=[.ref p,.int t,.int pg,.int pc,.ref x]/\ez a H x (.fresh r)/\Q (.int 0) H
def Ht (a:Adr): Sp:=fun vs H Q E=>∃(p d nr ln sh pl:Addr) (ns ks:List Int) (low w t n:Int) (dd:Str),vs=[.ref p,.int t,.int n,.str dd]/\Me a H p d nr ln sh pl ns low ks w/\(0<=n/\n < pgs ns*plc low->Q .non H)/\(¬(0<=n/\n < pgs ns*plc low)->E (.ref a.aD) none H)
section
variable {P:Program}{w:World}{K:W.Frag}{mg:Str->Option Value}{base:Heap}{a:Adr}
theorem Aj {dvs:List V} (R:bC K mg "space_of" n_ ["memory", "task"] dvs) (T:Txt w K mg a) :
  HasFn P w K mg base 1 "space_of" ["memory", "task"] (vg a) dvs:=by
 refine R.ok zO (fun vs H Q E h=>?_) (fun f cdv A outer s H vs Q E hr h=>?_)
 ·obtain⟨p,d,nr,ln,sh,pl,ns,ks,low,w',t,kvs,x,rfl,_⟩:=h
  rfl
 obtain⟨p,d,nr,ln,sh,pl,ns,ks,low,w',t,kvs,x,rfl,M,hd,hv,k⟩:=h
 refine⟨_,(@ah _ _ _ _ _ (bx (aV (ke hr.u1) (pv 1) (aJ (pv 0) rfl) (by with_unfolding_all rfl)) (@ao _ _ _ (cZ T.uE rfl (by rfl) T.Fp af (@ae _ _ _ _ _ bd aj rfl))) aS)
   (@ao _ _ _ (@aI _ _ _ _ (sZ hr.u1 (aJ (pv 0) rfl) (pv 1) (fun _ _=>rfl))))),?_⟩
 have t1:=T.b6;have t2:=T.cB
 obtain⟨⟨dx,ss,h1⟩,h2,h3,h4,h5,h6⟩:=M
 have gg:=lW.k (k:=Sum.inl t) hd
 rw[hv] at gg
 walk_at "go"
 exact k
theorem sR {dvs:List V} (R:bC K mg "forget_pages" i3 ["memory", "task", "first", "many"] dvs) (T:Txt w K mg a)
  (aU:aB P w K mg base a.aw 2 "stretch" ["self", "first", "many"] (iJ a) [])
  (jY:aB P w K mg base a.bD 3 "forget" ["self", "task", "page"] (Ho a) []) :
  HasFn P w K mg base 4 "forget_pages" ["memory", "task", "first", "many"] (vf a) dvs:=by
 refine R.ok lS (fun vs H Q E h=>?_) (fun f cdv A outer s H vs Q E hr h=>?_)
 ·obtain⟨p,d,nr,ln,sh,pl,ns,ks,low,w',t,n,m,rfl,_⟩:=h
  rfl
 obtain⟨p,d,nr,ln,sh,pl,ns,ks,low,w',t,n,m,rfl,M,st,k⟩:=h
 refine⟨_,(@ao _ _ _ (dW cE rfl (gk (bu (aJ (pv 0) rfl) T.aE aU (hr.mono (by decide)) af (@ae _ _ _ _ _ (pv 2) (@ae _ _ _ _ _ (pv 3) aj rfl) rfl))) (b5 (i:=4) lS.nd rfl (by first | exact Or.inl rfl | exact Or.inr rfl))
   (@ao _ _ _ (aT (bu (aJ (pv 0) rfl) T.dh jY (hr.mono (by decide)) af (@ae _ _ _ _ _ (pv 1) (@ae _ _ _ _ _ (pv 4) aj rfl) rfl)))))),?_⟩
 have t1:=T.b6;have t2:=T.bK;have t3:=T.aE;have t4:=T.er;have t5:=T.dh
 have MA:=M
 obtain⟨⟨dx,ss,h1⟩,h2,h3,h4,h5,h6⟩:=M
 obtain⟨dxs,ts,f1,f2⟩:=id h3
 have fz:(ot ts low).lookup ("stretch" : Str)=none:=cy _ _ (by decide +kernel) (by decide +kernel)
 walk_at "go"
 refine⟨fun _ q H1 s1 e1 _=>?_,fun z=>absurd st z⟩
 walk_at "go"
 refine iN (xs:=(jm n m.toNat).map V.int) (fun i σ H'=>Bx (∃v:Option V,σ=[some (.ref p),some (.int t),some (.int n),some (.int m),v]/\H'=H1)) ⟨_,rfl,rfl⟩ ?_ ?_ ?_
 ·rintro i σ H' _ ⟨v,_,rfl⟩
  exact SqL.of e1
 ·rintro i x σ H' hx ⟨v,rfl,rfl⟩
  obtain⟨c,rfl,hc⟩:=c6 hx
  have h11:=s1 _ _ h1
  have N1:=(MA.same s1).ne
  obtain⟨dn,mn,n1,n2⟩:=id N1
  walk_at "go"
  exact⟨_,rfl,rfl⟩
 ·rintro σ H' ⟨v,rfl,rfl⟩
  exact k _ s1
theorem yK {dvs:List V} (R:bC K mg "room_left" mx ["memory"] dvs) (T:Txt w K mg a)
  (mW:aB P w K mg base a.bt 3 "room" ["self"] (FK a) []) :
  HasFn P w K mg base 4 "room_left" ["memory"] (CF a) dvs:=by
 refine R.ok yj (fun vs H Q E h=>?_) (fun f cdv A outer s H vs Q E hr h=>?_)
 ·obtain⟨p,d,nr,ln,sh,pl,ns,ks,low,w',rfl,_⟩:=h
  rfl
 obtain⟨p,d,nr,ln,sh,pl,ns,ks,low,w',rfl,M,k⟩:=h
 refine⟨_,(@ao _ _ _ (@aI _ _ _ _ (gI (aJ (pv 0) rfl) T.fb mW (hr.mono (by decide)) af))),?_⟩
 have t1:=T.b6;have t2:=T.et;have t3:=T.fb
 obtain⟨⟨dx,ss,h1⟩,h2,h3,h4,h5,h6⟩:=M
 have P:=h5
 obtain⟨dp,f1,f2,hd,s,p1,_⟩:=h5
 walk_at "go"
 exact k
theorem yL {dvs:List V} (R:bg K a.bt "less" "Pool.less" mr ["self", "leaf"] dvs) (T:Txt w K mg a)
  (iG:aB P w K mg base a.bF 1 "less" ["self", "number"] (mU) [])
  (jZ:aB P w K mg base a.cO 1 "unmark" ["self", "frame"] (mU) []) :
  aB P w K mg base a.bt 2 "less" ["self", "leaf"] (CG a) dvs:=by
 refine R.ok yf (fun vs H Q E h=>?_) (fun f cdv A outer s H vs Q E hr h=>?_)
 ·obtain⟨p,x,r,rfl,_⟩:=h
  rfl
 obtain⟨p,x,r,rfl,P,L,k⟩:=h
 refine⟨_,(@ah _ _ _ _ _ (bx (PW.pt (tI (kA (bU cT (by rfl) T.bY PyProof.Rows.Boot.«isinstance» (@ae _ _ _ _ _ (pv 1) (@ae _ _ _ _ _ (jn (v:=.ref a.bq) (by rfl) T.Bf rfl) aj rfl) rfl))) (oO (aV oP (bu (aJ (pv 0) rfl) T.eZ iG (hr.mono (by decide)) af (@ae _ _ _ _ _ (aJ (pv 1) rfl) aj rfl)) au (bH _))))) (@ao _ _ _ (aT (bu (aJ (pv 0) rfl) T.tq jZ (hr.mono (by decide)) af (@ae _ _ _ _ _ (aJ (pv 1) rfl) aj rfl)))) aS)
   (@ao _ _ _ (bx (kA (bU cT (by rfl) T.bY PyProof.Rows.Boot.«isinstance» (@ae _ _ _ _ _ (pv 1) (@ae _ _ _ _ _ (jn (v:=.ref a.bX) (by rfl) T.Hm rfl) aj rfl) rfl))) (@ao _ _ _ (aT (bu (aJ (pv 0) rfl) T.eZ iG (hr.mono (by decide)) af (@ae _ _ _ _ _ (aJ (pv 1) rfl) aj rfl)))) aS))),?_⟩
 have t1:=T.fb;have u1:=T.iE;have u2:=T.mL
 obtain⟨dp,f1,f2,hd,s,p1,_⟩:=P
 obtain⟨dx,hx⟩:=L
 have ty:TyE K H (.ref x) (.ref a.aF):=T.mK hx
 walk_at "go"
 exact k
theorem pY {dvs:List V} (R:bC K mg "forget_content" fS ["memory", "leaf"] dvs) (T:Txt w K mg a)
  (d7:aB P w K mg base a.bD 1 "forget_frame" ["self", "frame"] (mU) []) :
  HasFn P w K mg base 2 "forget_content" ["memory", "leaf"] (DM a) dvs:=by
 refine R.ok pD (fun vs H Q E h=>?_) (fun f cdv A outer s H vs Q E hr h=>?_)
 ·obtain⟨p,d,nr,ln,sh,pl,x,ns,ks,low,w',r,rfl,_⟩:=h
  rfl
 obtain⟨p,d,nr,ln,sh,pl,x,ns,ks,low,w',r,rfl,M,L,k⟩:=h
 refine⟨_,(@ao _ _ _ (bx (kA (bU cT (by rfl) T.bY PyProof.Rows.Boot.«isinstance» (@ae _ _ _ _ _ (pv 1) (@ae _ _ _ _ _ (jn (v:=.ref a.bq) (by rfl) T.Bf rfl) aj rfl) rfl))) (@ao _ _ _ (aT (bu (aJ (pv 0) rfl) T.dh d7 (hr.mono (by decide)) af (@ae _ _ _ _ _ (aJ (pv 1) rfl) aj rfl)))) aS)),?_⟩
 have u1:=T.iE
 obtain⟨dx,hx⟩:=L
 have ty:TyE K H (.ref x) (.ref a.aF):=T.mK hx
 walk_at "go"
 exact k
theorem sS {dvs:List V} (R:bC K mg "content_less" i0 ["memory", "leaf"] dvs) (T:Txt w K mg a)
  (mX:aB P w K mg base a.bt 2 "less" ["self", "leaf"] (CG a) [])
  (gb:HasFn P w K mg base 2 "forget_content" ["memory", "leaf"] (DM a) []) :
  HasFn P w K mg base 3 "content_less" ["memory", "leaf"] (DM a) dvs:=by
 refine R.ok sG (fun vs H Q E h=>?_) (fun f cdv A outer s H vs Q E hr h=>?_)
 ·obtain⟨p,d,nr,ln,sh,pl,x,ns,ks,low,w',r,rfl,_⟩:=h
  rfl
 obtain⟨p,d,nr,ln,sh,pl,x,ns,ks,low,w',r,rfl,M,L,k⟩:=h
 refine⟨_,(@ah _ _ _ _ _ (aT (bu (aJ (pv 0) rfl) T.fb mX (hr.mono (by decide)) af (@ae _ _ _ _ _ (pv 1) aj rfl)))
   (@ao _ _ _ (aT (bz gb (hr.mono (by decide)) (by rfl) af (@ae _ _ _ _ _ (pv 0) (@ae _ _ _ _ _ (pv 1) aj rfl) rfl))))),?_⟩
 have t1:=T.b6;have t2:=T.et;have t3:=T.fb
 have MA:=M
 obtain⟨⟨dx,ss,h1⟩,h2,h3,h4,h5,h6⟩:=M
 have P:=h5
 obtain⟨dp,f1,f2,hd,s,p1,_⟩:=h5
 walk_at "go"
 exact k
theorem wq {dvs:List V} (R:bC K mg "count_less" kP ["memory", "leaf"] dvs) (T:Txt w K mg a)
  (j0:aB P w K mg base a.bJ 1 "less" ["self", "name"] (mU) [])
  (fE:HasFn P w K mg base 3 "content_less" ["memory", "leaf"] (DM a) []) :
  HasFn P w K mg base 4 "count_less" ["memory", "leaf"] (DM a) dvs:=by
 refine R.ok nP (fun vs H Q E h=>?_) (fun f cdv A outer s H vs Q E hr h=>?_)
 ·obtain⟨p,d,nr,ln,sh,pl,x,ns,ks,low,w',r,rfl,_⟩:=h
  rfl
 obtain⟨p,d,nr,ln,sh,pl,x,ns,ks,low,w',r,rfl,M,L,k⟩:=h
 refine⟨_,(@ao _ _ _ (bx (kA (bU cT (by rfl) T.bY PyProof.Rows.Boot.«isinstance» (@ae _ _ _ _ _ (pv 1) (@ae _ _ _ _ _ (jn (v:=.ref a.aW) (by rfl) T.yx rfl) aj rfl) rfl))) (@ao _ _ _ (dW cE rfl (gk (bu (aJ (pv 0) rfl) T.ki j0 (hr.mono (by decide)) af (@ae _ _ _ _ _ (aJ (pv 1) rfl) aj rfl))) (b5 (i:=2) nP.nd rfl (by first | exact Or.inl rfl | exact Or.inr rfl))
   (@ao _ _ _ (aT (bz fE (hr.mono (by decide)) (by rfl) af (@ae _ _ _ _ _ (pv 0) (@ae _ _ _ _ _ (pv 2) aj rfl) rfl)))))) (@ao _ _ _ (aT (bz fE (hr.mono (by decide)) (by rfl) af (@ae _ _ _ _ _ (pv 0) (@ae _ _ _ _ _ (pv 1) aj rfl) rfl)))))),?_⟩
 have u1:=T.gp
 have LA:=L
 obtain⟨dx,hx⟩:=L
 have ty:TyE K H (.ref x) (.ref a.aF):=T.mK hx
 walk_at "go"
 exact k
theorem sT {dvs:List V} (R:bC K mg "content_leaf" iZ ["memory", "leaf"] dvs) (T:Txt w K mg a)
  (j1:aB P w K mg base a.bJ 1 "leaf" ["self", "name", "part"] (mU) []) :
  HasFn P w K mg base 2 "content_leaf" ["memory", "leaf"] (Hq a) dvs:=by
 refine R.ok sF (fun vs H Q E h=>?_) (fun f cdv A outer s H vs Q E hr h=>?_)
 ·obtain⟨p,x,r,rfl,_⟩:=h
  rfl
 obtain⟨p,x,r,rfl,L,k⟩:=h
 refine⟨_,(@ah _ _ _ _ _ (bx (kA (bU cT (by rfl) T.bY PyProof.Rows.Boot.«isinstance» (@ae _ _ _ _ _ (pv 1) (@ae _ _ _ _ _ (jn (v:=.ref a.aW) (by rfl) T.yx rfl) aj rfl) rfl))) (@ao _ _ _ (@aI _ _ _ _ (bu (aJ (pv 0) rfl) T.ki j1 (hr.mono (by decide)) af (@ae _ _ _ _ _ (aJ (pv 1) rfl) (@ae _ _ _ _ _ (aJ (pv 1) rfl) aj rfl) rfl)))) aS)
   (@ao _ _ _ (@aI _ _ _ _ (pv 1)))),?_⟩
 have u1:=T.gp
 obtain⟨dx,hx⟩:=L
 have ty:TyE K H (.ref x) (.ref a.aF):=T.mK hx
 walk_at "go"
 exact k
theorem wt {dvs:List V} (R:bC K mg "read_found" kT ["memory", "task", "page", "place", "leaf"] dvs) (T:Txt w K mg a)
  (jg:HasFn P w K mg base 2 "content_leaf" ["memory", "leaf"] (Hq a) [])
  (lB:HasFn P w K mg base 1 "brought_in" ["memory", "content"] (mU) [])
  (lC:HasFn P w K mg base 1 "note_frame" ["memory", "task", "page", "leaf", "frame"] (mU) [])
  (eK:aB P w K mg base a.bt 1 "word" ["self", "frame", "place"] (mU) []) :
  HasFn P w K mg base 3 "read_found" ["memory", "task", "page", "place", "leaf"] (Hr a) dvs:=by
 refine R.ok jN (fun vs H Q E h=>?_) (fun f cdv A outer s H vs Q E hr h=>?_)
 ·obtain⟨p,x,t,pg,pc,r,rfl,_⟩:=h
  rfl
 obtain⟨p,x,t,pg,pc,r,rfl,L,k⟩:=h
 refine⟨_,(@ah _ _ _ _ _ (@aN _ _ 5 _ _ _ _ jN.nd rfl (by first | exact Or.inl rfl | exact Or.inr rfl) (bz jg (hr.mono (by decide)) (by rfl) af (@ae _ _ _ _ _ (pv 0) (@ae _ _ _ _ _ (pv 4) aj rfl) rfl)) (by rfl) (by first | exact Or.inl rfl | exact Or.inr rfl))
   (@ah _ _ _ _ _ (bx (kA (bU cT (by rfl) T.bY PyProof.Rows.Boot.«isinstance» (@ae _ _ _ _ _ (pv 5) (@ae _ _ _ _ _ (jn (v:=.ref a.aF) (by rfl) T.yw rfl) aj rfl) rfl))) (@ao _ _ _ (@aI _ _ _ _ au)) aS)
   (@ah _ _ _ _ _ (@aN _ _ 6 _ _ _ _ jN.nd rfl (by first | exact Or.inl rfl | exact Or.inr rfl) (aJ (bz lB (hr.mono (by decide)) (by rfl) af (@ae _ _ _ _ _ (pv 0) (@ae _ _ _ _ _ (pv 5) aj rfl) rfl)) rfl) (by rfl) (by first | exact Or.inl rfl | exact Or.inr rfl))
   (@ah _ _ _ _ _ (aT (bz lC (hr.mono (by decide)) (by rfl) af (@ae _ _ _ _ _ (pv 0) (@ae _ _ _ _ _ (pv 1) (@ae _ _ _ _ _ (pv 2) (@ae _ _ _ _ _ (pv 4) (@ae _ _ _ _ _ (pv 6) aj rfl) rfl) rfl) rfl) rfl)))
   (@ao _ _ _ (@aI _ _ _ _ (bu (aJ (pv 0) rfl) T.fb eK (hr.mono (by decide)) af (@ae _ _ _ _ _ (pv 6) (@ae _ _ _ _ _ (pv 3) aj rfl) rfl)))))))),?_⟩
 have u1:=T.jT
 have LA:=L
 obtain⟨dx,hx⟩:=L
 have ty:TyE K H (.ref x) (.ref a.aF):=T.mK hx
 walk_at "go"
 exact k
theorem wu {dvs:List V} (R:bC K mg "near_frame" kQ ["memory", "task", "address", "deed"] dvs) (T:Txt w K mg a)
  (dR:aB P w K mg base a.bD 2 "found" ["self", "task", "page"] (FN a) [])
  (cC:aB P w K mg base a.aw 3 "page_of" ["self", "address"] (uQ a) [])
  (lA:HasFn P w K mg base 1 "lets" ["rights", "deed"] (Bl) []) :
  HasFn P w K mg base 4 "near_frame" ["memory", "task", "address", "deed"] (Ht a) dvs:=by
 refine R.ok nQ (fun vs H Q E h=>?_) (fun f cdv A outer s H vs Q E hr h=>?_)
 ·obtain⟨p,d,nr,ln,sh,pl,ns,ks,low,w',t,n,dd,rfl,_⟩:=h
  rfl
 obtain⟨p,d,nr,ln,sh,pl,ns,ks,low,w',t,n,dd,rfl,M,k1,k2⟩:=h
 refine⟨_,(@ah _ _ _ _ _ (@aN _ _ 4 _ _ _ _ nQ.nd rfl (by first | exact Or.inl rfl | exact Or.inr rfl) (bu (aJ (pv 0) rfl) T.dh dR (hr.mono (by decide)) af (@ae _ _ _ _ _ (pv 1) (@ae _ _ _ _ _ (bu (aJ (pv 0) rfl) T.aE cC (hr.mono (by decide)) af (@ae _ _ _ _ _ (pv 2) aj rfl)) aj rfl) rfl)) (by rfl) (by first | exact Or.inl rfl | exact Or.inr rfl))
   (@ah _ _ _ _ _ (bx (PW.pt (y7 (aV xF (pv 4) gG (bH _)) (xB (gH (kA (bz lA (hr.mono (by decide)) (by rfl) af (@ae _ _ _ _ _ (@cY _ _ _ _ _ _ _ jy (pv 4) au (fun _ _=>rfl)) (@ae _ _ _ _ _ (pv 3) aj rfl) rfl))))))) (@ao _ _ _ (@aI _ _ _ _ gG)) aS)
   (@ao _ _ _ (@aI _ _ _ _ (@cY _ _ _ _ _ _ _ jy (pv 4) au (fun _ _=>rfl)))))),?_⟩
 have t1:=T.b6;have t2:=T.er;have t3:=T.dh;have t4:=T.bK;have t5:=T.aE
 have MA:=M
 obtain⟨⟨dx,ss,h1⟩,h2,h3,h4,h5,h6⟩:=M
 obtain⟨dn,mn,n1,n2⟩:=id h2
 obtain⟨dxs,ts,f1,f2⟩:=id h3
 have fz:(ot ts low).lookup ("page_of" : Str)=none:=cy _ _ (by decide +kernel) (by decide +kernel)
 walk_at "go"
 refine⟨fun c=>?_,k2⟩
 walk_at "go"
 refine iw (fun _=>?_) fun z=>absurd rfl z
 refine oV ?_
 walk_at "go"
 exact k1 c
end
end K36

set_option maxHeartbeats 4000000
namespace K36
open PySem L2
def Hu (a:Adr): Sp:=fun vs H Q E=>∃(p d nr ln sh pl x:Addr) (ns ks:List Int) (low w t n m r:Int) (kvs:List (Key×V)) (fp:List Addr) (cn:Nat) (M:Mf),vs=[.ref p,.int t,.int n,.int m,.int r]/\Me a H p d nr ln sh pl ns low ks w/\H d=some (.dK kvs)/\bf kvs (.inl t)=some (.ref x)/\Sk a H x ns low t fp cn M/\cn < 80000 ∧
 (¬eu ns n m->E (.ref a.aM) none H)/\(eu ns n m->¬OkR r->∀H',Same H H'->E (.ref a.aO) none H') ∧
 (eu ns n m->OkR r->∀j:Nat,(j:Int) < m->(∀i:Nat,i < j->M (n+i)=none)->(M (n+j)).isSome=true->∀d' H',H' d'=some (xdW d' [("page",.int (n+j))])->Same H H'->E (.ref a.bj) (some d') H') ∧
 (eu ns n m->OkR r->(∀i:Nat,(i:Int) < m->M (n+i)=none)->∀fp' H',Sk a H' x ns low t fp' (cn+64) (M.lay n (eB m.toNat r))->bp H H'->L2.Fr fp fp' H H'->Q .non H')
def CH (a:Adr): Sp:=fun vs H Q E=>∃(p d nr ln sh pl x:Addr) (ns ks:List Int) (low w t n m:Int) (kvs:List (Key×V)) (fp:List Addr) (cn:Nat) (M:Mf),vs=[.ref p,.int t,.int n,.int m]/\Me a H p d nr ln sh pl ns low ks w/\H d=some (.dK kvs)/\bf kvs (.inl t)=some (.ref x)/\Sk a H x ns low t fp cn M/\ln∉fp ∧
 (¬eu ns n m->E (.ref a.aM) none H) ∧
 (eu ns n m->∀j:Nat,(j:Int) < m->(∀i:Nat,i < j->(M (n+i)).isSome=true)->M (n+j)=none->∀d' H',H' d'=some (xdW d' (ky (.int t) (.int ((n+j)*plc low)) (.str "unmap")))->Same H H'->E (.ref a.aA) (some d') H') ∧
 (eu ns n m->(∀i:Nat,(i:Int) < m->(M (n+i)).isSome=true)->∀H',Sk a H' x ns low t fp cn (M.gone n m)->bp H H'->L2.Fr fp fp H H'->Q .non H')
def vh (a:Adr): Sp:=fun vs H Q E=>∃(p d nr ln sh pl x:Addr) (ns ks:List Int) (low w t n m r:Int) (kvs:List (Key×V)) (fp:List Addr) (cn:Nat) (M:Mf),vs=[.ref p,.int t,.int n,.int m,.int r]/\Me a H p d nr ln sh pl ns low ks w/\H d=some (.dK kvs)/\bf kvs (.inl t)=some (.ref x)/\Sk a H x ns low t fp cn M/\cn < 80000/\ln∉fp ∧
 (¬eu ns n m->E (.ref a.aM) none H)/\(eu ns n m->¬OkR r->∀H',Same H H'->E (.ref a.aO) none H') ∧
 (eu ns n m->OkR r->∀j:Nat,(j:Int) < m->(∀i:Nat,i < j->(M (n+i)).isSome=true)->M (n+j)=none->∀d' H',H' d'=some (xdW d' (ky (.int t) (.int ((n+j)*plc low)) (.str "rights")))->Same H H'->E (.ref a.aA) (some d') H') ∧
 (eu ns n m->OkR r->(∀i:Nat,(i:Int) < m->(M (n+i)).isSome=true)->∀fp' H',Sk a H' x ns low t fp' (cn+64) (M.chg n m r)->bp H H'->L2.Fr fp fp' H H'->Q .non H')
theorem Frs.lay {M:Mf}{n r:Int}{m:Nat}(F:Frs M)(ok:OkR r): Frs (M.lay n (eB m r)):=fun k g h=>by
 unfold Mf.lay at h
 split at h
 ·unfold eB at h
  rw[List.getElem?_replicate] at h
  split at h<;>cases h
  exact⟨r,rfl,ok⟩
 ·exact F k g h
theorem Frs.gone {M:Mf}{n m:Int}(F:Frs M): Frs (M.gone n m):=fun k g h=>by
 unfold Mf.gone at h
 split at h
 ·cases h
 ·exact F k g h
theorem Frs.chg {M:Mf}{n m r:Int}(F:Frs M)(ok:OkR r): Frs (M.chg n m r):=fun k g h=>by
 unfold Mf.chg at h
 split at h
 ·rw[Option.map_eq_some_iff] at h
  obtain⟨g',h',rfl⟩:=h
  obtain⟨r',rfl,_⟩:=F k g' h'
  exact⟨r,rfl,ok⟩
 ·exact F k g h
abbrev Inn (ns:List Int)(M:Mf): Prop:=∀n g,M n=some g->0<=n/\n < pgs ns
theorem G1 {ns:List Int}{M:Mf}{n r:Int}{m:Nat}(i:Inn ns M)(h0:0<=n)(h1:n+m<=pgs ns): Inn ns (M.lay n (eB m r)):=fun k g h=>by
 unfold Mf.lay eB at h
 rw[List.length_replicate] at h
 split at h
 ·omega
 ·exact i k g h
theorem FO {ns:List Int}{M:Mf}{n m:Int}(i:Inn ns M): Inn ns (M.gone n m):=fun k g h=>by
 unfold Mf.gone at h
 split at h
 ·cases h
 ·exact i k g h
theorem G2 {ns:List Int}{M:Mf}{n m r:Int}(i:Inn ns M): Inn ns (M.chg n m r):=fun k g h=>by
 unfold Mf.chg at h
 split at h
 ·rw[Option.map_eq_some_iff] at h
  obtain⟨g',h',_⟩:=h
  exact i k g' h'
 ·exact i k g h
theorem Ab.none {a:Adr}{H:Hp}{ns:List Int}{nd:Ix->Option Addr}{M:Mf}(A:Ab a H ns nd M){m:Int}(h1:0<=m)(h2:m < pgs ns)(h:nd (parts ns m)=none): M m=none:=by
 cases e:M m with
 | none=>rfl
 | some g=>obtain⟨x,e1,_⟩:=A.so m g h1 h2 e;rw[e1] at h;cases h
theorem FP {r S B:Int}(hS:0 < S)(hB:0 < B): r%(S*B)=B*(r / B%S)+r%B:=by
 have e:r=(B*(r / B%S)+r%B)+(S*B)*(r / B / S):=by
  have h1:=Int.mul_ediv_add_emod r B
  have h2:=Int.mul_ediv_add_emod (r / B) S
  grind
 have p1:=Int.emod_nonneg (r / B) (Int.ne_of_gt hS)
 have p2:=Int.emod_lt_of_pos (r / B) hS
 have p3:=Int.emod_nonneg r (Int.ne_of_gt hB)
 have p4:=Int.emod_lt_of_pos r hB
 have b0:0<=B*(r / B%S):=Int.mul_nonneg (Int.le_of_lt hB) p1
 have b1:B*(r / B%S)<=B*(S-1):=Int.mul_le_mul_of_nonneg_left (by omega) (Int.le_of_lt hB)
 have b2:B*(S-1)=S*B-B:=by grind
 have l:B*(r / B%S)+r%B < S*B:=by omega
 have g:0<=B*(r / B%S)+r%B:=by omega
 conv=>lhs;rw[e]
 rw[Int.add_mul_emod_self_left,Int.emod_eq_of_lt g l]
theorem Bn:∀(ws:List Int),(∀x∈ws,0<=x)->∀r,parts ws (r%span ws)=parts ws r:=by
 refine snocInd (fun _ r=>rfl) fun l w ih h r=>?_
 have hl:∀x∈l,0<=x:=fun x hx=>h x (List.mem_append_left _ hx)
 have hB:(0:Int) < 2^w.toNat:=Int.pow_pos (by decide)
 rw[w8 hl (h w (by simp)),FP (zu l) hB,iQ,iQ,<-ih hl (r / 2^w.toNat)]
 have p3:=Int.emod_nonneg r (Int.ne_of_gt hB)
 have p4:=Int.emod_lt_of_pos r hB
 have e1:(2^w.toNat*(r / 2^w.toNat%span l)+r%2^w.toNat) / 2^w.toNat=r / 2^w.toNat%span l:=by
  rw[Int.mul_add_ediv_left _ _ (Int.ne_of_gt hB),Int.ediv_eq_zero_of_lt p3 p4,Int.add_zero]
 rw[e1]
 congr 2
 rw[Int.mul_add_emod_self_left,Int.emod_emod_of_dvd _ (Int.dvd_refl _)]
theorem Ab.any {a:Adr}{H:Hp}{ns:List Int}{low:Int}{nd:Ix->Option Addr}{M:Mf}(A:Ab a H ns nd M)(gd:Good ns low){m:Int}{x:Addr}(h:nd (parts ns m)=some x): ∃g,M (m%pgs ns)=some g/\ez a H x g:=by
 have p0:0 < pgs ns:=zu ns
 refine A.leaf (Int.emod_nonneg _ (Int.ne_of_gt p0)) (Int.emod_lt_of_pos _ p0) ?_
 rw[show pgs ns=span ns from rfl,Bn ns fun x hx=>by have:=gd.all x hx;omega]
 exact h
section
variable {P:Program}{w:World}{K:W.Frag}{mg:Str->Option Value}{base:Heap}{a:Adr}
theorem yM {dvs:List V} (R:bC K mg "map_pages" my ["memory", "task", "first", "many", "rights"] dvs) (T:Txt w K mg a)
  (b7:HasFn P w K mg base 1 "space_of" ["memory", "task"] (vg a) [])
  (aU:aB P w K mg base a.aw 2 "stretch" ["self", "first", "many"] (iJ a) [])
  (mY:aB P w K mg base a.aG 7 "lay" ["self", "first", "leaves"] (CB a) [])
  (ck:cf P w K mg base a.aF 2 ["self", "rights"] (fZ a K) []) :
  HasFn P w K mg base 8 "map_pages" ["memory", "task", "first", "many", "rights"] (Hu a) dvs:=by
 refine R.ok kZ (fun vs H Q E h=>?_) (fun f cdv A outer s H vs Q E hr h=>?_)
 ·obtain⟨p,d,nr,ln,sh,pl,x,ns,ks,low,w',t,n,m,r,kvs,fp,cn,M,rfl,_⟩:=h
  rfl
 obtain⟨p,d,nr,ln,sh,pl,x,ns,ks,low,w',t,n,m,r,kvs,fp,cn,M,rfl,ME,hd,hv,S,cc,k1,k2,k3,k4⟩:=h
 refine⟨_,(ah (aN (i:=5) kZ.nd rfl (by first | exact Or.inl rfl | exact Or.inr rfl) (bz b7 (hr.mono (by decide)) (by rfl) af (ae (pv 0) (ae (pv 1) aj rfl) rfl)))
   (ah (aN (i:=6) kZ.nd rfl (by first | exact Or.inl rfl | exact Or.inr rfl) (bu (aJ (pv 0) rfl) T.aE aU (hr.mono (by decide)) af (ae (pv 2) (ae (pv 3) aj rfl) rfl)))
   (ao (aT (bu (pv 5) T.bh mY (hr.mono (by decide)) af (ae (pv 2) (ae (Fo (xs:=["page"]) (N':=["memory", "task", "first", "many", "rights", "space", "pages"]) rfl ⟨rfl,by decide +kernel,by decide +kernel,by dsimp only [iq,PyProof.Rows.envOfC];decide +kernel,by decide +kernel,by dsimp only [iq];decide +kernel,rfl⟩ (gk (pv 6)) rfl rfl rfl DH (fun _ _ _ _ _ _=>(b5 (i:=0) (by dsimp only [cL,dw];decide +kernel) rfl (by first | exact Or.inl rfl | exact Or.inr rfl))) (fun _ _ _ _ _ _ hx=>xR) (fun _ _ _ _ _ _ hx=>(iP ck (hr.mono (by decide)) (by rfl) (by exact T.yw) hx (ae (pv 5) aj rfl)))) aj rfl) rfl)))))),?_⟩
 have t1:=T.b6;have t2:=T.bK;have t3:=T.aE;have t4:=T.bh
 have MA:=ME
 obtain⟨⟨dx,ss,h1⟩,h2,h3,h4,h5,h6⟩:=ME
 obtain⟨dxs,ts,f1,f2⟩:=id h3
 have fz:(ot ts low).lookup ("stretch" : Str)=none:=cy _ _ (by decide +kernel) (by decide +kernel)
 obtain⟨⟨nd,S0,A⟩,fr,inn⟩:=S
 obtain⟨dxx,shs,tr,dt,sh2,top,g1,_⟩:=S0.tr
 walk_at "go"
 refine⟨fun st q H1 s1 e1 hq=>?_,k1⟩
 have g11:=s1 _ _ g1
 have q1:SqL K H1 q ((jm n m.toNat).map V.int):=SqL.of e1
 have rl:((jm n m.toNat).map V.int).length=m.toNat:=by rw[List.length_map,gE]
 have m1:=st.1.1
 have m64:=st.1.2
 have u1:=T.i6;have u2:=T.dB
 walk_at "go"
 intro acc hacc
 by_cases okr:OkR r
 ·refine oz (xs:=(jm n m.toNat).map V.int) (fun i ys H'=>Bx (∃us,ys=us.map V.ref/\H' acc=some (.lst ys)/\Lvs a H' us (eB i r)/\us.length=i/\∀b u,H1 b=some u->H' b=some u)) (by rw[rl,sizeLine_eq];omega) ⟨⟨[],rfl,aq,⟨rfl,fun i x g h=>(by cases h)⟩,rfl,fun b u e=>aH hacc _ _ e⟩⟩ (fun i ys H2 z=>?_) (fun i v ys H2 hx z R rr=>?_) (fun ys H2 z=>?_)
  ·obtain⟨us,z1,z2,z3,z4,z5⟩:=z.o
   exact⟨z2,SqL.of (z5 _ _ e1),by rw[z1,List.length_map];exact z4⟩
  ·obtain⟨us,z1,z2,z3,z4,z5⟩:=z.o
   walk_at "go"
   intro y dy hy hdy _
   refine⟨y,dy,a.aF,r,rfl,aq,u1,u2,fun _=>⟨rfl,?_⟩,fun w=>absurd okr w⟩
   generalize hh:upd (upd (upd H2 dy _) y _) y _=H3
   obtain⟨s3,e3⟩:=KL hy hdy hh
   clear hh
   have a3:=s3 _ _ z2
   refine rr _ _ a3 ⟨⟨us++[y],by rw[z1,List.map_append];rfl,aq,?_,by rw[List.length_append,z4];rfl,fun b u e=>?_⟩⟩
   ·have es:eB (i+1) r=eB i r++[.fresh r]:=List.replicate_succ'
    rw[es]
    exact((z3.same s3).snoc ⟨dy,e3⟩).FG (ju.upd a3)
   ·rw[av (az e hacc)];exact s3 _ _ (z5 _ _ e)
  ·obtain⟨xs,z1,z2,LV,xl,s2⟩:=z.o
   rw[rl] at LV xl
   subst z1
   have s2:Same H1 H2:=s2
   have s02:=s1.trans s2
   have S2:=S0.same s02
   have A2:=A.same s02
   have lx:=LV.mem
   have st2:eu ns n (xs.length:Int):=by rw[xl,show ((m.toNat:Nat):Int)=m by omega];exact st
   have lc:cn+xs.length < 100000:=by omega
   have mm:∀j:Nat,j < xs.length->0<=n+j/\n+j < pgs ns:=fun j hj=>by have:=st2.2;omega
   walk_at "go"
   refine⟨fun w=>absurd st2 w,fun _ j x' jl pre hx' d' H3 e3 s3=>k3 st okr j (by omega) (fun i hi=>A.none (mm i (by omega)).1 (mm i (by omega)).2 (pre i hi)) ?_ d' H3 e3 (s02.trans s3),fun _ free nd' fp' H3 S3 pv fr3 sub=>?_⟩
   ·rw[<-A.isS (mm j jl).1 (mm j jl).2,hx'];rfl
   ·have kn:=S2.mR fr3
    exact k4 st okr (fun i hi=>A.none (mm i (by omega)).1 (mm i (by omega)).2 (free i (by omega))) fp' H3 ⟨⟨nd',S3.mono (by omega),A2.lay kn pv (LV.mR kn)⟩,Frs.lay fr okr,G1 inn st.2.1 (by have:=st.2;omega)⟩ ((bp.same s02).trans kn) ((L2.Fr.same s02).trans fr3)
 ·refine oz (xs:=(jm n m.toNat).map V.int) (fun i ys H'=>Bx (i=0/\ys=[]/\H'=upd H1 acc (.lst []))) (by rw[rl,sizeLine_eq];omega) ⟨⟨rfl,rfl,rfl⟩⟩ (fun i ys H2 z=>?_) (fun i v ys H2 hx z R rr=>?_) (fun ys H2 z=>?_)
  ·obtain⟨rfl,rfl,rfl⟩:=z.o
   exact⟨aq,SqL.of (aH hacc _ _ e1),rfl⟩
  ·obtain⟨rfl,rfl,rfl⟩:=z.o
   walk_at "go"
   intro y dy hy hdy _
   refine⟨y,dy,a.aF,r,rfl,aq,u1,u2,fun w=>absurd w okr,fun _=>?_⟩
   exact k2 st okr _ (s1.trans ((aH hacc).trans (Ah hy hdy)))
  ·obtain⟨w,_⟩:=z.o
   rw[rl] at w
   omega
theorem vj {dvs:List V} (R:bC K mg "unmap_pages" jJ ["memory", "task", "first", "many"] dvs) (T:Txt w K mg a)
  (lD:aB P w K mg base a.aG 8 "lift" ["self", "first", "many"] (FH a) [])
  (b7:HasFn P w K mg base 1 "space_of" ["memory", "task"] (vg a) [])
  (cR:HasFn P w K mg base 4 "forget_pages" ["memory", "task", "first", "many"] (vf a) [])
  (lE:HasFn P w K mg base 4 "count_less" ["memory", "leaf"] (DM a) []) :
  HasFn P w K mg base 9 "unmap_pages" ["memory", "task", "first", "many"] (CH a) dvs:=by
 refine R.ok i5 (fun vs H Q E h=>?_) (fun f cdv A outer s H vs Q E hr h=>?_)
 ·obtain⟨p,d,nr,ln,sh,pl,x,ns,ks,low,w',t,n,m,kvs,fp,cn,M,rfl,_⟩:=h
  rfl
 obtain⟨p,d,nr,ln,sh,pl,x,ns,ks,low,w',t,n,m,kvs,fp,cn,M,rfl,ME,hd,hv,S,lnf,k1,k2,k3⟩:=h
 refine⟨_,(@ah _ _ _ _ _ (@aN _ _ 4 _ _ _ _ i5.nd rfl (by first | exact Or.inl rfl | exact Or.inr rfl) (bu (bz b7 (hr.mono (by decide)) (by rfl) af (@ae _ _ _ _ _ (pv 0) (@ae _ _ _ _ _ (pv 1) aj rfl) rfl)) T.bh lD (hr.mono (by decide)) af (@ae _ _ _ _ _ (pv 2) (@ae _ _ _ _ _ (pv 3) aj rfl) rfl)) (by rfl) (by first | exact Or.inl rfl | exact Or.inr rfl))
   (@ah _ _ _ _ _ (aT (bz cR (hr.mono (by decide)) (by rfl) af (@ae _ _ _ _ _ (pv 0) (@ae _ _ _ _ _ (pv 1) (@ae _ _ _ _ _ (pv 2) (@ae _ _ _ _ _ (pv 3) aj rfl) rfl) rfl) rfl)))
   (@ao _ _ _ (dW cE rfl (gk (pv 4)) (b5 (i:=5) i5.nd rfl (by first | exact Or.inl rfl | exact Or.inr rfl))
   (@ao _ _ _ (aT (bz lE (hr.mono (by decide)) (by rfl) af (@ae _ _ _ _ _ (pv 0) (@ae _ _ _ _ _ (pv 5) aj rfl) rfl)))))))),?_⟩
 have t1:=T.b6;have t2:=T.bK;have t3:=T.aE;have t4:=T.bh
 have MA:=ME
 obtain⟨⟨dx,ss,h1⟩,h2,h3,h4,h5,h6⟩:=ME
 obtain⟨dn,mn,n1,n2⟩:=id h2
 obtain⟨⟨nd,S1,A⟩,fr,inn⟩:=S
 obtain⟨dxs,shs,tr,dt,sh2,top,g1,_⟩:=S1.tr
 walk_at "go"
 refine⟨fun st j hj ho d' H' e s=>k2 st j hj (fun i hi=>?_) (A.none ?_ ?_ ho.2) d' H' e s,fun st xs xl hx q nd' H2 S2 e2 pv fr2 hq=>?_⟩
 ·have:=st.2;rw[<-A.isS (by omega) (by omega)];exact ho.1 i hi
 ·have:=st.2;omega
 ·have:=st.2;omega
 have kn:=S1.mR fr2
 have M2:=MA.keep kn (fr2.1 _ _ n2 lnf)
 walk_at "go"
 intro H3 s3
 have e3:=s3 _ _ e2
 have M3:=M2.same s3
 have kn3:=kn.trans (bp.same s3)
 have q1:SqL K H3 q (xs.map V.ref):=SqL.of e3
 walk_at "go"
 refine iN (xs:=xs.map V.ref) (fun i σ H'=>Bx (∃v:Option V,σ=[some (.ref p),some (.int t),some (.int n),some (.int m),some (.ref q),v]/\H'=H3)) ⟨_,rfl,rfl⟩ ?_ ?_ ?_
 ·rintro i σ H' _ ⟨v,_,rfl⟩
  exact q1
 ·rintro i y σ H' hy ⟨v,rfl,rfl⟩
  obtain⟨z,hz,rfl⟩:=List.mem_map.mp (List.mem_of_getElem? hy)
  obtain⟨i',hi'⟩:=List.getElem?_of_mem hz
  have il:=(List.getElem?_eq_some_iff.mp hi').1
  have:=st.2
  obtain⟨g,hg,lg⟩:=A.leaf (by omega) (by omega) (hx i' z hi')
  obtain⟨r,rfl,_⟩:=fr _ _ hg
  have l3:=kn3.lf lg
  walk_at "go"
  exact⟨_,rfl,rfl⟩
 ·rintro σ H' ⟨v,rfl,rfl⟩
  refine k3 st (fun i hi=>?_) _ ⟨⟨nd',S2.same s3,A.gone kn3 pv⟩,fr.gone,FO inn⟩ kn3 (fr2.trans (L2.Fr.same s3))
  have:=st.2
  rw[<-A.isS (by omega) (by omega),hx i _ (List.getElem?_eq_getElem (by omega))];rfl
theorem qT {dvs:List V} (R:bC K mg "change_rights" gT ["memory", "task", "first", "many", "rights"] dvs) (T:Txt w K mg a)
  (jh:aB P w K mg base a.aG 8 "change" ["self", "first", "many", "rights"] (Ag a) [])
  (b7:HasFn P w K mg base 1 "space_of" ["memory", "task"] (vg a) [])
  (cR:HasFn P w K mg base 4 "forget_pages" ["memory", "task", "first", "many"] (vf a) []) :
  HasFn P w K mg base 9 "change_rights" ["memory", "task", "first", "many", "rights"] (vh a) dvs:=by
 refine R.ok qG (fun vs H Q E h=>?_) (fun f cdv A outer s H vs Q E hr h=>?_)
 ·obtain⟨p,d,nr,ln,sh,pl,x,ns,ks,low,w',t,n,m,r,kvs,fp,cn,M,rfl,_⟩:=h
  rfl
 obtain⟨p,d,nr,ln,sh,pl,x,ns,ks,low,w',t,n,m,r,kvs,fp,cn,M,rfl,ME,hd,hv,S,cc,lnf,k1,k2,k3,k4⟩:=h
 refine⟨_,(@ah _ _ _ _ _ (aT (bu (bz b7 (hr.mono (by decide)) (by rfl) af (@ae _ _ _ _ _ (pv 0) (@ae _ _ _ _ _ (pv 1) aj rfl) rfl)) T.bh jh (hr.mono (by decide)) af (@ae _ _ _ _ _ (pv 2) (@ae _ _ _ _ _ (pv 3) (@ae _ _ _ _ _ (pv 4) aj rfl) rfl) rfl)))
   (@ao _ _ _ (aT (bz cR (hr.mono (by decide)) (by rfl) af (@ae _ _ _ _ _ (pv 0) (@ae _ _ _ _ _ (pv 1) (@ae _ _ _ _ _ (pv 2) (@ae _ _ _ _ _ (pv 3) aj rfl) rfl) rfl) rfl))))),?_⟩
 have t1:=T.b6;have t2:=T.bK;have t3:=T.aE;have t4:=T.bh
 have MA:=ME
 obtain⟨⟨dx,ss,h1⟩,h2,h3,h4,h5,h6⟩:=ME
 obtain⟨dn,mn,n1,n2⟩:=id h2
 obtain⟨⟨nd,S1,A⟩,fr,inn⟩:=S
 obtain⟨dxs,shs,tr,dt,sh2,top,g1,_⟩:=S1.tr
 walk_at "go"
 refine⟨fun i x' hi hx=>let ⟨g,_,h⟩:=A.any h4 hx;⟨g,h⟩,k1,k2,fun st ok j hj ho d' H' e s=>k3 st ok j hj (fun i hi=>?_) (A.none ?_ ?_ ho.2) d' H' e s,fun st ok all ys nd' fp' H2 yl S2 ly pv fr2 sub=>?_⟩
 ·have:=st.2;rw[<-A.isS (by omega) (by omega)];exact ho.1 i hi
 ·have:=st.2;omega
 ·have:=st.2;omega
 have kn:=S1.mR fr2
 have M2:=MA.keep kn (fr2.1 _ _ n2 lnf)
 walk_at "go"
 intro H3 s3
 have kn3:=kn.trans (bp.same s3)
 refine k4 st ok (fun i hi=>?_) fp' H3 ⟨⟨nd',S2.same s3,A.chg kn3 yl all (fun i x y g h1 h2 h3=>(ly i x y g h1 h2 h3).same s3) pv⟩,fr.chg ok,G2 inn⟩ kn3 (fr2.trans (L2.Fr.same s3))
 have:=st.2
 rw[<-A.isS (by omega) (by omega)];exact all i hi
end
end K36

set_option maxHeartbeats 4000000
namespace K36
open PySem L2
theorem G3 {low:Int}(h0:0<=low)(h6:low<=6): (1:Int)<=2^low.toNat/\(2:Int)^low.toNat<=64:=by
 obtain⟨n,rfl⟩:=Int.eq_ofNat_of_zero_le h0
 have:n<=6:=by omega
 rw[Int.toNat_natCast]
 match n,this with
 | 0,_=>decide
 | 1,_=>decide
 | 2,_=>decide
 | 3,_=>decide
 | 4,_=>decide
 | 5,_=>decide
 | 6,_=>decide
abbrev mf (sh pl nr ss d:Addr)(w:Int): List (Str×V):=[("shape",.ref sh),("pool",.ref pl),("near",.ref nr),("shares",.ref ss),("spaces",.ref d),("walks",.int w)]
theorem Me.off {a:Adr}{H H':Hp}{p d nr ln sh pl q:Addr}{ns ks:List Int}{low w w':Int}(M:Me a H p d nr ln sh pl ns low ks w)(k:Kq q H H')(hl:H' ln=some (.dK []))(nq:∀C dx fs,H q=some (.ins C dx fs)->q=p)(nt:∀xs,H q≠some (.tup xs)/\H q≠some (.lst xs))
  (hp:∀dx ss,H p=some (.ins a.a_ dx (mf sh pl nr ss d w))->H' p=some (.ins a.a_ dx (mf sh pl nr ss d w'))):Me a H' p d nr ln sh pl ns low ks w':=by
 obtain⟨⟨dx,ss,h1⟩,⟨dn,m,n1,_⟩,⟨dxs,ts,f1',f2'⟩,h4,⟨dp,f1,f2,hd,s,p1,⟨dx1,c1,s1,ct1,q1,dc1,l1,q2,q3⟩,⟨dx2,c2,s2,ct2,r1,dc2,l2,r2,r3⟩⟩,h6⟩:=M
 have i:∀{b C dx':Addr} {fs:List (Str×V)},fs.lookup ("walks" : Str)=none->H b=some (.ins C dx' fs)->H' b=some (.ins C dx' fs):=fun {b C dx' fs} nw e=>k _ _ e fun z=>by
  have q:=nq C dx' fs (by rw[<-z];exact e)
  rw[z,q,h1] at e
  injection e with e
  injection e with e1 e2 e3
  rw[<-e3] at nw
  cases (show (some (V.int w):Option V)=none from nw)
 have l:∀{b:Addr} {xs:List V},H b=some (.lst xs)->H' b=some (.lst xs):=fun {b xs} e=>k _ _ e fun z=>(nt xs).2 (by rw[<-z];exact e)
 have t:∀{b:Addr} {xs:List V},H b=some (.tup xs)->H' b=some (.tup xs):=fun {b xs} e=>k _ _ e fun z=>(nt xs).1 (by rw[<-z];exact e)
 exact⟨⟨dx,ss,hp dx ss h1⟩,⟨dn,m,i rfl n1,hl⟩,⟨dxs,ts,i (cy _ _ (by decide +kernel) (by decide +kernel)) f1',t f2'⟩,h4,⟨dp,f1,f2,hd,s,i rfl p1,⟨dx1,c1,s1,ct1,i rfl q1,dc1,l1,i rfl q2,l q3⟩,⟨dx2,c2,s2,ct2,i rfl r1,dc2,l2,i rfl r2,l r3⟩⟩,h6⟩
structure Kw (H H':Hp)(fp:List Addr): Prop where
 i:∀{b C dx:Addr} {fs:List (Str×V)},fs.lookup ("walks" : Str)=none->H b=some (.ins C dx fs)->H' b=some (.ins C dx fs)
 t:∀{b:Addr} {ys:List V},H b=some (.tup ys)->H' b=some (.tup ys)
 d:∀b u,H b=some u->b∈fp->H' b=some u
theorem Kw.same {H H':Hp}{fp:List Addr}(s:Same H H'): Kw H H' fp:=⟨fun _ e=>s _ _ e,fun e=>s _ _ e,fun b u e _=>s b u e⟩
theorem Kw.mR {H H':Hp}{fp:List Addr}(k:bp H H')(d:∀b u,H b=some u->b∈fp->H' b=some u): Kw H H' fp:=⟨fun _ e=>k.ins e,fun e=>k.tup e,d⟩
theorem Sk.live {a:Adr}{H:Hp}{x:Addr}{ns:List Int}{low t:Int}{fp:List Addr}{cn:Nat}{M:Mf}(S:Sk a H x ns low t fp cn M){b:Addr}(hb:b∈fp): ∃kv,H b=some (.dK kv):=by
 obtain⟨nd,⟨_,_,_,_,_,_,_,_,_,_,⟨⟨_,_,_,_,_,q4⟩,_⟩,_⟩,_⟩:=S.sp
 exact q4.lv b hb
theorem Sk.kw {a:Adr}{H H':Hp}{x:Addr}{ns:List Int}{low t:Int}{fp:List Addr}{cn:Nat}{M:Mf}(S:Sk a H x ns low t fp cn M)(k:Kw H H' fp): Sk a H' x ns low t fp cn M:=by
 obtain⟨⟨nd,⟨dx,sh,tr,dt,sh2,top,dxs,ts,h1,h2,h3,h4,h4',h5⟩,A⟩,fr,inn⟩:=S
 have fw:∀ts low,(ot ts low).lookup ("walks" : Str)=none:=fun _ _=>cy _ _ (by decide +kernel) (by decide +kernel)
 refine⟨⟨nd,⟨dx,sh,tr,dt,sh2,top,dxs,ts,k.i rfl h1,k.i rfl h2,?_,k.i (fw _ _) h4,k.t h4',h5⟩,A.no,fun n g a1 a2 a3=>?_⟩,fr,inn⟩
 ·obtain⟨⟨dy,sh,top,q1,⟨dz,tz,q2,q3⟩,q4⟩,g,fu,ib⟩:=h3
  exact⟨⟨dy,sh,top,k.i rfl q1,⟨dz,tz,k.i (fw _ _) q2,k.t q3⟩,q4.keep fun b u e m=>k.d b u e m⟩,g,fu,ib⟩
 ·obtain⟨y,e1,e2⟩:=A.so n g a1 a2 a3
  obtain⟨r,rfl,_⟩:=fr n g a3
  obtain⟨dy,e2⟩:=e2
  exact⟨y,e1,dy,k.i rfl e2⟩
theorem Sk.same {a:Adr}{H H':Hp}{x:Addr}{ns:List Int}{low t:Int}{fp:List Addr}{cn:Nat}{M:Mf}(S:Sk a H x ns low t fp cn M)(s:Same H H'): Sk a H' x ns low t fp cn M:=S.kw (.same s)
theorem Sk.kq {a:Adr} {H H':Hp} {x p:Addr} {ns:List Int} {low t:Int} {fp:List Addr} {cn:Nat} {M:Mf} (S:Sk a H x ns low t fp cn M) (k:Kq p H H') (np:p∉fp) (hp:(∃kv,H p=some (.dK kv))\/∃C dx fs v,H p=some (.ins C dx fs)/\fs.lookup ("walks" : Str)=some v):Sk a H' x ns low t fp cn M:=by
 refine S.kw ⟨fun {b C dx fs} nw e=>k _ _ e fun z=>?_,fun {b ys} e=>k _ _ e fun z=>?_,fun b u e m=>k _ _ e fun z=>np (z ▸ m)⟩
 ·rcases hp with ⟨kv,h⟩ | ⟨C',dx',fs',v,h,hw⟩
  ·rw[z,h] at e;cases e
  ·rw[z,h] at e;cases e
   rw[nw] at hw;cases hw
 ·rcases hp with ⟨kv,h⟩ | ⟨C',dx',fs',v,h,hw⟩
  ·rw[z,h] at e;cases e
  ·rw[z,h] at e;cases e
def FQ (a:Adr): Sp:=fun vs H Q E=>∃(p d nr ln sh pl x:Addr) (ns ks:List Int) (low w t n:Int) (kvs:List (Key×V)) (fp:List Addr) (cn:Nat) (M:Mf),vs=[.ref p,.int t,.int n]/\Me a H p d nr ln sh pl ns low ks w/\H d=some (.dK kvs)/\bf kvs (.inl t)=some (.ref x)/\Sk a H x ns low t fp cn M ∧
 (¬(0<=n/\n < pgs ns*plc low)->E (.ref a.aD) none H) ∧
 (0<=n/\n < pgs ns*plc low->M (n / plc low)=none->∀d' H',H' d'=some (xdW d' (ky (.int t) (.int n) (.str "read")))->Same H H'->E (.ref a.aA) (some d') H') ∧
 (0<=n/\n < pgs ns*plc low->∀r,M (n / plc low)=some (.fresh r)->(r%2≠1->∀d' H',H' d'=some (xdW d' (ky (.int t) (.int n) (.str "read")))->Same H H'->E (.ref a.aL) (some d') H') ∧
  (r%2=1->∀H',Me a H' p d nr ln sh pl ns low ks (w+1)->Kq p H H'->Q (.int 0) H'))
def FR (a:Adr): Sp:=fun vs H Q E=>∃(p d nr ln sh pl:Addr) (ns ks:List Int) (low w:Int) (kvs:List (Key×V)) (n:Nat),vs=[.ref p]/\Me a H p d nr ln sh pl ns low ks w/\H d=some (.dK kvs)/\(∀j:Nat,j < n->(bf kvs (.inl j)).isSome=true)/\bf kvs (.inl n)=none/\Q (.int n) H
def FT (a:Adr): Sp:=fun vs H Q E=>∃(p d nr ln sh pl:Addr) (ns ks:List Int) (low w:Int) (kvs:List (Key×V)) (n:Nat),vs=[.ref p]/\Me a H p d nr ln sh pl ns low ks w/\H d=some (.dK kvs)/\(∀j:Nat,j < n->(bf kvs (.inl j)).isSome=true)/\bf kvs (.inl n)=none/\kvs.length < 100 ∧
 ∀x fp H',Me a H' p d nr ln sh pl ns low ks w->H' d=some (.dK (putK kvs (.inl (n:Int)) (.ref x)))->Sk a H' x ns low n fp 0 (fun _=>none)->(∀b∈fp,H b=none)->Kq d H H'->Q (.int n) H'
theorem eN.kq {C p:Addr}{H H':Hp}{sh:Addr}{ns:List Int}{low:Int}(S:eN C H sh ns low)(k:Kq p H H')(n1:∀D dx fs,H p≠some (.ins D dx fs)\/fs=[])(n2:∀xs,H p≠some (.tup xs)): eN C H' sh ns low:=by
 obtain⟨dx,t,h1,h2⟩:=S
 refine⟨dx,t,k _ _ h1 fun z=>?_,k _ _ h2 fun z=>n2 _ (by rw[<-z];exact h2)⟩
 rcases n1 C dx (ot t low) with q | q
 ·exact q (by rw[<-z];exact h1)
 ·have:=fq t low
  rw[q] at this
  cases this
theorem PlE.kq {a:Adr} {H H':Hp} {p q C dx:Addr} {n m:Nat} {fs:List (Str×V)} {v:V} (P:PlE a H p n m) (k:Kq q H H') (hq:H q=some (.ins C dx fs)) (hv:fs.lookup ("shape" : Str)=some v):PlE a H' p n m:=by
 have i:∀{b C' dx':Addr} {gs:List (Str×V)},gs.lookup ("shape" : Str)=none->H b=some (.ins C' dx' gs)->H' b=some (.ins C' dx' gs):=fun {b C' dx' gs} nw e=>k _ _ e fun z=>by
  rw[z,hq] at e;cases e
  rw[nw] at hv;cases hv
 have l:∀{b:Addr} {xs:List V},H b=some (.lst xs)->H' b=some (.lst xs):=fun {b xs} e=>k _ _ e fun z=>by rw[z,hq] at e;cases e
 obtain⟨dp,f1,f2,hd,s,p1,⟨dx1,c1,s1,ct1,q1,dc1,l1,q2,q3⟩,⟨dx2,c2,s2,ct2,r1,dc2,l2,r2,r3⟩⟩:=P
 exact⟨dp,f1,f2,hd,s,i rfl p1,⟨dx1,c1,s1,ct1,i rfl q1,dc1,l1,i rfl q2,l q3⟩,⟨dx2,c2,s2,ct2,i rfl r1,dc2,l2,i rfl r2,l r3⟩⟩
def FU (a:Adr): Sp:=fun vs H Q _=>∃(p sh dx:Addr) (ns:List Int) (low:Int),vs=[.ref p,.ref sh,.int 1,.int 0,.int 0]/\H p=some (.ins a.a_ dx [])/\eN a.aw H sh ns low/\Good ns low ∧
 ∀d nr ln pl H',Me a H' p d nr ln sh pl ns low [] 0->H' d=some (.dK [])->H d=none->H ln=none->Kq p H H'->Q .non H'
section
variable {P:Program}{w:World}{K:W.Frag}{mg:Str->Option Value}{base:Heap}{a:Adr}
theorem yN {dvs:List V} (R:bC K mg "read_word" mz ["memory", "task", "address"] dvs) (T:Txt w K mg a)
  (b7:HasFn P w K mg base 1 "space_of" ["memory", "task"] (vg a) [])
  (lF:HasFn P w K mg base 4 "near_frame" ["memory", "task", "address", "deed"] (Ht a) [])
  (eK:aB P w K mg base a.bt 1 "word" ["self", "frame", "place"] (mU) [])
  (cq:aB P w K mg base a.aw 3 "place_of" ["self", "address"] (qI a) [])
  (lG:aB P w K mg base a.aG 7 "seek" ["self", "address", "deed"] (FD a) [])
  (lH:HasFn P w K mg base 3 "read_found" ["memory", "task", "page", "place", "leaf"] (Hr a) []) :
  HasFn P w K mg base 8 "read_word" ["memory", "task", "address"] (FQ a) dvs:=by
 refine R.ok eX (fun vs H Q E h=>?_) (fun f cdv A outer s H vs Q E hr h=>?_)
 ·obtain⟨p,d,nr,ln,sh,pl,x,ns,ks,low,w',t,n,kvs,fp,cn,M,rfl,_⟩:=h
  rfl
 obtain⟨p,d,nr,ln,sh,pl,x,ns,ks,low,w',t,n,kvs,fp,cn,M,rfl,ME,hd,hv,S,k0,k1,k2⟩:=h
 refine⟨_,(@ah _ _ _ _ _ (@aN _ _ 3 _ _ _ _ eX.nd rfl (by first | exact Or.inl rfl | exact Or.inr rfl) (bz b7 (hr.mono (by decide)) (by rfl) af (@ae _ _ _ _ _ (pv 0) (@ae _ _ _ _ _ (pv 1) aj rfl) rfl)) (by rfl) (by first | exact Or.inl rfl | exact Or.inr rfl))
   (@ah _ _ _ _ _ (@aN _ _ 4 _ _ _ _ eX.nd rfl (by first | exact Or.inl rfl | exact Or.inr rfl) (bz lF (hr.mono (by decide)) (by rfl) af (@ae _ _ _ _ _ (pv 0) (@ae _ _ _ _ _ (pv 1) (@ae _ _ _ _ _ (pv 2) (@ae _ _ _ _ _ bd aj rfl) rfl) rfl) rfl)) (by rfl) (by first | exact Or.inl rfl | exact Or.inr rfl))
   (@ah _ _ _ _ _ (bx (aV xG (pv 4) gG (bH _)) (@ao _ _ _ (@aI _ _ _ _ (bu (aJ (pv 0) rfl) T.fb eK (hr.mono (by decide)) af (@ae _ _ _ _ _ (pv 4) (@ae _ _ _ _ _ (bu (aJ (pv 0) rfl) T.aE cq (hr.mono (by decide)) af (@ae _ _ _ _ _ (pv 2) aj rfl)) aj rfl) rfl)))) aS)
   (@ah _ _ _ _ _ (@aN _ _ 5 _ _ _ _ eX.nd rfl (by first | exact Or.inl rfl | exact Or.inr rfl) (bu (pv 3) T.bh lG (hr.mono (by decide)) af (@ae _ _ _ _ _ (pv 2) (@ae _ _ _ _ _ bd aj rfl) rfl)) (by rfl) (by first | exact Or.inl rfl | exact Or.inr rfl))
   (@ah _ _ _ _ _ (@aN _ _ 6 _ _ _ _ eX.nd rfl (by first | exact Or.inl rfl | exact Or.inr rfl) (bz lH (hr.mono (by decide)) (by rfl) af (@ae _ _ _ _ _ (pv 0) (@ae _ _ _ _ _ (pv 1) (@ae _ _ _ _ _ (@cY _ _ _ _ _ _ _ jy (pv 5) au (fun _ _=>rfl)) (@ae _ _ _ _ _ (@cY _ _ _ _ _ _ _ jy (pv 5) au (fun _ _=>rfl)) (@ae _ _ _ _ _ (@cY _ _ _ _ _ _ _ jy (pv 5) au (fun _ _=>rfl)) aj rfl) rfl) rfl) rfl) rfl)) (by rfl) (by first | exact Or.inl rfl | exact Or.inr rfl))
   (@ah _ _ _ _ _ (bI (pv 0) (aK dj (aJ (pv 0) rfl) au) rfl)
   (@ao _ _ _ (@aI _ _ _ _ (pv 6))))))))),?_⟩
 have t1:=T.b6;have t2:=T.bK;have t3:=T.aE;have t4:=T.bh;have t5:=T.fc
 have MA:=ME
 obtain⟨⟨dx,ss,h1⟩,h2,h3,h4,h5,h6⟩:=ME
 obtain⟨⟨nd,S1,A⟩,fr,inn⟩:=S
 obtain⟨dxs,shs,tr,dt,sh2,top,g1,_⟩:=S1.tr
 walk_at "go"
 refine⟨fun c=>?_,k0⟩
 walk_at "go"
 have pl0:0 < plc low:=Int.pow_pos (by decide)
 have q0:0<=n / plc low:=Int.ediv_nonneg c.1 (Int.le_of_lt pl0)
 have q1:n / plc low < pgs ns:=Int.ediv_lt_of_lt_mul pl0 c.2
 refine⟨fun y hy=>?_,fun z=>absurd c z,fun _ hn=>k1 c (A.none q0 q1 hn),fun _ y g hy lg=>?_⟩
 ·obtain⟨g,e1,e2⟩:=A.leaf q0 q1 hy
  obtain⟨r,rfl,ok⟩:=fr _ _ e1
  exact⟨_,e2,ok⟩
 obtain⟨g',e1,e2⟩:=A.leaf q0 q1 hy
 obtain⟨r,rfl,ok⟩:=fr _ _ e1
 have eg:g=.fresh r:=FE lg e2
 subst eg
 refine⟨fun hm=>(k2 c r e1).1 fun z=>?_,fun hm t2' H1 e3 s1 ht=>?_⟩
 ·have:=nV (r:=r) (b:=true) (by simp[z])
  have hm:Ae r "read" = false:=hm
  rw[this] at hm;cases hm
 have rm:r%2=1:=by
  by_cases z:r%2=1
  ·exact z
  ·have hm:Ae r "read" = true:=hm
   rw[nV (r:=r) (b:=false) (by simp[z])] at hm;cases hm
 have l1:=e2.same s1
 have h11:=s1 _ _ h1
 have sq:SqT K H1 t2' [.int (n / plc low),.int (n%plc low),.ref y]:=SqT.of e3
 walk_at "go"
 obtain⟨dn,mn,n1,n2⟩:=id h2
 refine(k2 c r e1).2 rm _ ((MA.same s1).off Kq.refl.set ?_ (fun _ _ _ _=>rfl) (fun xs=>⟨fun e=>(by rw[h11] at e;cases e),fun e=>(by rw[h11] at e;cases e)⟩) (fun dx' ss' e=>?_)) (show Kq p H H1 from fun b u e _=>s1 _ _ e).set
 ·rw[av fun z=>by rw[<-z,n2] at h1;cases h1];exact s1 _ _ n2
 ·rw[h11] at e;cases e
  rw[aq];rfl
theorem oC {dvs:List V} (R:bC K mg "least_free_task" eT ["memory"] dvs) (T:Txt w K mg a) :
  HasFn P w K mg base 1 "least_free_task" ["memory"] (FR a) dvs:=by
 refine R.ok eE (fun vs H Q E h=>?_) (fun f cdv A outer s H vs Q E hr h=>?_)
 ·obtain⟨p,d,nr,ln,sh,pl,ns,ks,low,w',kvs,n,rfl,_⟩:=h
  rfl
 obtain⟨p,d,nr,ln,sh,pl,ns,ks,low,w',kvs,n,rfl,ME,hd,hj,hn,k⟩:=h
 refine⟨_,(@ah _ _ _ _ _ (@aN _ _ 1 _ _ _ _ eE.nd rfl (by first | exact Or.inl rfl | exact Or.inr rfl) au (by rfl) (by first | exact Or.inl rfl | exact Or.inr rfl))
   (@ah _ _ _ _ _ (Eb cE (aV (EL hr.u1) (pv 1) (aJ (pv 0) rfl) (by with_unfolding_all rfl)) (@ao _ _ _ (@aN _ _ 1 _ _ _ _ eE.nd rfl (by first | exact Or.inl rfl | exact Or.inr rfl) (aK dj (pv 1) au) (by rfl) (by first | exact Or.inl rfl | exact Or.inr rfl))))
   (@ao _ _ _ (@aI _ _ _ _ (pv 1))))),?_⟩
 have t1:=T.b6;have t2:=T.cB
 obtain⟨⟨dx,ss,h1⟩,h2,h3,h4,h5,h6⟩:=ME
 walk_at "go"
 refine⟨fun m σ H'=>H'=H/\∃t:Nat,σ=[some (.ref p),some (.int t)]/\t<=n/\m=n-t,⟨_,rfl,0,rfl,Nat.zero_le _,rfl⟩,?_⟩
 rintro m σ H' ⟨rfl,t,rfl,tn,rfl⟩
 have gg:=lW.k (k:=Sum.inl (t:Int)) hd
 by_cases c:t=n
 ·subst c
  rw[hn] at gg
  walk_at "go"
  exact k
 ·have q:=hj t (by omega)
  cases hv:bf kvs (.inl (t:Int)) with
  | none=>rw[hv] at q;cases q
  | some v =>
   rw[hv] at gg
   walk_at "go"
   refine⟨fun σ H2=>H2=H'/\σ=[some (.ref p),some (.int (t+1))],?_,?_⟩
   ·rintro σ' H2 ⟨rfl,rfl⟩
    exact⟨n-(t+1),by omega,rfl,t+1,rfl,by omega,rfl⟩
   ·walk_at "go"
    exact rfl
theorem wv {dvs:List V} (R:bC K mg "begin_task" kN ["memory"] dvs) (T:Txt w K mg a)
  (fF:HasFn P w K mg base 1 "least_free_task" ["memory"] (FR a) [])
  (gi:cf P w K mg base a.aG 3 ["self", "shape", "task"] (Ad a) []) :
  HasFn P w K mg base 5 "begin_task" ["memory"] (FT a) dvs:=by
 refine R.ok nO (fun vs H Q E h=>?_) (fun f cdv A outer s H vs Q E hr h=>?_)
 ·obtain⟨p,d,nr,ln,sh,pl,ns,ks,low,w',kvs,n,rfl,_⟩:=h
  rfl
 obtain⟨p,d,nr,ln,sh,pl,ns,ks,low,w',kvs,n,rfl,ME,hd,hj,hn,kl,k⟩:=h
 refine⟨_,(@ah _ _ _ _ _ (@aN _ _ 1 _ _ _ _ nO.nd rfl (by first | exact Or.inl rfl | exact Or.inr rfl) (bz fF (hr.mono (by decide)) (by rfl) af (@ae _ _ _ _ _ (pv 0) aj rfl)) (by rfl) (by first | exact Or.inl rfl | exact Or.inr rfl))
   (@ah _ _ _ _ _ (@xM _ _ _ _ _ _ _ _ _ hr.u1 (aJ (pv 0) rfl) (pv 1) (iP gi (hr.mono (by decide)) (by rfl) T.GV af (@ae _ _ _ _ _ (aJ (pv 0) rfl) (@ae _ _ _ _ _ (pv 1) aj rfl) rfl)) (by rfl))
   (@ao _ _ _ (@aI _ _ _ _ (pv 1))))),?_⟩
 have t1:=T.b6;have t2:=T.cB;have t3:=T.bK
 have MA:=ME
 obtain⟨⟨dx,ss,h1⟩,h2,h3,h4,h5,h6⟩:=ME
 walk_at "go"
 refine fun y dy hy hdy _=>⟨y,sh,dy,ns,low,(n:Int),rfl,aq,h3.same (Ah hy hdy),h4,fun top H1 ht S1 q1=>⟨rfl,?_⟩⟩
 have s1:Same H H1:=fun b u e=>mkd hy hdy q1 e
 have LX:=s1 _ _ h1
 have h61:=s1 _ _ hd
 have dp:=AI.k (k:=Sum.inl (n:Int)) (v:=.ref y) h61 (by rw[sizeLine_eq];omega)
 walk_at "go"
 obtain⟨dn,mn,n1,n2⟩:=id h2
 have htH:=z_ (Ah hy hdy) ht
 have ntd:top≠d:=fun z=>by rw[z,hd] at htH;cases htH
 refine k y [top] _ ((MA.same s1).off Kq.refl.set (by rw[av h6.symm];exact s1 _ _ n2) (fun C dx fs e=>by rw[h61] at e;cases e) (fun xs=>⟨fun e=>(by rw[h61] at e;cases e),fun e=>(by rw[h61] at e;cases e)⟩) (fun dx ss e=>?_)) aq ?_ ?_ ?_
 ·rw[av fun z=>by rw[z,h61] at e;cases e];exact e
 ·refine Sk.kq (H:=H1) (p:=d) ⟨⟨_,S1,fun m h1 h2 _=>?_,fun m g h1 h2 h3=>(nomatch h3)⟩,fun m g h=>(nomatch h),fun m g h=>(nomatch h)⟩ Kq.refl.set (by simp[ntd.symm]) (.inl ⟨_,h61⟩)
  show (if parts ns m=[] then some top else none)=none
  refine if_neg fun z=>?_
  have:=congrArg List.length z
  rw[o6] at this
  have l:=h4.len
  simp at this
  rw[this] at l
  simp at l
 ·intro b hb
  rw[List.mem_singleton.mp hb];exact htH
 ·exact(show Kq d H H1 from fun b u e _=>s1 _ _ e).set
theorem oE {dvs:List V} (R:eM K a.a_ "Memory.__init__" cF ["self", "shape", "frames", "slots", "near"] dvs) (T:Txt w K mg a)
  (hV:cf P w K mg base a.bt 5 ["self", "frames", "slots", "size"] (JG a) [])
  (bL:aB P w K mg base a.aw 1 "size" ["self"] (uL a) [])
  (hX:cf P w K mg base a.bD 1 ["self", "many"] (JH a) [])
  (fG:cf P w K mg base a.bJ 1 ["self"] (JI a) []) :
  cf P w K mg base a.a_ 7 ["self", "shape", "frames", "slots", "near"] (FU a) dvs:=by
 refine R.ok oj (fun vs H Q E h=>?_) (fun f cdv A outer s H vs Q E hr h=>?_)
 ·obtain⟨p,sh,dx,ns,low,rfl,_⟩:=h
  rfl
 obtain⟨p,sh,dx,ns,low,rfl,hp,S,g,k1⟩:=h
 refine⟨_,(@ah _ _ _ _ _ (bI (pv 0) (pv 1) rfl)
   (@ah _ _ _ _ _ (bI (pv 0) (iP hV (hr.mono (by decide)) (by rfl) T.IB af (@ae _ _ _ _ _ (pv 2) (@ae _ _ _ _ _ (pv 3) (@ae _ _ _ _ _ (gI (pv 1) T.aE bL (hr.mono (by decide)) af) aj rfl) rfl) rfl)) rfl)
   (@ah _ _ _ _ _ (bI (pv 0) (iP hX (hr.mono (by decide)) (by rfl) T.IC af (@ae _ _ _ _ _ (pv 4) aj rfl)) rfl)
   (@ah _ _ _ _ _ (bI (pv 0) (Ir fG (hr.mono (by decide)) (by rfl) T.Fs af) rfl)
   (@ah _ _ _ _ _ (bI (pv 0) gw rfl)
   (@ao _ _ _ (bI (pv 0) au rfl))))))),?_⟩
 have t1:=T.b6;have t2:=T.cB;have t3:=T.bK;have t4:=T.et;have t5:=T.er;have t6:=T.gZ;have t7:=T.fc;have t8:=T.aE
 have so:=G3 g.Bi g.Bj
 obtain⟨dxs,ts,hs,hw⟩:=id S
 have n1:∀D dx' fs,H p≠some (.ins D dx' fs)\/fs=[]:=fun D dx' fs=>by
  by_cases c:fs=[]
  ·exact .inr c
  ·exact .inl fun z=>by rw[hp] at z;cases z;exact c rfl
 have n2:∀xs,H p≠some (.tup xs):=fun xs=>by rw[hp];intro z;cases z
 have nsp:sh≠p:=fun z=>by
  rcases n1 _ _ _ with q | q
  ·exact q (by rw[<-z];exact hs)
  ·have:=fq ts low
   rw[q] at this
   cases this
 have fz:(ot ts low).lookup ("size" : Str)=none:=cy _ _ (by decide +kernel) (by decide +kernel)
 have SA:eN a.aw (upd H p (.ins a.a_ dx (gu "shape" (.ref sh) []))) sh ns low:=S.kq Kq.refl.set n1 n2
 walk_at "go"
 generalize hA:upd _ p _=HA at *
 obtain⟨hpA,rA⟩:=DL hA (Kq.refl (p:=p))
 clear hA
 refine fun x1 d1 hx1 hd1 _=>⟨x1,d1,1,0,_,rfl,aq,so.1,so.2,by decide,by decide,by decide,by decide,fun H1 P1 q1=>⟨rfl,?_⟩⟩
 have hp1:=mkd hx1 hd1 q1 hpA
 have r1:=rA.mk hx1 hd1 q1
 walk_at "go"
 generalize hB:upd H1 p _=HB
 obtain⟨hpB,rB⟩:=DL hB r1
 have r1B:Kq p H1 HB:=by rw[<-hB];exact Kq.refl.set
 clear hB
 refine fun x2 d2 hx2 hd2 _=>⟨x2,d2,0,rfl,aq,fun _ ln H2 hl N2 q2=>⟨rfl,?_⟩,fun bad=>absurd (.inl rfl) bad⟩
 have hp2:=mkd hx2 hd2 q2 hpB
 have r2:=rB.mk hx2 hd2 q2
 have hlB:=z_ (Ah hx2 hd2) hl
 walk_at "go"
 generalize hC:upd H2 p _=HC
 obtain⟨hpC,rC⟩:=DL hC r2
 have r2C:Kq p H2 HC:=by rw[<-hC];exact Kq.refl.set
 have r1C:Kq p H1 HC:=by rw[<-hC];exact(r1B.mk hx2 hd2 q2).set
 clear hC
 refine fun x3 d3 hx3 hd3 _=>⟨x3,d3,rfl,aq,fun H3 q3=>⟨rfl,?_⟩⟩
 have hp3:=mkd hx3 hd3 q3 hpC
 have r3:=rC.mk hx3 hd3 q3
 have r23:=r2C.mk hx3 hd3 q3
 walk_at "go"
 intro d hd
 have hdp:d≠p:=fun z=>by rw[z,aq] at hd;cases hd
 have IK:H3 d=none:=by rw[av hdp] at hd;exact hd
 walk_at "go"
 generalize hD:upd (upd (upd (upd H3 p _) d _) p _) p _=HD
 obtain⟨hpD,rD⟩:=DL hD ((r3.set.new hd).set)
 have r2D:Kq p H2 HD:=by rw[<-hD];exact(r23.set.new hd).set.set
 have hdD:HD d=some (.dK []):=by rw[<-hD,av hdp,av hdp];exact aq
 obtain⟨dn,mn,g1,g2⟩:=N2
 have nx2:x2≠p:=(az hpB hx2).symm
 have nlp:ln≠p:=(az hpB hlB).symm
 have hd0:H d=none:=by
  cases e:H d with
  | none=>rfl
  | some u=>rw[r3 _ _ e hdp] at IK;cases IK
 have r1D:Kq p H1 HD:=by rw[<-hD];exact((r1C.mk hx3 hd3 q3).set.new hd).set.set
 have hl0:H ln=none:=by
  cases e:H ln with
  | none=>rfl
  | some u=>rw[rB _ _ e nlp] at hlB;cases hlB
 refine k1 d x2 ln x1 HD ⟨⟨dx,x3,by rw[hpD];rfl⟩,⟨dn,mn,r2D _ _ g1 nx2,r2D _ _ g2 nlp⟩,S.kq rD n1 n2,g,P1.kq (v:=.ref sh) r1D hp1 rfl,fun z=>?_⟩ hdD hd0 hl0 rD
 have:=r23 _ _ g2 nlp
 rw[<-z,IK] at this;cases this
end
end K36

set_option maxHeartbeats 4000000
namespace K36
open PySem L2
def Bo (K:W.Frag): Sp:=fun vs H Q _=>∃(p:Addr) (ns:List Int) (k:Int),vs=[.ref p,.int k]/\SqL K H p (ns.map V.int)/\0<=k/\Q (.int (ns.getD k.toNat 0)) H
def CI:Sp:=fun vs H Q _=>∃i,vs=[.int i]/\Q (.bl true) H
section
variable {P:Program}{w:World}{K:W.Frag}{mg:Str->Option Value}{base:Heap}{a:Adr}
theorem sU {dvs:List V} (R:bC K mg "_law_cell_at" i4 ["_law_script", "_law_k"] dvs) (T:Txt w K mg a) :
  HasFn P w K mg base 1 "_law_cell_at" ["_law_script", "_law_k"] (Bo K) dvs:=by
 refine R.ok sI (fun vs H Q E h=>?_) (fun f cdv A outer s H vs Q E hr h=>?_)
 ·obtain⟨p,ns,k,rfl,_⟩:=h
  rfl
 obtain⟨p,ns,k,rfl,S,h0,q⟩:=h
 refine⟨_,(@ah _ _ _ _ _ (bx (aV wJ (pv 1) (bU dN (by rfl) T.pN PySem.boot_len (@ae _ _ _ _ _ (pv 0) aj rfl)) (bH _)) (@ao _ _ _ (@aI _ _ _ _ (@cY _ _ _ _ _ _ _ cV (pv 0) (pv 1) (fun _ _=>rfl)))) aS)
   (@ao _ _ _ (@aI _ _ _ _ au))),?_⟩
 refine⟨_,rfl,_,rfl,p,_,rfl,.inl S,_,_,rfl,rfl,_,rfl,iw (fun c=>?_) fun c=>?_⟩
 ·rw[List.length_map] at c
  exact⟨_,rfl,_,rfl,p,_,_,_,rfl,rfl,S,EI h0 c,q⟩
 ·rw[List.length_map] at c
  rw[EJ (by omega)] at q
  exact q
theorem wx {dvs:List V} (R:bC K mg "_law_whole" kU ["_law_found_here"] dvs) (T:Txt w K mg a) :
  HasFn P w K mg base 1 "_law_whole" ["_law_found_here"] (CI) dvs:=by
 refine R.ok vU (fun vs H Q E h=>?_) (fun f cdv A outer s H vs Q E hr h=>?_)
 ·obtain⟨i,rfl,_⟩:=h
  rfl
 obtain⟨i,rfl,q⟩:=h
 refine⟨_,(@ao _ _ _ (@aI _ _ _ _ (HG (bU cT (by rfl) T.bY PyProof.Rows.Boot.«isinstance» (@ae _ _ _ _ _ (pv 0) (@ae _ _ _ _ _ (BO (v:=.ty "int") (by rfl) T.Cj PyProof.Rows.Boot.«int» rfl) aj rfl) rfl)) (HF (HH (bU cT (by rfl) T.bY PyProof.Rows.Boot.«isinstance» (@ae _ _ _ _ _ (pv 0) (@ae _ _ _ _ _ (BO (v:=.ty "bool") (by rfl) T.Bg PyProof.Rows.Boot.«bool» rfl) aj rfl) rfl))))))),?_⟩
 exact⟨_,rfl,.int i,.ty "int",.type "int",true,rfl,rfl,.of (.int i),bv K _,true,rfl,oV ⟨_,rfl,.int i,.ty "bool",.type "int",false,rfl,rfl,.of (.int i),cu K,false,rfl,q⟩⟩
end
def Wid (ns:List Int): Prop:=(ns.length=2\/ns.length=3)/\∀x∈ns,1<=x/\x<=24
def xv (K:W.Frag): Sp:=fun vs H Q _=>∃(p:Addr) (ss:List Int),vs=[.ref p]/\SqL K H p (ss.map V.int)/\∀(q:Addr) (ns:List Int),H q=none->Wid ns->Q (.ref q) (upd H q (.lst (ns.map V.int)))
section
variable {P:Program}{w:World}{K:W.Frag}{mg:Str->Option Value}{base:Heap}{a:Adr}
theorem vm {dvs:List V} (R:bC K mg "_law_widths" jK ["_law_script"] dvs) (T:Txt w K mg a)
  (bR:HasFn P w K mg base 1 "_law_cell_at" ["_law_script", "_law_k"] (Bo K) []) :
  HasFn P w K mg base 2 "_law_widths" ["_law_script"] (xv K) dvs:=by
 refine R.ok uz (fun vs H Q E h=>?_) (fun f cdv A outer s H vs Q E hr h=>?_)
 ·obtain⟨p,ss,rfl,_⟩:=h
  rfl
 obtain⟨p,ss,rfl,S,k⟩:=h
 refine⟨_,(ao (aI (B7 (xs:=["_law_k"]) (N':=["_law_script"]) rfl ⟨rfl,by decide +kernel,by decide +kernel,by dsimp only [iq,PyProof.Rows.envOfC];decide +kernel,by decide +kernel,by dsimp only [iq];decide +kernel,rfl⟩ (CU (by rfl) T.lr (ae au (ae (aK dj au (aK cJ (bz bR (hr.mono (by decide)) (by rfl) af (ae (pv 0) (ae au aj rfl) rfl)) au)) aj rfl) rfl)) (fun _ _ _ _ _=>(b5 (i:=0) (by dsimp only [dw];decide +kernel) rfl (by first | exact Or.inl rfl | exact Or.inr rfl))) (fun _ _ _ _ _=>xR) (fun _ _ _ _ _=>(aK dj au (aK cJ (bz bR (hr.mono (by decide)) (by rfl) wY (ae (pv 1) (ae (pv 0) aj rfl) rfl)) au)))))),?_⟩
 refine⟨_,rfl,p,ss,0,rfl,S,by decide,_,_,rfl,rfl,(by show (0:Int) < 2;decide),_,_,rfl,rfl,1,_,rfl,⟨by decide,by decide,by omega,by omega⟩,?_⟩
 generalize ss.getD (0:Int).toNat 0=v
 have hn:(3+v%2-1).toNat=2\/(3+v%2-1).toNat=3:=by omega
 generalize (3+v%2-1).toNat=n at hn
 refine fun q hq=>AX hq (fun i=>.int (1+ss.getD (1+(i:Int)).toNat 0%24)) (fun _=>true) ?_ (fun i ys hi R r=>r) (fun i ys hi _ R r=>?_) ?_
 ·rw[sizeLine_eq];omega
 ·exact⟨_,rfl,_,rfl,p,ss,1+(i:Int),rfl,(aH hq).seq S,by omega,_,_,rfl,rfl,(by show (0:Int) < 24;decide),_,_,rfl,rfl,r⟩
 ·have e:((List.range n).filter fun _=>true).map (fun i:Nat=>V.int (1+ss.getD (1+(i:Int)).toNat 0%24))=((List.range n).map fun i:Nat=>1+ss.getD (1+(i:Int)).toNat 0%24).map V.int:=by
   rw[filter_tt,List.map_map]
   rfl
  rw[e]
  refine k q _ hq ⟨by rw[List.length_map,List.length_range];exact hn,fun x hx=>?_⟩
  rw[List.mem_map] at hx
  obtain⟨i,_,rfl⟩:=hx
  omega
end
inductive fH where
 | ji | lZ | done | Bp | word | tak (n:Int) | unm (t n w:Int) | bar (t n:Int)
def wy (w:Int): Str:=if w=1 then "unmap" else if w=2 then "rights" else "read"
def fH.row:fH->List V
 | .ji=>[.str "no stretch"] | .lZ=>[.str "no rights"] | .done=>[.str "done"] | .Bp=>[.str "no address"] | .word=>[.str "word",.int 0] | .tak n=>[.str "taken",.int n]
 | .unm t n w=>[.str "unmapped",.int t,.int n,.str (wy w)] | .bar t n=>[.str "barred",.int t,.int n,.str "read"]
def fH.dat:fH->List PyData
 | .ji=>[.str "no stretch"] | .lZ=>[.str "no rights"] | .done=>[.str "done"] | .Bp=>[.str "no address"] | .word=>[.str "word",.int 0] | .tak n=>[.str "taken",.int n]
 | .unm t n w=>[.str "unmapped",.int t,.int n,.str (wy w)] | .bar t n=>[.str "barred",.int t,.int n,.str "read"]
theorem fH.yO (K:W.Frag)(H:Hp)(o:fH): DatAll K H o.row o.dat:=by
 cases o<;>first | exact .cons (.str _) .nil | exact .cons (.str _) (.cons (.int _) .nil) | exact .cons (.str _) (.cons (.int _) (.cons (.int _) (.cons (.str _) .nil)))
theorem fH.tid (o:fH): Tid 2 (.tuple o.dat):=by
 refine Tid.tuple fun d hd=>?_
 have i:∀n,Tid 1 (.int n):=Tid.int
 have s:∀x:Str,x = "no stretch" ∨ x = "no rights" ∨ x = "done" ∨ x = "no address" ∨ x = "word" ∨ x = "taken" ∨ x = "unmapped" ∨ x = "barred" ∨ x = "unmap" ∨ x = "rights" ∨ x = "read" -> Tid 1 (.str x):=fun x hx=>by
  rcases hx with rfl | rfl | rfl | rfl | rfl | rfl | rfl | rfl | rfl | rfl | rfl<;>exact Tid.str (by decide +kernel)
 have w:∀w,Tid 1 (.str (wy w)):=fun w=>by
  unfold wy
  split
  ·exact s _ (by simp)
  ·split<;>exact s _ (by simp)
 cases o<;>simp[fH.dat] at hd<;>(try rcases hd with rfl | rfl | rfl | rfl)<;>(try rcases hd with rfl | rfl)<;>(try subst hd)<;>first | exact i _ | exact w _ | exact s _ (by simp)
def eO (w:Int)(M:Mf)(n:Int): Prop:=if w=0 then (M n).isSome=true else M n=none
def Mf.dd (M:Mf)(w f m r:Int): Mf:=if w=0 then M.lay f (eB m.toNat r) else if w=1 then M.gone f m else M.chg f m r
inductive Dn (M:Mf)(ns:List Int)(low t w f m r:Int): fH->Mf->Prop where
 | ji:¬eu ns f m->Dn M ns low t w f m r .ji M
 | lZ:eu ns f m->w≠1->¬OkR r->Dn M ns low t w f m r .lZ M
 | tak (j:Nat):eu ns f m->(w≠1->OkR r)->(j:Int) < m->(∀i:Nat,i < j->¬eO w M (f+i))->eO w M (f+j)->w=0->Dn M ns low t w f m r (.tak (f+j)) M
 | unm (j:Nat):eu ns f m->(w≠1->OkR r)->(j:Int) < m->(∀i:Nat,i < j->¬eO w M (f+i))->eO w M (f+j)->w≠0->Dn M ns low t w f m r (.unm t ((f+j)*plc low) w) M
 | done:eu ns f m->(w≠1->OkR r)->(∀i:Nat,(i:Int) < m->¬eO w M (f+i))->Dn M ns low t w f m r .done (M.dd w f m r)
theorem Dn.one {M M1 M2:Mf}{ns:List Int}{low t w f m r:Int}{o1 o2:fH}(h1:Dn M ns low t w f m r o1 M1)(h2:Dn M ns low t w f m r o2 M2): o1=o2/\M1=M2:=by
 have tri:∀i j:Nat,(∀k:Nat,k < i->¬eO w M (f+k))->eO w M (f+i)->(∀k:Nat,k < j->¬eO w M (f+k))->eO w M (f+j)->i=j:=fun i j a b c d=>by
  rcases Nat.lt_trichotomy i j with z | z | z
  ·exact absurd b (c _ z)
  ·exact z
  ·exact absurd d (a _ z)
 cases h1<;>cases h2<;>first
  | exact⟨rfl,rfl⟩
  | (rename_i i _ _ _ ib ic id j _ _ _ jb jc jd;rw[tri i j ib ic jb jc];exact⟨rfl,rfl⟩)
  | (exfalso;grind)
def Kr (H:Hp)(d:Addr)(M:Mf)(c:Nat): Prop:=∃kvs:List (Key×V),H d=some (.dK kvs)/\kvs.length<=c/\∀n,bf kvs (.inl n)=(M n).map fun g=>V.int g.rights
theorem Kr.keep {H H':Hp}{d:Addr}{M:Mf}{c:Nat}(k:Kr H d M c)(h:∀u,H d=some u->H' d=some u): Kr H' d M c:=let ⟨kvs,e,l⟩:=k;⟨kvs,h _ e,l⟩
theorem Kr.mono {H:Hp}{d:Addr}{M:Mf}{c c':Nat}(k:Kr H d M c)(h:c<=c'): Kr H d M c':=let ⟨kvs,e,l,v⟩:=k;⟨kvs,e,Nat.le_trans l h,v⟩
theorem G4 (g:Lf)(r:Int): (g.rL r).rights=r:=by cases g<;>rfl
theorem Kr.dd {H:Hp}{d:Addr}{M:Mf}{c:Nat}{kvs kvs':List (Key×V)}{w f m r:Int}(v:∀n,bf kvs (.inl n)=(M n).map fun g=>V.int g.rights)(h:H d=some (.dK kvs'))(l:kvs'.length<=c)(m0:0<=m)(hw:w=0\/w=1\/w=2)
  (v':∀n,bf kvs' (.inl n)=if f<=n/\n < f+m then (if w=1 then none else some (.int r)) else bf kvs (.inl n)) (al:∀i:Nat,(i:Int) < m->¬eO w M (f+i)):Kr H d (M.dd w f m r) c:=by
 refine⟨kvs',h,l,fun n=>?_⟩
 rw[v' n,v n]
 by_cases z:f<=n/\n < f+m
 ·rw[if_pos z]
  have q:=al (n-f).toNat (by omega)
  rw[show f+((n-f).toNat:Int)=n by omega] at q
  unfold eO at q
  rcases hw with rfl | rfl | rfl
  ·have e:M.dd 0 f m r n=some (.fresh r):=by
    show Mf.lay M f (eB m.toNat r) n=_
    unfold Mf.lay eB
    rw[List.length_replicate,if_pos (by omega),List.getElem?_replicate,if_pos (by omega)]
   rw[e];rfl
  ·have e:M.dd 1 f m r n=none:=by show Mf.gone M f m n=_;unfold Mf.gone;rw[if_pos z]
   rw[e];rfl
  ·have e:M.dd 2 f m r n=(M n).map (Lf.rL r):=by show Mf.chg M f m r n=_;unfold Mf.chg;rw[if_pos z]
   rw[e]
   cases hm:M n with
   | none=>exact absurd hm q
   | some g=>show some (V.int r)=some (V.int (Lf.rL r g).rights);rw[G4]
 ·rw[if_neg z]
  have e:M.dd w f m r n=M n:=by
   unfold Mf.dd Mf.lay Mf.gone Mf.chg eB
   rw[List.length_replicate]
   split
   ·dsimp only;rw[if_neg (by omega)]
   ·split<;>dsimp only<;>rw[if_neg (by omega)]
  rw[e]
def nH (M:Mf)(ns:List Int)(low t n:Int): fH:=if pgs ns<=n / plc low then .Bp else match M (n / plc low) with
 | none=>.unm t n 0 | some g=>if g.rights%2=1 then .word else .bar t n
def nA:Sp:=fun vs H Q _=>∃c:Int,vs=[.int c]/\∀(v:Int) (H':Hp),Same H H'->Q (.int v) H'
def FV:Sp:=fun vs H Q _=>∃(d:Addr) (t n low:Int) (ns:List Int) (M:Mf) (c:Nat),vs=[.ref d,.int t,.int n,.int low,.int (pgs ns)]/\Kr H d M c/\Frs M/\0<=low/\low<=6/\∀q H',H' q=some (.tup (nH M ns low t n).row)->Same H H'->Q (.ref q) H'
section
variable {P:Program}{w:World}{K:W.Frag}{mg:Str->Option Value}{base:Heap}{a:Adr}
theorem yP {dvs:List V} (R:bC K mg "_law_many" mB ["_law_cell"] dvs) (T:Txt w K mg a) :
  HasFn P w K mg base 1 "_law_many" ["_law_cell"] (nA) dvs:=by
 refine R.ok yr (fun vs H Q E h=>?_) (fun f cdv A outer s H vs Q E hr h=>?_)
 ·obtain⟨c,rfl,_⟩:=h
  rfl
 obtain⟨c,rfl,k⟩:=h
 refine⟨_,(@ah _ _ _ _ _ (bx (aV zb (aK cJ (pv 0) au) au (bH _)) (@ao _ _ _ (@aI _ _ _ _ (aK dj au (aK cJ (aK dM (pv 0) au) au)))) aS)
   (@ao _ _ _ (@aI _ _ _ _ (@cY _ _ _ _ _ _ _ cV (@kB _ _ _ _ (@ae _ _ _ _ _ au (@ae _ _ _ _ _ au (@ae _ _ _ _ _ au (@ae _ _ _ _ _ (aK dj au (aK cJ (aK dM (pv 0) au) (aK Au au au))) aj rfl) rfl) rfl) rfl)) (aK cJ (aK dM (pv 0) au) au) (fun _ _=>rfl))))),?_⟩
 walk_at "go"
 refine iw (fun _=>?_) fun _=>?_
 ·walk_at "go"
  exact k _ _ (.refl _)
 ·walk_at "go"
  intro q hq
  generalize hh:upd _ q _=H1
  obtain⟨s1,e1⟩:=cI hq hh
  clear hh
  have sq:=SqL.of (K:=K) e1
  obtain⟨v,ev⟩:∃v:Int,atI [V.int 0,V.int 64,V.int 65,V.int (66+c / 36%10^Int.toNat 30)] (c / 9%4)=some (.int v):=by
   have:c / 9%4=0\/c / 9%4=1\/c / 9%4=2\/c / 9%4=3:=by omega
   rcases this with z | z | z | z<;>rw[z]<;>exact⟨_,rfl⟩
  walk_at "go"
  exact k v _ s1
theorem vn {dvs:List V} (R:bC K mg "_law_rights" jL ["_law_cell"] dvs) (T:Txt w K mg a) :
  HasFn P w K mg base 1 "_law_rights" ["_law_cell"] (nA) dvs:=by
 refine R.ok uA (fun vs H Q E h=>?_) (fun f cdv A outer s H vs Q E hr h=>?_)
 ·obtain⟨c,rfl,_⟩:=h
  rfl
 obtain⟨c,rfl,k⟩:=h
 refine⟨_,(@ah _ _ _ _ _ (bx (aV wJ (aK cJ (pv 0) au) au (bH _)) (@ao _ _ _ (@aI _ _ _ _ (aK cJ (pv 0) au))) aS)
   (@ao _ _ _ (@aI _ _ _ _ (@cY _ _ _ _ _ _ _ cV (@kB _ _ _ _ (@ae _ _ _ _ _ (aK l7 (nI jx au) (aK cJ (aK dM (pv 0) au) (aK Au au au))) (@ae _ _ _ _ _ (aK dj au (aK cJ (aK dM (pv 0) au) (aK Au au au))) aj rfl) rfl)) (aK cJ (pv 0) au) (fun _ _=>rfl))))),?_⟩
 walk_at "go"
 refine iw (fun _=>?_) fun _=>?_
 ·walk_at "go"
  exact k _ _ (.refl _)
 ·walk_at "go"
  intro q hq
  generalize hh:upd _ q _=H1
  obtain⟨s1,e1⟩:=cI hq hh
  clear hh
  have sq:=SqL.of (K:=K) e1
  obtain⟨v,ev⟩:∃v:Int,atI [V.int (-1-c / 10%10^Int.toNat 30),V.int (4+c / 10%10^Int.toNat 30)] (c%2)=some (.int v):=by
   have:c%2=0\/c%2=1:=by omega
   rcases this with z | z<;>rw[z]<;>exact⟨_,rfl⟩
  walk_at "go"
  exact k v _ s1
theorem wz {dvs:List V} (R:bC K mg "_law_mixed" kX ["_law_raw"] dvs) (T:Txt w K mg a) :
  HasFn P w K mg base 1 "_law_mixed" ["_law_raw"] (nA) dvs:=by
 refine R.ok vX (fun vs H Q E h=>?_) (fun f cdv A outer s H vs Q E hr h=>?_)
 ·obtain⟨c,rfl,_⟩:=h
  rfl
 obtain⟨c,rfl,k⟩:=h
 refine⟨_,(@ao _ _ _ (@aI _ _ _ _ (aK dj (aK xD (pv 0) au) (aK cJ (aK xD (aK cJ (pv 0) au) au) au)))),?_⟩
 have cm:Ee (c%65537) 48271:=.inr ⟨by decide,by decide⟩
 walk_at "go"
 exact k _ _ (.refl _)
theorem qU {dvs:List V} (R:bC K mg "_law_read_due" gU ["_law_kept", "_law_task", "_law_address", "_law_low", "_law_pages"] dvs) (T:Txt w K mg a) :
  HasFn P w K mg base 1 "_law_read_due" ["_law_kept", "_law_task", "_law_address", "_law_low", "_law_pages"] (FV) dvs:=by
 refine R.ok kf (fun vs H Q E h=>?_) (fun f cdv A outer s H vs Q E hr h=>?_)
 ·obtain⟨d,t,n,low,ns,M,c,rfl,_⟩:=h
  rfl
 obtain⟨d,t,n,low,ns,M,c,rfl,KR,F,l0,l6,k⟩:=h
 refine⟨_,(@ah _ _ _ _ _ (@aN _ _ 5 _ _ _ _ kf.nd rfl (by first | exact Or.inl rfl | exact Or.inr rfl) (aK Av (pv 2) (pv 3)) (by rfl) (by first | exact Or.inl rfl | exact Or.inr rfl))
   (@ah _ _ _ _ _ (bx (aV Jd (pv 5) (pv 4) (bH _)) (@ao _ _ _ (@aI _ _ _ _ (@b8 _ _ _ _ _ (@ae _ _ _ _ _ bd aj rfl)))) aS)
   (@ah _ _ _ _ _ (bx (aV (ke hr.u1) (pv 5) (pv 0) (by with_unfolding_all rfl)) (@ao _ _ _ (@aI _ _ _ _ (@b8 _ _ _ _ _ (@ae _ _ _ _ _ bd (@ae _ _ _ _ _ (pv 1) (@ae _ _ _ _ _ (pv 2) (@ae _ _ _ _ _ bd aj rfl) rfl) rfl) rfl)))) aS)
   (@ah _ _ _ _ _ (bx (aV kD (sZ hr.u1 (pv 0) (pv 5) (fun _ _=>rfl)) (@b8 _ _ _ _ _ (@ae _ _ _ _ _ au (@ae _ _ _ _ _ au aj rfl) rfl)) (by with_unfolding_all rfl)) (@ao _ _ _ (@aI _ _ _ _ (@b8 _ _ _ _ _ (@ae _ _ _ _ _ bd (@ae _ _ _ _ _ (pv 1) (@ae _ _ _ _ _ (pv 2) (@ae _ _ _ _ _ bd aj rfl) rfl) rfl) rfl)))) aS)
   (@ao _ _ _ (@aI _ _ _ _ (@b8 _ _ _ _ _ (@ae _ _ _ _ _ bd (@ae _ _ _ _ _ au aj rfl) rfl)))))))),?_⟩
 obtain⟨kvs,hd,kl,kv⟩:=id KR
 have gg:=lW.k (k:=Sum.inl (n / plc low)) hd
 rw[kv] at gg
 walk_at "go"
 refine iw (fun c1=>?_) fun c1=>?_
 ·walk_at "go"
  intro q hq
  generalize hh:upd _ q _=H1
  obtain⟨s1,e1⟩:=cI hq hh
  clear hh
  refine k q H1 ?_ s1
  rw[e1];unfold nH;rw[if_pos (show pgs ns<=n / plc low from c1)];rfl
 have c1:¬pgs ns<=n / plc low:=c1
 cases hm:M (n / plc low) with
 | none =>
  rw[hm] at gg
  walk_at "go"
  intro q hq
  generalize hh:upd _ q _=H1
  obtain⟨s1,e1⟩:=cI hq hh
  clear hh
  refine k q H1 ?_ s1
  rw[e1];unfold nH;rw[if_neg c1,hm];rfl
 | some g =>
  rw[hm] at gg
  obtain⟨r,rfl,ok⟩:=F _ _ hm
  walk_at "go"
  intro u hu
  generalize hh:upd _ u _=H1
  obtain⟨s1,e1⟩:=cI hu hh
  clear hh
  have sq:SqT K H1 u (([1,3]:List Int).map V.int):=SqT.of e1
  have fl:(([1,3]:List Int).map V.int).all nJ=true:=wZ _
  walk_at "go"
  rw[if_pos rfl,show inV ((fun g:Lf=>V.int g.rights) (Lf.fresh r)) (([1,3]:List Int).map V.int)=decide (r∈([1,3]:List Int)) from o3 r [1,3]]
  have mi:r∈([1,3]:List Int)↔r%2=1:=by simp;have:=ok.1;have:=ok.2;omega
  refine qf (fun c2=>?_) fun c2=>?_
  ·walk_at "go"
   intro q hq
   generalize hh:upd _ q _=H2
   obtain⟨s2,e2⟩:=cI hq hh
   clear hh
   refine k q H2 ?_ (s1.trans s2)
   rw[e2];unfold nH;rw[if_neg c1,hm];show _=some (HO.tup (fH.row (if r%2=1 then _ else _)));rw[if_neg (fun z=>c2 (mi.mpr z))];rfl
  ·walk_at "go"
   intro q hq
   generalize hh:upd _ q _=H2
   obtain⟨s2,e2⟩:=cI hq hh
   clear hh
   refine k q H2 ?_ (s1.trans s2)
   rw[e2];unfold nH;rw[if_neg c1,hm];show _=some (HO.tup (fH.row (if r%2=1 then _ else _)));rw[if_pos (mi.mp c2)];rfl
end
end K36

set_option maxHeartbeats 4000000
namespace K36
open PySem L2
theorem oW (kvs:List (Key×V))(k:Key): (dk kvs k).length<=kvs.length:=by
 unfold dk
 exact List.length_filter_le _ _
def CJ:Sp:=fun vs H Q _=>∃(d:Addr) (w t f m r low:Int) (ns:List Int) (M:Mf) (c:Nat),vs=[.ref d,.int w,.int t,.int f,.int m,.int r,.int (pgs ns),.int low]/\Kr H d M c/\c < 5000/\(w=0\/w=1\/w=2)/\0<=f/\0<=low/\low<=6/\pgs ns<=2^100 ∧
 ∀o M' q H',Dn M ns low t w f m r o M'->H' q=some (.tup o.row)->Kr H' d M' (c+64)->Kq d H H'->Q (.ref q) H'
section
variable {P:Program}{w:World}{K:W.Frag}{mg:Str->Option Value}{base:Heap}{a:Adr}
theorem Ak {dvs:List V} (R:bC K mg "_law_due" eD ["_law_kept", "_law_way", "_law_task", "_law_first", "_law_many_here", "_law_rights_here", "_law_pages", "_law_low"] dvs) (T:Txt w K mg a) :
  HasFn P w K mg base 1 "_law_due" ["_law_kept", "_law_way", "_law_task", "_law_first", "_law_many_here", "_law_rights_here", "_law_pages", "_law_low"] (CJ) dvs:=by
 refine R.ok mH (fun vs H Q E h=>?_) (fun f cdv A outer s H vs Q E hr h=>?_)
 ·obtain⟨d,w',t,f',m,r,low,ns,M,c,rfl,_⟩:=h
  rfl
 obtain⟨d,w',t,f',m,r,low,ns,M,c,rfl,KR,cc,hw,f0,l0,l6,pg,k⟩:=h
 let R3:{t:TS // PSs (iq (CXE P w) P w K mg base om "_law_due" (ak eD) f cdv A outer s H E) ((aY eD).drop 3) t}:=⟨_,(@ah _ _ _ _ _ (dW cE rfl (xi (by rfl) T.lr (@ae _ _ _ _ _ (pv 3) (@ae _ _ _ _ _ (aK dj (pv 3) (pv 4)) aj rfl) rfl)) (b5 (i:=8) mH.nd rfl (by first | exact Or.inl rfl | exact Or.inr rfl))
   (@ao _ _ _ (bx (aV oP (pv 1) au (bH _)) (@ao _ _ _ (aT (tQ (pv 0) (pv 8) ⟨rfl,rfl,rfl,rfl⟩))) (@ao _ _ _ (@xM _ _ _ _ _ _ _ _ _ hr.u1 (pv 0) (pv 8) (pv 5) (by rfl))))))
   (@ao _ _ _ (@aI _ _ _ _ (@b8 _ _ _ _ _ (@ae _ _ _ _ _ bd aj rfl)))))⟩
 let R2:{t:TS // PSs (iq (CXE P w) P w K mg base om "_law_due" (ak eD) f cdv A outer s H E) ((aY eD).drop 2) t}:=⟨_,(@ah _ _ _ _ _ (dW cE rfl (xi (by rfl) T.lr (@ae _ _ _ _ _ (pv 3) (@ae _ _ _ _ _ (aK dj (pv 3) (pv 4)) aj rfl) rfl)) (b5 (i:=8) mH.nd rfl (by first | exact Or.inl rfl | exact Or.inr rfl))
   (@ah _ _ _ _ _ (bx (PW.pt (tI (aV oP (pv 1) au (bH _)) (oO (aV (EL hr.u1) (pv 8) (pv 0) (by with_unfolding_all rfl))))) (@ao _ _ _ (@aI _ _ _ _ (@b8 _ _ _ _ _ (@ae _ _ _ _ _ bd (@ae _ _ _ _ _ (pv 8) aj rfl) rfl)))) aS)
   (@ao _ _ _ (bx (PW.pt (tI (aV zb (pv 1) au (bH _)) (oO (aV (ke hr.u1) (pv 8) (pv 0) (by with_unfolding_all rfl))))) (@ao _ _ _ (@aI _ _ _ _ (@b8 _ _ _ _ _ (@ae _ _ _ _ _ bd (@ae _ _ _ _ _ (pv 2) (@ae _ _ _ _ _ (aK xS (pv 8) (pv 7)) (@ae _ _ _ _ _ (@cY _ _ _ _ _ _ _ cV (@kB _ _ _ _ (@ae _ _ _ _ _ bd (@ae _ _ _ _ _ bd (@ae _ _ _ _ _ bd aj rfl) rfl) rfl)) (pv 1) (fun _ _=>rfl)) aj rfl) rfl) rfl) rfl)))) aS))))
   R3.2)⟩
 refine⟨_,(@ah _ _ _ _ _ (bx (PW.pt (y7 (aV wJ (pv 4) au (bH _)) (y7 (aV zb (pv 4) au (bH _)) (xB (aV zb (aK dj (pv 3) (pv 4)) (pv 6) (bH _)))))) (@ao _ _ _ (@aI _ _ _ _ (@b8 _ _ _ _ _ (@ae _ _ _ _ _ bd aj rfl)))) aS)
   (@ah _ _ _ _ _ (bx (PW.pt (tI (aV G_ (pv 1) au (bH _)) (oO (PW.pt (y7 (aV wJ (pv 5) au (bH _)) (xB (aV zb (pv 5) au (bH _)))))))) (@ao _ _ _ (@aI _ _ _ _ (@b8 _ _ _ _ _ (@ae _ _ _ _ _ bd aj rfl)))) aS)
   R2.2)),?_⟩
 obtain⟨kvs,hd,kl,kv⟩:=id KR
 have fin:∀o q H1,Same H H1->H1 q=some (.tup (fH.row o))->Dn M ns low t w' f' m r o M->Q (.ref q) H1:=fun o q H1 s e dn=>k o M q H1 dn e ((KR.keep fun u h=>s _ _ h).mono (by omega)) fun b u e _=>s b u e
 have main:eu ns f' m->(w'≠1->OkR r)->R2.1 { nx:=fun x H'=>Q V.non H',rt:=Q } [some (.ref d),some (.int w'),some (.int t),some (.int f'),some (.int m),some (.int r),some (.int (pgs ns)),some (.int low),none] H:=by
  intro st okr
  have m0:0<=m:=by have:=st.1.1;omega
  have m64:=st.1.2
  have al1:∀{i:Nat},(∀j:Nat,j < i->¬eO w' M (f'+j))->¬eO w' M (f'+i)->∀j:Nat,j < i+1->¬eO w' M (f'+j):=fun {i} al n j hj=>by
   by_cases z:j=i
   ·rw[z];exact n
   ·exact al j (by omega)
  walk_at "go"
  refine wI (fun i σ H'=>Bx (∃v:Option V,σ=[some (.ref d),some (.int w'),some (.int t),some (.int f'),some (.int m),some (.int r),some (.int (pgs ns)),some (.int low),v]/\H'=H/\∀j:Nat,j < i->¬eO w' M (f'+j))) ⟨_,rfl,rfl,fun j hj=>absurd hj (Nat.not_lt_zero _)⟩ ?_ ?_
  ·rintro i σ H' hi ⟨v,rfl,rfl,al⟩
   have il:(i:Int) < m:=by omega
   have gg:=lW.k (k:=Sum.inl (f'+(i:Int))) hd
   rw[kv] at gg
   walk_at "go"
   refine GC (fun w0=>?_) fun w0=>?_
   ·subst w0
    cases hm:M (f'+(i:Int)) with
    | none =>
     rw[hm] at gg
     walk_at "go"
     refine iw (fun z=>absurd z (by decide)) fun _=>?_
     walk_at "go"
     exact⟨_,rfl,rfl,al1 al fun z=>by unfold eO at z;rw[if_pos rfl,hm] at z;cases z⟩
    | some g =>
     rw[hm] at gg
     walk_at "go"
     intro q hq
     generalize hh:upd _ q _=H1
     obtain⟨s1,e1⟩:=cI hq hh
     clear hh
     exact fin (.tak (f'+i)) q H1 s1 e1 (.tak i st okr il al (by unfold eO;rw[if_pos rfl,hm];rfl) rfl)
   ·walk_at "go"
    refine iw (fun _=>?_) fun z=>absurd (by omega) z
    cases hm:M (f'+(i:Int)) with
    | none =>
     rw[hm] at gg
     have ai:atI [V.str "",V.str "unmap",V.str "rights"] w'=some (.str (wy w')):=by
      rcases hw with z | z | z
      ·exact absurd z w0
      ·rw[z];rfl
      ·rw[z];rfl
     have cs:Ip (f'+(i:Int)) low:=⟨by omega,by omega,AY (by omega) (by have:=st.2.2;omega)⟩
     walk_at "go"
     intro u hu
     generalize hh:upd _ u _=H1
     obtain⟨s1,e1⟩:=cI hu hh
     clear hh
     have sq:=SqL.of (K:=K) e1
     walk_at "go"
     intro q hq
     generalize hh:upd _ q _=H2
     obtain⟨s2,e2⟩:=cI hq hh
     clear hh
     exact fin (.unm t ((f'+i)*plc low) w') q H2 (s1.trans s2) e2 (.unm i st okr il al (by unfold eO;rw[if_neg w0];exact hm) w0)
    | some g =>
     rw[hm] at gg
     walk_at "go"
     exact⟨_,rfl,rfl,al1 al fun z=>by unfold eO at z;rw[if_neg w0,hm] at z;cases z⟩
  ·rintro σ H' ⟨v,rfl,rfl,al⟩
   have al':∀j:Nat,(j:Int) < m->¬eO w' M (f'+j):=fun j hj=>al j (by omega)
   walk_at "go"
   refine wI (fun i σ H1=>Bx (∃(v:Option V) (kvs':List (Key×V)),σ=[some (.ref d),some (.int w'),some (.int t),some (.int f'),some (.int m),some (.int r),some (.int (pgs ns)),some (.int low),v]/\H1 d=some (.dK kvs')/\kvs'.length<=c+i ∧
    (∀n,bf kvs' (.inl n)=if f'<=n/\n < f'+i then (if w'=1 then none else some (.int r)) else bf kvs (.inl n))/\Kq d H' H1)) ⟨_,kvs,rfl,hd,by omega,fun n=>by rw[if_neg (by omega)],Kq.refl⟩ ?_ ?_
   ·rintro i σ H1 hi ⟨v,kvs',rfl,h1,l1,v1,q1⟩
    have il:(i:Int) < m:=by omega
    have vi:bf kvs' (.inl (f'+(i:Int)))=(M (f'+i)).map fun g=>V.int g.rights:=by rw[v1,if_neg (by omega),kv]
    walk_at "go"
    refine GC (fun w1=>?_) fun w1=>?_
    ·subst w1
     have nb:=al' i il
     unfold eO at nb
     rw[if_neg (by decide)] at nb
     cases hm:M (f'+(i:Int)) with
     | none=>exact absurd hm nb
     | some g =>
      rw[hm] at vi
      have isd:IsD H1 d:=.inl ⟨kvs',Rd.of h1⟩
      refine⟨_,rfl,_,rfl,isd,_,rfl,kvs',.inl (f'+(i:Int)),_,h1,rfl,vi,?_⟩
      refine⟨⟨_,_,rfl,aq,?_,fun n=>?_,q1.set⟩⟩
      ·have:=oW kvs' (Sum.inl (f'+(i:Int)):Key)
       omega
      ·rw[ou,v1]
       by_cases z:n=f'+i
       ·rw[if_pos (by rw[z]),if_pos (by omega),if_pos rfl]
       ·rw[if_neg (fun y=>z (Sum.inl.inj y))]
        by_cases y:f'<=n/\n < f'+i
        ·rw[if_pos y,if_pos (show f'<=n/\n < f'+((i+1:Nat):Int) by omega)]
        ·rw[if_neg y,if_neg (by omega)]
    ·have dp:=AI.k (k:=Sum.inl (f'+(i:Int))) (v:=.int r) h1 (by rw[sizeLine_eq];omega)
     walk_at "go"
     refine⟨⟨_,_,rfl,aq,?_,fun n=>?_,q1.set⟩⟩
     ·have:=dv kvs' (Sum.inl (f'+(i:Int)):Key) (.int r)
      omega
     ·rw[d8,v1]
      by_cases z:n=f'+i
      ·rw[if_pos (by rw[z]),if_pos (by omega),if_neg w1]
      ·rw[if_neg (fun y=>z (Sum.inl.inj y))]
       by_cases y:f'<=n/\n < f'+i
       ·rw[if_pos y,if_pos (show f'<=n/\n < f'+((i+1:Nat):Int) by omega)]
       ·rw[if_neg y,if_neg (by omega)]
   ·rintro σ H1 ⟨v,kvs',rfl,h1,l1,v1,q1⟩
    walk_at "go"
    intro q hq
    generalize hh:upd _ q _=H2
    obtain⟨s2,e2⟩:=cI hq hh
    clear hh
    have tm:((f'+m-f').toNat:Int)=m:=by omega
    rw[tm] at v1
    exact k .done _ q H2 (.done st okr al') e2 (Kr.dd kv (s2 _ _ h1) (by have:=st.1.2;omega) m0 hw v1 al') fun b u e nb=>s2 _ _ (q1 _ _ e nb)
 walk_at "go"
 refine iw (fun c1=>?_) fun c1=>?_
 ·walk_at "go"
  intro q hq
  generalize hh:upd _ q _=H1
  obtain⟨s1,e1⟩:=cI hq hh
  clear hh
  exact fin .ji q H1 s1 e1 (.ji fun z=>by have:=z.1.1;omega)
 walk_at "go"
 refine iw (fun c2=>?_) fun c2=>?_
 ·walk_at "go"
  intro q hq
  generalize hh:upd _ q _=H1
  obtain⟨s1,e1⟩:=cI hq hh
  clear hh
  exact fin .ji q H1 s1 e1 (.ji fun z=>by have:=z.1.2;omega)
 walk_at "go"
 refine iw (fun c3=>?_) fun c3=>?_
 ·walk_at "go"
  intro q hq
  generalize hh:upd _ q _=H1
  obtain⟨s1,e1⟩:=cI hq hh
  clear hh
  exact fin .ji q H1 s1 e1 (.ji fun z=>by have:=z.2.2;omega)
 have st:eu ns f' m:=⟨⟨by omega,by omega⟩,f0,by omega⟩
 repeat (first | (apply And.intro;(walk_at "cl")) | walk_at "ex")
 refine Jp (fun w1=>?_) fun w1=>?_
 ·repeat (first | (apply And.intro;(walk_at "cl")) | walk_at "ex")
  refine iw (fun c4=>?_) fun c4=>?_
  ·walk_at "go"
   intro q hq
   generalize hh:upd _ q _=H1
   obtain⟨s1,e1⟩:=cI hq hh
   clear hh
   exact fin .lZ q H1 s1 e1 (.lZ st w1 fun z=>by have:=z.1;omega)
  repeat (first | (apply And.intro;(walk_at "cl")) | walk_at "ex")
  refine iw (fun c5=>?_) fun c5=>?_
  ·walk_at "go"
   intro q hq
   generalize hh:upd _ q _=H1
   obtain⟨s1,e1⟩:=cI hq hh
   clear hh
   exact fin .lZ q H1 s1 e1 (.lZ st w1 fun z=>by have:=z.2;omega)
  exact main st fun _=>⟨by omega,by omega⟩
 ·exact main st fun z=>absurd w1 z
end
end K36

set_option maxHeartbeats 4000000
namespace K36
open PySem L2
theorem Am {th:TH}{tb:(St->XK)->TS}{D:Ends}{σ:St}{H:Hp}(P:Addr->Option Addr->Hp->Prop)(h1:∀C dct H',P C dct H'->th C dct D σ H')(h2:(∀C dct H',P C dct H'->th C dct D σ H')->Fj th tb D σ H): Fj th tb D σ H:=h2 h1
inductive Bq (a:Adr)(H:Hp): fH->Addr->Option Addr->Prop where
 | ji {dct:Option Addr}:Bq a H .ji a.aM dct
 | lZ {dct:Option Addr}:Bq a H .lZ a.aO dct
 | Bp {dct:Option Addr}:Bq a H .Bp a.aD dct
 | tak {n:Int} {d:Addr}:H d=some (xdW d [("page",.int n)])->Bq a H (.tak n) a.bj (some d)
 | unm {t n w:Int} {d:Addr}:H d=some (xdW d (ky (.int t) (.int n) (.str (wy w))))->Bq a H (.unm t n w) a.aA (some d)
 | bar {t n:Int} {d:Addr}:H d=some (xdW d (ky (.int t) (.int n) (.str "read")))->Bq a H (.bar t n) a.aL (some d)
theorem Sk.mono {a:Adr}{H:Hp}{x:Addr}{ns:List Int}{low t:Int}{fp:List Addr}{cn c':Nat}{M:Mf}(S:Sk a H x ns low t fp cn M)(h:cn<=c'): Sk a H x ns low t fp c' M:=⟨let ⟨nd,s,A⟩:=S.sp;⟨nd,s.mono h,A⟩,S.fr,S.inn⟩
def CK (a:Adr): Sp:=fun vs H Q _=>∃(p d nr ln sh pl x:Addr) (ns:List Int) (low ww t w f m r:Int) (kvs:List (Key×V)) (fp:List Addr) (cn:Nat) (M:Mf),vs=[.ref p,.int w,.int t,.int f,.int m,.int r]/\Me a H p d nr ln sh pl ns low [] ww/\H d=some (.dK kvs)/\bf kvs (.inl t)=some (.ref x)/\Sk a H x ns low t fp cn M/\cn < 80000/\ln∉fp/\(w=0\/w=1\/w=2) ∧
 ∀o M' q fp' H',Dn M ns low t w f m r o M'->H' q=some (.tup o.row)->Sk a H' x ns low t fp' (cn+64) M'->bp H H'->L2.Fr fp fp' H H'->Q (.ref q) H'
def CL (a:Adr): Sp:=fun vs H Q _=>∃(p d nr ln sh pl x:Addr) (ns:List Int) (low ww t n:Int) (kvs:List (Key×V)) (fp:List Addr) (cn:Nat) (M:Mf),vs=[.ref p,.int t,.int n]/\Me a H p d nr ln sh pl ns low [] ww/\H d=some (.dK kvs)/\bf kvs (.inl t)=some (.ref x)/\Sk a H x ns low t fp cn M/\0<=n ∧
 ∀q ww' H',H' q=some (.tup (nH M ns low t n).row)->Me a H' p d nr ln sh pl ns low [] ww'->Kq p H H'->Q (.ref q) H'
section
variable {P:Program}{w:World}{K:W.Frag}{mg:Str->Option Value}{base:Heap}{a:Adr}
theorem wA {dvs:List V} (R:bC K mg "_law_found" kW ["_law_memory", "_law_way", "_law_task", "_law_first", "_law_many_here", "_law_rights_here"] dvs) (T:Txt w K mg a)
  (mZ:HasFn P w K mg base 8 "map_pages" ["memory", "task", "first", "many", "rights"] (Hu a) [])
  (j2:HasFn P w K mg base 9 "unmap_pages" ["memory", "task", "first", "many"] (CH a) [])
  (hZ:HasFn P w K mg base 9 "change_rights" ["memory", "task", "first", "many", "rights"] (vh a) []) :
  HasFn P w K mg base 10 "_law_found" ["_law_memory", "_law_way", "_law_task", "_law_first", "_law_many_here", "_law_rights_here"] (CK a) dvs:=by
 refine R.ok cg (fun vs H Q E h=>?_) (fun f cdv A outer s H vs Q E hr h=>?_)
 ·obtain⟨p,d,nr,ln,sh,pl,x,ns,low,ww,t,w',f',m,r,kvs,fp,cn,M,rfl,_⟩:=h
  rfl
 obtain⟨p,d,nr,ln,sh,pl,x,ns,low,ww,t,w',f',m,r,kvs,fp,cn,M,rfl,ME,hd,hv,S,cc,lnf,hw,k⟩:=h
 refine⟨_,(@ah _ _ _ _ _ (@aN _ _ 6 _ _ _ _ cg.nd rfl (by first | exact Or.inl rfl | exact Or.inr rfl) (@b8 _ _ _ _ _ (@ae _ _ _ _ _ bd aj rfl)) (by rfl) (by first | exact Or.inl rfl | exact Or.inr rfl))
   (@ah _ _ _ _ _ (Cb rfl rfl rfl rfl
   (fun pn xe EX hx=>(@ao _ _ _ (bx (aV oP (pv 1) au (bH _)) (@ao _ _ _ (aT (bz mZ (hr.mono (by decide)) (by rfl) hx (@ae _ _ _ _ _ (pv 0) (@ae _ _ _ _ _ (pv 2) (@ae _ _ _ _ _ (pv 3) (@ae _ _ _ _ _ (pv 4) (@ae _ _ _ _ _ (pv 5) aj rfl) rfl) rfl) rfl) rfl)))) (@ao _ _ _ (bx (aV oP (pv 1) au (bH _)) (@ao _ _ _ (aT (bz j2 (hr.mono (by decide)) (by rfl) hx (@ae _ _ _ _ _ (pv 0) (@ae _ _ _ _ _ (pv 2) (@ae _ _ _ _ _ (pv 3) (@ae _ _ _ _ _ (pv 4) aj rfl) rfl) rfl) rfl)))) (@ao _ _ _ (aT (bz hZ (hr.mono (by decide)) (by rfl) hx (@ae _ _ _ _ _ (pv 0) (@ae _ _ _ _ _ (pv 2) (@ae _ _ _ _ _ (pv 3) (@ae _ _ _ _ _ (pv 4) (@ae _ _ _ _ _ (pv 5) aj rfl) rfl) rfl) rfl) rfl)))))))))
   (Ca (i:=7) (.inr T.i8.h) (by rfl) T.Cg cg.nd rfl rfl
   (fun pn A' xe=>(@ao _ _ _ (@aN _ _ 6 _ _ _ _ cg.nd rfl (by first | exact Or.inl rfl | exact Or.inr rfl) (@b8 _ _ _ _ _ (@ae _ _ _ _ _ bd (@ae _ _ _ _ _ (d_ (K:=K) rfl (pv 7) rfl) aj rfl) rfl)) (by rfl) (by first | exact Or.inl rfl | exact Or.inr rfl))))
   (Ca (i:=7) (.inr T.bN.h) (by rfl) T.la cg.nd rfl rfl
   (fun pn A' xe=>(@ao _ _ _ (@aN _ _ 6 _ _ _ _ cg.nd rfl (by first | exact Or.inl rfl | exact Or.inr rfl) (@b8 _ _ _ _ _ (@ae _ _ _ _ _ bd (@ae _ _ _ _ _ (d_ (K:=K) rfl (pv 7) rfl) (@ae _ _ _ _ _ (d_ (K:=K) rfl (pv 7) rfl) (@ae _ _ _ _ _ (d_ (K:=K) rfl (pv 7) rfl) aj rfl) rfl) rfl) rfl)) (by rfl) (by first | exact Or.inl rfl | exact Or.inr rfl))))
   (Fi (.inl T.gC) (by rfl) T.mJ
   (fun pn A' xe=>(@ao _ _ _ (@aN _ _ 6 _ _ _ _ cg.nd rfl (by first | exact Or.inl rfl | exact Or.inr rfl) (@b8 _ _ _ _ _ (@ae _ _ _ _ _ bd aj rfl)) (by rfl) (by first | exact Or.inl rfl | exact Or.inr rfl))))
   (Fi (.inl T.k_) (by rfl) T.uD
   (fun pn A' xe=>(@ao _ _ _ (@aN _ _ 6 _ _ _ _ cg.nd rfl (by first | exact Or.inl rfl | exact Or.inr rfl) (@b8 _ _ _ _ _ (@ae _ _ _ _ _ bd aj rfl)) (by rfl) (by first | exact Or.inl rfl | exact Or.inr rfl))))
   Fh)))))
   (@ao _ _ _ (@aI _ _ _ _ (pv 6))))),?_⟩
 have fin:∀o q H1,Same H H1->H1 q=some (.tup (fH.row o))->Dn M ns low t w' f' m r o M->Q (.ref q) H1:=fun o q H1 s e dn=>k o M q fp H1 dn e ((S.same s).mono (by omega)) (bp.same s) (L2.Fr.same s)
 walk_at "go"
 intro u hu
 generalize hh:upd _ u _=H1
 obtain⟨s1,e1⟩:=cI hu hh
 clear hh
 have ME1:=ME.same s1
 have hd1:=s1 _ _ hd
 have S1:=S.same s1
 unfold wG HI
 dsimp only
 refine Am (fun C dct H2=>∃o,Dn M ns low t w' f' m r o M/\Same H1 H2/\Bq a H2 o C dct) ?_ fun hn=>?_
 ·rintro C dct H2 ⟨o,dn,s2,xo⟩
  have r1:=T.jU;have r2:=T.fW;have r3:=T.cM;have r4:=T.fk;have r5:=T.dG;have r6:=T.db;have r7:=T.fX;have r8:=T.dZ;have r9:=T.dH;have r10:=T.d5
  have x1:=T.vZ;have x2:=T.kt;have x3:=T.ig;have x4:=T.ko
  cases xo with
  | ji =>
   walk_at "go"
   intro q hq
   generalize hh:upd _ q _=H3
   obtain⟨s3,e3⟩:=cI hq hh
   clear hh
   walk_at "go"
   exact fin .ji q H3 (s1.trans (s2.trans s3)) e3 dn
  | lZ =>
   walk_at "go"
   intro q hq
   generalize hh:upd _ q _=H3
   obtain⟨s3,e3⟩:=cI hq hh
   clear hh
   walk_at "go"
   exact fin .lZ q H3 (s1.trans (s2.trans s3)) e3 dn
  | @tak n' d' hd' =>
   walk_at "go"
   refine oV ?_
   intro e he
   generalize hh:upd _ e _=H3
   obtain⟨s3,e3⟩:=cI he hh
   clear hh
   have hd3:=s3 _ _ hd'
   have l1:([("page",.int n')]:List (Str×V)).lookup ("page" : Str)=some (.int n'):=rfl
   walk_at "go"
   intro q hq
   generalize hh:upd _ q _=H4
   obtain⟨s4,e4⟩:=cI hq hh
   clear hh
   walk_at "go"
   exact fin (.tak n') q H4 (s1.trans (s2.trans (s3.trans s4))) e4 dn
  | @unm t' n' w1 d' hd' =>
   walk_at "go"
   refine oV ?_
   intro e he
   generalize hh:upd _ e _=H3
   obtain⟨s3,e3⟩:=cI he hh
   clear hh
   have hd3:=s3 _ _ hd'
   have l1:(ky (.int t') (.int n') (.str (wy w1))).lookup ("task" : Str)=some (.int t'):=rfl
   have l2:(ky (.int t') (.int n') (.str (wy w1))).lookup ("address" : Str)=some (.int n'):=rfl
   have l3:(ky (.int t') (.int n') (.str (wy w1))).lookup ("deed" : Str)=some (.str (wy w1)):=rfl
   walk_at "go"
   intro q hq
   generalize hh:upd _ q _=H4
   obtain⟨s4,e4⟩:=cI hq hh
   clear hh
   walk_at "go"
   exact fin (.unm t' n' w1) q H4 (s1.trans (s2.trans (s3.trans s4))) e4 dn
  | Bp=>cases dn
  | bar hd=>cases dn
 ·walk_at "go"
  refine GC (fun w0=>?_) fun w0=>?_
  ·subst w0
   walk_at "go"
   refine⟨fun ns'=>⟨_,rfl,hn _ _ _ ⟨.ji,.ji ns',.refl _,.ji⟩⟩,fun st nr H' s=>⟨_,rfl,hn _ _ _ ⟨.lZ,.lZ st (by decide) nr,s,.lZ⟩⟩,fun st ok j hj pre hs d' H' e s=>⟨_,rfl,hn _ _ _ ⟨.tak _,.tak j st (fun _=>ok) hj (fun i hi=>?_) ?_ rfl,s,.tak e⟩⟩,fun st ok free fp' H' S' kn fr=>?_⟩
   ·unfold eO;rw[if_pos rfl,pre i hi];simp
   ·unfold eO;rw[if_pos rfl];exact hs
   ·walk_at "go"
    refine k .done _ u fp' H' (.done st (fun _=>ok) fun i hi=>?_) (kn.tup e1) S' ((bp.same s1).trans kn) ((L2.Fr.same s1).trans fr)
    unfold eO;rw[if_pos rfl,free i hi];simp
  ·walk_at "go"
   refine GC (fun w1=>?_) fun w1=>?_
   ·subst w1
    walk_at "go"
    refine⟨fun ns'=>⟨_,rfl,hn _ _ _ ⟨.ji,.ji ns',.refl _,.ji⟩⟩,fun st j hj pre hs d' H' e s=>⟨_,rfl,hn _ _ _ ⟨.unm _ _ _,.unm j st (fun z=>absurd rfl z) hj (fun i hi=>?_) ?_ (by decide),s,.unm e⟩⟩,fun st all H' S' kn fr=>?_⟩
    ·unfold eO;rw[if_neg (by decide)];intro z;have:=pre i hi;rw[z] at this;cases this
    ·unfold eO;rw[if_neg (by decide)];exact hs
    ·walk_at "go"
     refine k .done _ u fp H' (.done st (fun z=>absurd rfl z) fun i hi=>?_) (kn.tup e1) (S'.mono (by omega)) ((bp.same s1).trans kn) ((L2.Fr.same s1).trans fr)
     unfold eO;rw[if_neg (by decide)];intro z;have:=all i hi;rw[z] at this;cases this
   ·obtain rfl:w'=2:=by omega
    walk_at "go"
    refine⟨fun ns'=>⟨_,rfl,hn _ _ _ ⟨.ji,.ji ns',.refl _,.ji⟩⟩,fun st nr H' s=>⟨_,rfl,hn _ _ _ ⟨.lZ,.lZ st (by decide) nr,s,.lZ⟩⟩,fun st ok j hj pre hs d' H' e s=>⟨_,rfl,hn _ _ _ ⟨.unm _ _ _,.unm j st (fun _=>ok) hj (fun i hi=>?_) ?_ (by decide),s,.unm e⟩⟩,fun st ok all fp' H' S' kn fr=>?_⟩
    ·unfold eO;rw[if_neg (by decide)];intro z;have:=pre i hi;rw[z] at this;cases this
    ·unfold eO;rw[if_neg (by decide)];exact hs
    ·walk_at "go"
     refine k .done _ u fp' H' (.done st (fun _=>ok) fun i hi=>?_) (kn.tup e1) S' ((bp.same s1).trans kn) ((L2.Fr.same s1).trans fr)
     unfold eO;rw[if_neg (by decide)];intro z;have:=all i hi;rw[z] at this;cases this
theorem yQ {dvs:List V} (R:bC K mg "_law_read" mC ["_law_memory", "_law_task", "_law_address"] dvs) (T:Txt w K mg a)
  (m4:HasFn P w K mg base 8 "read_word" ["memory", "task", "address"] (FQ a) []) :
  HasFn P w K mg base 9 "_law_read" ["_law_memory", "_law_task", "_law_address"] (CL a) dvs:=by
 refine R.ok cG (fun vs H Q E h=>?_) (fun f cdv A outer s H vs Q E hr h=>?_)
 ·obtain⟨p,d,nr,ln,sh,pl,x,ns,low,ww,t,n,kvs,fp,cn,M,rfl,_⟩:=h
  rfl
 obtain⟨p,d,nr,ln,sh,pl,x,ns,low,ww,t,n,kvs,fp,cn,M,rfl,ME,hd,hv,S,n0,k⟩:=h
 refine⟨_,(@ah _ _ _ _ _ (@aN _ _ 3 _ _ _ _ cG.nd rfl (by first | exact Or.inl rfl | exact Or.inr rfl) (@b8 _ _ _ _ _ (@ae _ _ _ _ _ bd aj rfl)) (by rfl) (by first | exact Or.inl rfl | exact Or.inr rfl))
   (@ah _ _ _ _ _ (Cb rfl rfl rfl rfl
   (fun pn xe EX hx=>(@ao _ _ _ (@aN _ _ 3 _ _ _ _ cG.nd rfl (by first | exact Or.inl rfl | exact Or.inr rfl) (@b8 _ _ _ _ _ (@ae _ _ _ _ _ bd (@ae _ _ _ _ _ (bz m4 (hr.mono (by decide)) (by rfl) hx (@ae _ _ _ _ _ (pv 0) (@ae _ _ _ _ _ (pv 1) (@ae _ _ _ _ _ (pv 2) aj rfl) rfl) rfl)) aj rfl) rfl)) (by rfl) (by first | exact Or.inl rfl | exact Or.inr rfl))))
   (Ca (i:=4) (.inr T.bN.h) (by rfl) T.la cG.nd rfl rfl
   (fun pn A' xe=>(@ao _ _ _ (@aN _ _ 3 _ _ _ _ cG.nd rfl (by first | exact Or.inl rfl | exact Or.inr rfl) (@b8 _ _ _ _ _ (@ae _ _ _ _ _ bd (@ae _ _ _ _ _ (d_ (K:=K) rfl (pv 4) rfl) (@ae _ _ _ _ _ (d_ (K:=K) rfl (pv 4) rfl) (@ae _ _ _ _ _ (d_ (K:=K) rfl (pv 4) rfl) aj rfl) rfl) rfl) rfl)) (by rfl) (by first | exact Or.inl rfl | exact Or.inr rfl))))
   (Ca (i:=4) (.inr T.cQ.h) (by rfl) T.zU cG.nd rfl rfl
   (fun pn A' xe=>(@ao _ _ _ (@aN _ _ 3 _ _ _ _ cG.nd rfl (by first | exact Or.inl rfl | exact Or.inr rfl) (@b8 _ _ _ _ _ (@ae _ _ _ _ _ bd (@ae _ _ _ _ _ (d_ (K:=K) rfl (pv 4) rfl) (@ae _ _ _ _ _ (d_ (K:=K) rfl (pv 4) rfl) (@ae _ _ _ _ _ (d_ (K:=K) rfl (pv 4) rfl) aj rfl) rfl) rfl) rfl)) (by rfl) (by first | exact Or.inl rfl | exact Or.inr rfl))))
   (Fi (.inl T.jr) (by rfl) T.rG
   (fun pn A' xe=>(@ao _ _ _ (@aN _ _ 3 _ _ _ _ cG.nd rfl (by first | exact Or.inl rfl | exact Or.inr rfl) (@b8 _ _ _ _ _ (@ae _ _ _ _ _ bd aj rfl)) (by rfl) (by first | exact Or.inl rfl | exact Or.inr rfl))))
   Fh))))
   (@ao _ _ _ (@aI _ _ _ _ (pv 3))))),?_⟩
 have fin:∀q H1,Same H H1->H1 q=some (.tup (nH M ns low t n).row)->Q (.ref q) H1:=fun q H1 s e=>k q ww H1 e (ME.same s) fun b u e _=>s b u e
 have pl0:0 < plc low:=Int.pow_pos (by decide)
 have q0:0<=n / plc low:=Int.ediv_nonneg n0 (Int.le_of_lt pl0)
 have qi:n < pgs ns*plc low↔¬pgs ns<=n / plc low:=by rw[Int.not_le];exact⟨fun h=>Int.ediv_lt_of_lt_mul pl0 h,fun h=>Int.lt_mul_of_ediv_lt pl0 h⟩
 walk_at "go"
 intro u hu
 generalize hh:upd _ u _=H1
 obtain⟨s1,e1⟩:=cI hu hh
 clear hh
 have ME1:=ME.same s1
 have hd1:=s1 _ _ hd
 have S1:=S.same s1
 unfold wG HI
 dsimp only
 refine Am (fun C dct H2=>Same H1 H2/\((nH M ns low t n=.Bp/\C=a.aD)\/(∃d',nH M ns low t n=.unm t n 0/\C=a.aA/\dct=some d'/\H2 d'=some (xdW d' (ky (.int t) (.int n) (.str "read"))))\/∃d',nH M ns low t n=.bar t n/\C=a.aL/\dct=some d'/\H2 d'=some (xdW d' (ky (.int t) (.int n) (.str "read"))))) ?_ fun hn=>?_
 ·rintro C dct H2 ⟨s2,xo⟩
  have r1:=T.cM;have r2:=T.fm;have r3:=T.g6;have r4:=T.dI;have r5:=T.eF;have r6:=T.dg
  have x1:=T.uI;have x5:=T.pK;have x6:=T.uH;have x2:=T.kt;have x3:=T.ig;have x4:=T.ko
  have l1:(ky (.int t) (.int n) (.str "read")).lookup ("task" : Str)=some (.int t):=rfl
  have l2:(ky (.int t) (.int n) (.str "read")).lookup ("address" : Str)=some (.int n):=rfl
  have l3:(ky (.int t) (.int n) (.str "read")).lookup ("deed" : Str)=some (.str "read"):=rfl
  rcases xo with ⟨ro,rfl⟩ | ⟨d',ro,rfl,rfl,hd'⟩ | ⟨d',ro,rfl,rfl,hd'⟩
  ·walk_at "go"
   intro q hq
   generalize hh:upd _ q _=H3
   obtain⟨s3,e3⟩:=cI hq hh
   clear hh
   walk_at "go"
   exact fin q H3 (s1.trans (s2.trans s3)) (by rw[ro];exact e3)
  ·walk_at "go"
   refine oV ?_
   intro e he
   generalize hh:upd _ e _=H3
   obtain⟨s3,e3⟩:=cI he hh
   clear hh
   have hd3:=s3 _ _ hd'
   walk_at "go"
   intro q hq
   generalize hh:upd _ q _=H4
   obtain⟨s4,e4⟩:=cI hq hh
   clear hh
   walk_at "go"
   exact fin q H4 (s1.trans (s2.trans (s3.trans s4))) (by rw[ro];exact e4)
  ·walk_at "go"
   refine oV ?_
   intro e he
   generalize hh:upd _ e _=H3
   obtain⟨s3,e3⟩:=cI he hh
   clear hh
   have hd3:=s3 _ _ hd'
   walk_at "go"
   intro q hq
   generalize hh:upd _ q _=H4
   obtain⟨s4,e4⟩:=cI hq hh
   clear hh
   walk_at "go"
   exact fin q H4 (s1.trans (s2.trans (s3.trans s4))) (by rw[ro];exact e4)
 ·walk_at "go"
  refine⟨fun c=>⟨_,rfl,hn _ _ _ ⟨.refl _,.inl ⟨?_,rfl⟩⟩⟩,fun c hm d' H' e s=>⟨_,rfl,hn _ _ _ ⟨s,.inr (.inl ⟨d',?_,rfl,rfl,e⟩)⟩⟩,fun c r hr=>⟨fun nr d' H' e s=>⟨_,rfl,hn _ _ _ ⟨s,.inr (.inr ⟨d',?_,rfl,rfl,e⟩)⟩⟩,fun or H' M' kq=>?_⟩⟩
  ·unfold nH;rw[if_pos (Decidable.byContradiction fun z=>c ⟨n0,qi.mpr z⟩)]
  ·unfold nH;rw[if_neg (qi.mp c.2),hm]
  ·unfold nH;rw[if_neg (qi.mp c.2),hr];exact if_neg nr
  ·walk_at "go"
   intro q hq
   generalize hh:upd _ q _=H2
   obtain⟨s2,e2⟩:=cI hq hh
   clear hh
   walk_at "go"
   refine k q (ww+1) H2 ?_ (M'.same s2) fun b u e nb=>s2 _ _ (kq _ _ (s1 _ _ e) nb)
   have ro:nH M ns low t n=.word:=by unfold nH;rw[if_neg (qi.mp c.2),hr];exact if_pos or
   rw[ro];exact e2
end
end K36

set_option maxHeartbeats 4000000
namespace K36
open PySem L2
structure W36 (a:Adr)(H:Hp)(p d nr ln sh pl:Addr)(ns:List Int)(low w:Int)(X D:Nat->Addr)(F:Nat->List Addr)(C:Nat)(MM:Nat->Mf): Prop where
 me:Me a H p d nr ln sh pl ns low [] w
 hd:∃kvs,H d=some (.dK kvs)/\∀i:Nat,i < 2->bf kvs (.inl (i:Int))=some (.ref (X i))
 sk:∀i:Nat,i < 2->Sk a H (X i) ns low (i:Int) (F i) C (MM i)
 ap:∀i j:Nat,i < 2->j < 2->i≠j->∀b∈F i,b∉F j
 df:∀i:Nat,i < 2->d∉F i/\ln∉F i/\∀j:Nat,j < 2->D j∉F i
 dd:(∀i j:Nat,i < 2->j < 2->i≠j->D i≠D j)/\∀i:Nat,i < 2->D i≠d/\D i≠ln
def R36 (H:Hp)(D:Nat->Addr)(MM:Nat->Mf)(C:Nat): Prop:=∀i:Nat,i < 2->Kr H (D i) (MM i) C
def DN {α:Type}(f:Nat->α)(i:Nat)(x:α): Nat->α:=fun j=>if j=i then x else f j
theorem nB {α:Type}{f:Nat->α}{i:Nat}{x:α}: DN f i x i=x:=if_pos rfl
theorem lI {α:Type}{f:Nat->α}{i j:Nat}{x:α}(h:j≠i): DN f i x j=f j:=if_neg h
section
variable {a:Adr}{H H1:Hp}{p d nr ln sh pl:Addr}{ns:List Int}{low w w1:Int}{X D:Nat->Addr}{F:Nat->List Addr}{C C1:Nat}{MM:Nat->Mf}
theorem W36.same (W:W36 a H p d nr ln sh pl ns low w X D F C MM)(s:Same H H1): W36 a H1 p d nr ln sh pl ns low w X D F C MM :=
 ⟨W.me.same s,let ⟨kvs,e,v⟩:=W.hd;⟨kvs,s _ _ e,v⟩,fun i hi=>(W.sk i hi).same s,W.ap,W.df,W.dd⟩
theorem R36.same (R:R36 H D MM C)(s:Same H H1): R36 H1 D MM C:=fun i hi=>(R i hi).keep fun u e=>s _ _ e
theorem W36.due (W:W36 a H p d nr ln sh pl ns low w X D F C MM){i:Nat}(hi:i < 2){M:Mf}{c:Nat}(kr:Kr H (D i) M c)(k:Kq (D i) H H1): W36 a H1 p d nr ln sh pl ns low w X D F C MM:=by
 obtain⟨kv,hD,_⟩:=kr
 obtain⟨dx,ss,hp⟩:=W.me.ob
 obtain⟨kvs,hd,v⟩:=W.hd
 obtain⟨_,_,_,hl⟩:=W.me.ne
 refine⟨W.me.off k (k _ _ hl (W.dd.2 i hi).2.symm) (fun C dx fs e=>by rw[hD] at e;cases e) (fun xs=>⟨fun e=>(by rw[hD] at e;cases e),fun e=>(by rw[hD] at e;cases e)⟩) (fun dx' ss' e=>k _ _ e fun z=>by rw[z,hD] at e;cases e),⟨kvs,k _ _ hd (W.dd.2 i hi).1.symm,v⟩,fun j hj=>(W.sk j hj).kq k ((W.df j hj).2.2 i hi) (.inl ⟨kv,hD⟩),W.ap,W.df,W.dd⟩
theorem W36.deed (W:W36 a H p d nr ln sh pl ns low w X D F C MM)(R:∀j:Nat,j < 2->∃u,H (D j)=some u){i:Nat}(hi:i < 2){fp':List Addr}{M':Mf}(S:Sk a H1 (X i) ns low (i:Int) fp' (C+64) M')(kn:bp H H1)(fr:L2.Fr (F i) fp' H H1): W36 a H1 p d nr ln sh pl ns low w X D (DN F i fp') (C+64) (DN MM i M'):=by
 obtain⟨kvs,hd,v⟩:=W.hd
 obtain⟨_,_,_,hl⟩:=W.me.ne
 have out:∀b u,H b=some u->b∉F i->b∉fp':=fun b u e n z=>by
  rcases fr.2 b z with q | q
  ·exact n q
  ·rw[e] at q;cases q
 refine⟨W.me.keep kn (fr.1 _ _ hl (W.df i hi).2.1),⟨kvs,fr.1 _ _ hd (W.df i hi).1,v⟩,fun j hj=>?_,fun j l hj hl' n b hb=>?_,fun j hj=>?_,W.dd⟩
 ·by_cases z:j=i
  ·subst z;rw[nB,nB];exact S
  ·rw[lI z,lI z]
   exact((W.sk j hj).kw (.mR kn fun b u e m=>fr.1 _ _ e (W.ap j i hj hi z b m))).mono (by omega)
 ·by_cases z:j=i
  ·subst z
   rw[nB] at hb
   rw[lI (Ne.symm n)]
   intro y
   rcases fr.2 b hb with q | q
   ·exact W.ap j l hj hl' n b q y
   ·obtain⟨kv,e⟩:=(W.sk l hl').live y
    rw[e] at q;cases q
  ·rw[lI z] at hb
   by_cases z':l=i
   ·subst z'
    rw[nB]
    obtain⟨kv,e⟩:=(W.sk j hj).live hb
    exact out b _ e (W.ap j l hj hl' n b hb)
   ·rw[lI z'];exact W.ap j l hj hl' n b hb
 ·by_cases z:j=i
  ·subst z
   rw[nB]
   exact⟨out _ _ hd (W.df j hj).1,out _ _ hl (W.df j hj).2.1,fun l hl' y=>by
    rcases fr.2 _ y with q | q
    ·exact(W.df j hj).2.2 l hl' q
    ·obtain⟨u,e⟩:=R l hl'
     rw[e] at q;cases q⟩
  ·rw[lI z];exact W.df j hj
theorem W36.read (W:W36 a H p d nr ln sh pl ns low w X D F C MM)(R:R36 H D MM C)(M1:Me a H1 p d nr ln sh pl ns low [] w1)(k:Kq p H H1): W36 a H1 p d nr ln sh pl ns low w1 X D F C MM/\R36 H1 D MM C:=by
 obtain⟨dx,ss,hp⟩:=W.me.ob
 obtain⟨kvs,hd,v⟩:=W.hd
 refine⟨⟨M1,⟨kvs,k _ _ hd (fun z=>by rw[z,hp] at hd;cases hd),v⟩,fun j hj=>(W.sk j hj).kq k (fun z=>?_) (.inr ⟨_,_,_,.int w,hp,rfl⟩),W.ap,W.df,W.dd⟩,fun i hi=>?_⟩
 ·obtain⟨kv,e⟩:=(W.sk j hj).live z
  rw[hp] at e;cases e
 ·obtain⟨kv,e,l⟩:=R i hi
  exact⟨kv,k _ _ e (fun z=>by rw[z,hp] at e;cases e),l⟩
end
end K36

set_option maxHeartbeats 4000000
namespace K36
open PySem L2
def CM (K:W.Frag): Sp:=fun vs H Q _=>∃(a:Addr) (ns:List Int),vs=[.ref a]/\SqL K H a (ns.map V.int)/\ns.length<=63/\∀H',Q (.bl true) H'
theorem bp.seq {K:W.Frag}{H H':Hp}{a:Addr}{xs:List V}(e:bp H H')(h:SqL K H a xs): SqL K H' a xs:=by
 rcases h with (h | ⟨o,h⟩) | h
 ·exact .inl (.inl (e _ _ h fun _ w=>by cases w))
 ·exact .inl (.inr ⟨o,e _ _ h fun _ w=>by cases w⟩)
 ·exact .inr h
theorem kqN {H H':Hp}{d:Addr}{kv:List (Key×V)}(k:Kq d H H')(hd:H d=some (.dK kv)): bp H H':=fun b u e n=>k _ _ e fun z=>by rw[z,hd] at e;cases e;exact n _ rfl
theorem fH.G5 {o:fH}(h:o≠.word): ∃s l,o.row=V.str s::l/\¬V.str s=V.str "word" := by
 cases o<;>first | exact absurd rfl h | exact⟨_,_,rfl,by intro z;injection z with z;revert z;decide +kernel⟩
section
variable {P:Program}{w:World}{K:W.Frag}{mg:Str->Option Value}{base:Heap}{a:Adr}
theorem IL {f:Addr} {oc:Value} {od:Option Addr} {dV kV doc pm:Value} {an:Option Addr} {cdv ct:Value} {osl:Array (Option Value)} (lk:K.lookup f=some ⟨oc,od,.func (W.fnOf "law" "law" (bB eU) (aY eU) (ak eU) dV kV doc pm an cdv ct),osl⟩) (hcd:W.codeIn K cdv "law" = true) (T:Txt w K mg a)
  (j3:HasFn P w K mg base 2 "_law_widths" ["_law_script"] (xv K) [])
  (bR:HasFn P w K mg base 1 "_law_cell_at" ["_law_script", "_law_k"] (Bo K) [])
  (dL:cf P w K mg base a.a_ 7 ["self", "shape", "frames", "slots", "near"] (FU a) [.int 0])
  (gj:cf P w K mg base a.aw 2 ["self", "widths", "low"] (zX a) [])
  (iH:HasFn P w K mg base 5 "begin_task" ["memory"] (FT a) [])
  (lJ:HasFn P w K mg base 1 "_law_mixed" ["_law_raw"] (nA) [])
  (m5:HasFn P w K mg base 1 "_law_many" ["_law_cell"] (nA) [])
  (j4:HasFn P w K mg base 1 "_law_rights" ["_law_cell"] (nA) [])
  (oF:HasFn P w K mg base 1 "_law_due" ["_law_kept", "_law_way", "_law_task", "_law_first", "_law_many_here", "_law_rights_here", "_law_pages", "_law_low"] (CJ) [])
  (lK:HasFn P w K mg base 10 "_law_found" ["_law_memory", "_law_way", "_law_task", "_law_first", "_law_many_here", "_law_rights_here"] (CK a) [])
  (m6:HasFn P w K mg base 9 "_law_read" ["_law_memory", "_law_task", "_law_address"] (CL a) [])
  (h_:HasFn P w K mg base 1 "_law_read_due" ["_law_kept", "_law_task", "_law_address", "_law_low", "_law_pages"] (FV) [])
  (lL:HasFn P w K mg base 1 "_law_whole" ["_law_found_here"] (CI) [])
  (m8:HasFn P w K mg base 4 "room_left" ["memory"] (CF a) []) :
  gv P w K mg base (CXE P w) 11 f (W.fnOf "law" "law" (bB eU) (aY eU) (ak eU) dV kV doc pm an cdv ct) ["_law_script"] (CM K):=by
 refine qZ lk hcd cW (fun vs H Q E h=>?_) (fun A outer s H vs Q E hr h=>?_)
 ·obtain⟨sc,ss,rfl,_⟩:=h
  rfl
 obtain⟨sc,ss,rfl,hS,hlen,k⟩:=h
 let R7:{t:TS // PSs (iq (CXE P w) P w K mg base Cd "law" (ak eU) f cdv A outer s H E) ((aY eU).drop 7) t}:=⟨_,(@ah _ _ _ _ _ (dW cE rfl (gk (j7 Gp (pv 0) (kC au) (kC au))) (b5 (i:=8) cW.nd rfl (by first | exact Or.inl rfl | exact Or.inr rfl))
   (@ah _ _ _ _ _ (@aN _ _ 9 _ _ _ _ cW.nd rfl (by first | exact Or.inl rfl | exact Or.inr rfl) (bz lJ (hr.mono (by decide)) (by rfl) af (@ae _ _ _ _ _ (pv 8) aj rfl)) (by rfl) (by first | exact Or.inl rfl | exact Or.inr rfl))
   (@ah _ _ _ _ _ (@aN _ _ 10 _ _ _ _ cW.nd rfl (by first | exact Or.inl rfl | exact Or.inr rfl) (p8 CY (by rfl) T.Cj PyProof.Rows.Boot.«int» (@ae _ _ _ _ _ (xH oP (aK cJ (pv 9) au) au (bH _)) aj rfl)) (by rfl) (by first | exact Or.inl rfl | exact Or.inr rfl))
   (@ah _ _ _ _ _ (@aN _ _ 11 _ _ _ _ cW.nd rfl (by first | exact Or.inl rfl | exact Or.inr rfl) (aK cJ (aK dM (pv 9) au) au) (by rfl) (by first | exact Or.inl rfl | exact Or.inr rfl))
   (@ah _ _ _ _ _ (@aN _ _ 12 _ _ _ _ cW.nd rfl (by first | exact Or.inl rfl | exact Or.inr rfl) (bU (CW rfl) (by rfl) T.Fv PyProof.Rows.Boot.«min» (@ae _ _ _ _ _ (aK dj (pv 7) (aK cJ (aK dM (pv 9) au) au)) (@ae _ _ _ _ _ (pv 3) aj rfl) rfl)) (by rfl) (by first | exact Or.inl rfl | exact Or.inr rfl))
   (@ah _ _ _ _ _ (@aN _ _ 13 _ _ _ _ cW.nd rfl (by first | exact Or.inl rfl | exact Or.inr rfl) (bz m5 (hr.mono (by decide)) (by rfl) af (@ae _ _ _ _ _ (aK dM (pv 9) au) aj rfl)) (by rfl) (by first | exact Or.inl rfl | exact Or.inr rfl))
   (@ah _ _ _ _ _ (@aN _ _ 14 _ _ _ _ cW.nd rfl (by first | exact Or.inl rfl | exact Or.inr rfl) (bz j4 (hr.mono (by decide)) (by rfl) af (@ae _ _ _ _ _ (aK dM (pv 9) au) aj rfl)) (by rfl) (by first | exact Or.inl rfl | exact Or.inr rfl))
   (@ah _ _ _ _ _ (@aN _ _ 15 _ _ _ _ cW.nd rfl (by first | exact Or.inl rfl | exact Or.inr rfl) (bz oF (hr.mono (by decide)) (by rfl) af (@ae _ _ _ _ _ (@cY _ _ _ _ _ _ _ cV (pv 6) (pv 10) (fun _ _=>rfl)) (@ae _ _ _ _ _ (pv 11) (@ae _ _ _ _ _ (@cY _ _ _ _ _ _ _ cV (pv 5) (pv 10) (fun _ _=>rfl)) (@ae _ _ _ _ _ (pv 12) (@ae _ _ _ _ _ (pv 13) (@ae _ _ _ _ _ (pv 14) (@ae _ _ _ _ _ (pv 3) (@ae _ _ _ _ _ (pv 2) aj rfl) rfl) rfl) rfl) rfl) rfl) rfl) rfl)) (by rfl) (by first | exact Or.inl rfl | exact Or.inr rfl))
   (@ah _ _ _ _ _ (bx (aV (AQ hr.units) (bz lK (hr.mono (by decide)) (by rfl) af (@ae _ _ _ _ _ (pv 4) (@ae _ _ _ _ _ (pv 11) (@ae _ _ _ _ _ (@cY _ _ _ _ _ _ _ cV (pv 5) (pv 10) (fun _ _=>rfl)) (@ae _ _ _ _ _ (pv 12) (@ae _ _ _ _ _ (pv 13) (@ae _ _ _ _ _ (pv 14) aj rfl) rfl) rfl) rfl) rfl) rfl)) (pv 15) (bH _)) (@ao _ _ _ (@aI _ _ _ _ BM)) aS)
   (@ah _ _ _ _ _ (@aN _ _ 16 _ _ _ _ cW.nd rfl (by first | exact Or.inl rfl | exact Or.inr rfl) (aK cJ (aK dM (pv 9) au) au) (by rfl) (by first | exact Or.inl rfl | exact Or.inr rfl))
   (@ah _ _ _ _ _ (@aN _ _ 17 _ _ _ _ cW.nd rfl (by first | exact Or.inl rfl | exact Or.inr rfl) (aK dj (aK xS (aK dj (pv 7) (aK cJ (aK dM (pv 9) au) au)) (pv 2)) (aK cJ (aK dM (pv 9) au) (aK tK au (pv 2)))) (by rfl) (by first | exact Or.inl rfl | exact Or.inr rfl))
   (@ah _ _ _ _ _ (@aN _ _ 18 _ _ _ _ cW.nd rfl (by first | exact Or.inl rfl | exact Or.inr rfl) (bz m6 (hr.mono (by decide)) (by rfl) af (@ae _ _ _ _ _ (pv 4) (@ae _ _ _ _ _ (@cY _ _ _ _ _ _ _ cV (pv 5) (pv 16) (fun _ _=>rfl)) (@ae _ _ _ _ _ (pv 17) aj rfl) rfl) rfl)) (by rfl) (by first | exact Or.inl rfl | exact Or.inr rfl))
   (@ah _ _ _ _ _ (bx (aV (AQ hr.units) (pv 18) (bz h_ (hr.mono (by decide)) (by rfl) af (@ae _ _ _ _ _ (@cY _ _ _ _ _ _ _ cV (pv 6) (pv 16) (fun _ _=>rfl)) (@ae _ _ _ _ _ (@cY _ _ _ _ _ _ _ cV (pv 5) (pv 16) (fun _ _=>rfl)) (@ae _ _ _ _ _ (pv 17) (@ae _ _ _ _ _ (pv 2) (@ae _ _ _ _ _ (pv 3) aj rfl) rfl) rfl) rfl) rfl)) (bH _)) (@ao _ _ _ (@aI _ _ _ _ BM)) aS)
   (@ao _ _ _ (bx (PW.pt (tI (aV oP (@cY _ _ _ _ _ _ _ jy (pv 18) au (fun _ _=>rfl)) bd (bH _)) (oO (gH (kA (bz lL (hr.mono (by decide)) (by rfl) af (@ae _ _ _ _ _ (@cY _ _ _ _ _ _ _ jy (pv 18) au (fun _ _=>rfl)) aj rfl))))))) (@ao _ _ _ (@aI _ _ _ _ BM)) aS)))))))))))))))
   (@ao _ _ _ (@aI _ _ _ _ (xH oP (bz m8 (hr.mono (by decide)) (by rfl) af (@ae _ _ _ _ _ (pv 4) aj rfl)) au (bH _)))))⟩
 let R6:{t:TS // PSs (iq (CXE P w) P w K mg base Cd "law" (ak eU) f cdv A outer s H E) ((aY eU).drop 6) t}:=⟨_,(@ah _ _ _ _ _ (@aN _ _ 7 _ _ _ _ cW.nd rfl (by first | exact Or.inl rfl | exact Or.inr rfl) (aK cJ (aK dj (aK xD (bz bR (hr.mono (by decide)) (by rfl) af (@ae _ _ _ _ _ (pv 0) (@ae _ _ _ _ _ au aj rfl) rfl)) au) (aK dM (bz bR (hr.mono (by decide)) (by rfl) af (@ae _ _ _ _ _ (pv 0) (@ae _ _ _ _ _ au aj rfl) rfl)) au)) (pv 3)) (by rfl) (by first | exact Or.inl rfl | exact Or.inr rfl))
   R7.2)⟩
 let R3:{t:TS // PSs (iq (CXE P w) P w K mg base Cd "law" (ak eU) f cdv A outer s H E) ((aY eU).drop 3) t}:=⟨_,(@ah _ _ _ _ _ (@aN _ _ 4 _ _ _ _ cW.nd rfl (by first | exact Or.inl rfl | exact Or.inr rfl) (iP dL (hr.mono (by decide)) (by rfl) T.Ft af (@ae _ _ _ _ _ (iP gj (hr.mono (by decide)) (by rfl) T.GW af (@ae _ _ _ _ _ (pv 1) (@ae _ _ _ _ _ (pv 2) aj rfl) rfl)) (@ae _ _ _ _ _ au (@ae _ _ _ _ _ au aj rfl) rfl) rfl)) (by rfl) (by first | exact Or.inl rfl | exact Or.inr rfl))
   (@ah _ _ _ _ _ (@aN _ _ 5 _ _ _ _ cW.nd rfl (by first | exact Or.inl rfl | exact Or.inr rfl) (@kB _ _ _ _ (@ae _ _ _ _ _ (bz iH (hr.mono (by decide)) (by rfl) af (@ae _ _ _ _ _ (pv 4) aj rfl)) (@ae _ _ _ _ _ (bz iH (hr.mono (by decide)) (by rfl) af (@ae _ _ _ _ _ (pv 4) aj rfl)) aj rfl) rfl)) (by rfl) (by first | exact Or.inl rfl | exact Or.inr rfl))
   (@ah _ _ _ _ _ (@aN _ _ 6 _ _ _ _ cW.nd rfl (by first | exact Or.inl rfl | exact Or.inr rfl) (@kB _ _ _ _ (@ae _ _ _ _ _ gw (@ae _ _ _ _ _ gw aj rfl) rfl)) (by rfl) (by first | exact Or.inl rfl | exact Or.inr rfl))
   R6.2)))⟩
 refine⟨_,(@ah _ _ _ _ _ (@aN _ _ 1 _ _ _ _ cW.nd rfl (by first | exact Or.inl rfl | exact Or.inr rfl) (bz j3 (hr.mono (by decide)) (by rfl) af (@ae _ _ _ _ _ (pv 0) aj rfl)) (by rfl) (by first | exact Or.inl rfl | exact Or.inr rfl))
   (@ah _ _ _ _ _ (@aN _ _ 2 _ _ _ _ cW.nd rfl (by first | exact Or.inl rfl | exact Or.inr rfl) (aK cJ (bz bR (hr.mono (by decide)) (by rfl) af (@ae _ _ _ _ _ (pv 0) (@ae _ _ _ _ _ au aj rfl) rfl)) au) (by rfl) (by first | exact Or.inl rfl | exact Or.inr rfl))
   (@ah _ _ _ _ _ (@aN _ _ 3 _ _ _ _ cW.nd rfl (by first | exact Or.inl rfl | exact Or.inr rfl) (aK tK au (bU (Dd rfl) (by rfl) T.Ck PyProof.Rows.Boot.«sum» (@ae _ _ _ _ _ (pv 1) aj rfl))) (by rfl) (by first | exact Or.inl rfl | exact Or.inr rfl))
   R3.2))),?_⟩
 obtain⟨ms,em,lm⟩:=EK ss (some 6) (some 60)
 walk_at "go"
 intro w' ns hw0 hW
 generalize hh:upd _ w' _=H1
 obtain⟨s1,e1⟩:=cI hw0 hh
 clear hh
 have S1:=s1.seq hS
 have q1:=SqL.of (K:=K) e1
 have g0:∀low:Int,0<=low->low < 7->Good ns low:=fun low h0 h7=>⟨hW.1,hW.2,h0,by omega⟩
 have gs0:=(g0 0 (by decide) (by decide)).sum
 have cp:Gf 1 ns.sum:=⟨by omega,by omega,by decide⟩
 have pp:=Cp ns
 have tot:(1:Int)*2^ns.sum.toNat=pgs ns:=Int.one_mul _
 have JK:∀(mem d nr ln sh pl tl kl:Addr) (low st0 ww:Int) (X D:Nat->Addr) (F:Nat->List Addr) (MM:Nat->Mf) (H2:Hp),Good ns low->0<=st0->st0 < pgs ns->W36 a H2 mem d nr ln sh pl ns low ww X D F 0 MM->R36 H2 D MM 0->H2 tl=some (.lst [.int 0,.int 1])->H2 kl=some (.lst [.ref (D 0),.ref (D 1)])->SqL K H2 sc (ss.map V.int) ->
   R7.1 { nx:=fun x H'=>Q V.non H',rt:=Q } [some (.ref sc),some (.ref w'),some (.int low),some (.int (pgs ns)),some (.ref mem),some (.ref tl),some (.ref kl),some (.int st0),none,none,none,none,none,none,none,none,none,none,none] H2:=by
  intro mem d nr ln sh pl tl kl low st0 ww X D F MM H2 g st1 st2 W2 R2' ht hk S2
  walk_at "go"
  intro sl hsl
  generalize hh:upd _ sl _=H3
  obtain⟨s3,e3⟩:=cI hsl hh
  clear hh
  rw[em] at e3
  walk_at "go"
  refine iN (xs:=ms.map V.int) (fun i σ H'=>Bx (∃(v8 v9 v10 v11 v12 v13 v14 v15 v16 v17 v18:Option V) (ww:Int) (F:Nat->List Addr) (MM:Nat->Mf),σ=[some (.ref sc),some (.ref w'),some (.int low),some (.int (pgs ns)),some (.ref mem),some (.ref tl),some (.ref kl),some (.int st0),v8,v9,v10,v11,v12,v13,v14,v15,v16,v17,v18] ∧
   W36 a H' mem d nr ln sh pl ns low ww X D F (64*i) MM/\R36 H' D MM (64*i)/\H' tl=some (.lst [.int 0,.int 1])/\H' kl=some (.lst [.ref (D 0),.ref (D 1)])/\H' sl=some (.lst (ms.map V.int)))) ⟨_,_,_,_,_,_,_,_,_,_,_,_,_,_,rfl,W2.same s3,R2'.same s3,s3 _ _ ht,s3 _ _ hk,e3⟩ ?_ ?_ ?_
  ·rintro i σ H' _ ⟨_,_,_,_,_,_,_,_,_,_,_,_,_,_,_,_,_,_,_,z⟩
   exact SqL.of z
  ·rintro i x σ H4 hx ⟨v8,v9,v10,v11,v12,v13,v14,v15,v16,v17,v18,ww,F,MM,rfl,W4,R4',ht4,hk4,hs4⟩
   obtain⟨rw0,rfl,hc⟩:=c6 hx
   walk_at "go"
   intro c H5 s5
   have im:i < ms.length:=by have:=(List.getElem?_eq_some_iff.mp hx).1;rwa [List.length_map] at this
   have W5:=W4.same s5
   have R5':=R4'.same s5
   have ht5:=s5 _ _ ht4
   have hk5:=s5 _ _ hk4
   have qt5:=SqL.of (K:=K) ht5
   have qk5:=SqL.of (K:=K) hk5
   have kd:∀j:Nat,j < 2->atI [V.ref (D 0),V.ref (D 1)] (j:Int)=some (.ref (D j)):=fun j hj=>by
    rcases (show j=0\/j=1 by omega) with rfl | rfl<;>rfl
   have td:∀j:Nat,j < 2->atI [V.int 0,V.int 1] (j:Int)=some (.int (j:Int)):=fun j hj=>by
    rcases (show j=0\/j=1 by omega) with rfl | rfl<;>rfl
   walk_at "go"
   refine .inr ⟨_,rfl,?_⟩
   obtain⟨ia,hia,ea⟩:∃ia:Nat,ia < 2/\(if decide (V.int (c%5)=V.int 0)=true then (1:Int) else 0)=ia:=by
    split
    ·exact⟨1,by decide,rfl⟩
    ·exact⟨0,by decide,rfl⟩
   have ea':V.int (if decide ((fun i j=>V.int (i%j)) c 5=V.int 0)=true then 1 else 0)=V.int (ia:Int):=congrArg V.int ea
   rw[ea']
   have hwy:c / 5%3=0\/c / 5%3=1\/c / 5%3=2:=by omega
   walk_at "go"
   intro m H6 s6
   obtain⟨fi,efi,f0⟩:∃fi:Int,(if pgs ns < st0+c / 15%12 then pgs ns else st0+c / 15%12)=fi/\0<=fi:=⟨_,rfl,by split<;>omega⟩
   rw[efi]
   walk_at "go"
   intro r H7 s7
   have s57:=s6.trans s7
   have W7:=W5.same s57
   have R7':=R5'.same s57
   have ht7:=s57 _ _ ht5
   have hk7:=s57 _ _ hk5
   have qt7:=SqL.of (K:=K) ht7
   have qk7:=SqL.of (K:=K) hk7
   have hs7:=s57 _ _ (s5 _ _ hs4)
   have kr7:=R7' ia hia
   have c5:64*i < 5000:=by omega
   have l0:=g.Bi
   have l6:=g.Bj
   have pg:pgs ns<=2^100:=Int.le_trans g.yz (by decide)
   have kda:=kd ia hia
   have tda:=td ia hia
   walk_at "go"
   intro o1 M1 q1' H8 d1 e8 kr8 kq8
   obtain⟨kv7,hD7,_⟩:=id kr7
   have W8:=W7.due hia kr7 kq8
   have IM:∀{b:Addr} {xs:List V},H7 b=some (.lst xs)->H8 b=some (.lst xs):=fun {b xs} e=>kq8 _ _ e fun z=>by rw[z,hD7] at e;cases e
   have ht8:=IM ht7
   have hk8:=IM hk7
   have qt8:=SqL.of (K:=K) ht8
   have ME8:=W8.me
   obtain⟨LY,hd8,KQ⟩:=W8.hd
   have hv8:=KQ ia hia
   have S8:=W8.sk ia hia
   have LZ:=(W8.df ia hia).2.1
   have c8:64*i < 80000:=by omega
   walk_at "go"
   intro o2 M2 q2 fp2 H9 d2 e9 S9 kn9 fr9
   obtain⟨rfl,rfl⟩:=d1.one d2
   have dl:∀j:Nat,j < 2->∃u,H8 (D j)=some u:=fun j hj=>by
    by_cases z:j=ia
    ·subst z;obtain⟨kv,e,_⟩:=kr8;exact⟨_,e⟩
    ·obtain⟨kv,e,_⟩:=R7' j hj
     exact⟨_,kq8 _ _ e (W7.dd.1 j ia hj hia z)⟩
   have W9:=W8.deed dl hia S9 kn9 fr9
   have R9:R36 H9 D (DN MM ia M1) (64*i+64):=fun j hj=>by
    by_cases z:j=ia
    ·subst z;rw[nB];exact kr8.keep fun u e=>fr9.1 _ _ e ((W8.df j hj).2.2 j hj)
    ·rw[lI z]
     exact(((R7' j hj).keep fun u e=>kq8 _ _ e (W7.dd.1 j ia hj hia z)).keep fun u e=>fr9.1 _ _ e ((W8.df ia hia).2.2 j hj)).mono (by omega)
   have ht9:=kn9.lst ht8
   have hk9:=kn9.lst hk8
   have hs9:=kn9.lst (IM hs7)
   have e89:=kn9.tup e8
   have qt9:=SqL.of (K:=K) ht9
   have ME9:=W9.me
   obtain⟨L5,hd9,hv9'⟩:=W9.hd
   obtain⟨io,hio,eo⟩:∃io:Nat,io < 2/\c / 3%2=(io:Int):=⟨(c / 3%2).toNat,by omega,by omega⟩
   have hv9:=hv9' io hio
   have S9':=W9.sk io hio
   have kdo:=kd io hio
   have tdo:=td io hio
   have eo':(fun i j=>V.int (i%j)) (c / 3) 2=V.int (io:Int):=congrArg V.int eo
   walk_at "go"
   refine w5 (d:=.tuple o1.dat) (n:=2) (.tup (SqT.of e9) (o1.yO _ _)) (.tup (SqT.of e89) (o1.yO _ _)) o1.tid ?_
   have cs9:Ip (st0+c / 6%14) low:=⟨by omega,by omega,AY (by omega) (by have:=g.yz;omega)⟩
   have cp9:Gf 1 low:=⟨by omega,by omega,by decide⟩
   have pl9:(0:Int) < 1*2^low.toNat:=by rw[Int.one_mul];exact Int.pow_pos (by decide)
   walk_at "go"
   have ad0:0<=(st0+c / 6%14)*2^low.toNat+c / 84%(1*2^low.toNat):=Int.add_nonneg (Int.mul_nonneg (by omega) (Int.le_of_lt (Int.pow_pos (by decide)))) (Int.emod_nonneg _ (Int.ne_of_gt pl9))
   refine⟨ad0,fun q3 w3 H10 e10 M10 JL=>?_⟩
   obtain⟨W10,R10⟩:=W9.read R9 M10 JL
   obtain⟨dxm,ssm,hpm⟩:=ME9.ob
   have FW:∀{b:Addr} {xs:List V},H9 b=some (.lst xs)->H10 b=some (.lst xs):=fun {b xs} e=>JL _ _ e fun z=>by rw[z,hpm] at e;cases e
   have JM:=FW ht9
   have JN:=FW hk9
   have KS:=FW hs9
   have L6:=SqL.of (K:=K) JM
   have L7:=SqL.of (K:=K) JN
   have L8:=R10 io hio
   have F10:=(W10.sk io hio).fr
   walk_at "go"
   intro q4 H11 e11 s11
   generalize nH (DN MM ia M1 io) ns low (io:Int) ((st0+c / 6%14)*2^low.toNat+c / 84%(1*2^low.toNat))=oo at e10 e11
   have G6:=s11 _ _ e10
   refine w5 (d:=.tuple oo.dat) (n:=2) (.tup (SqT.of G6) (oo.yO _ _)) (.tup (SqT.of e11) (oo.yO _ _)) oo.tid ?_
   have fin:∀a8 a9 a10 a11 a12 a13 a14 a15 a16 a17 a18,Bx (∃(v8 v9 v10 v11 v12 v13 v14 v15 v16 v17 v18:Option V) (ww:Int) (F:Nat->List Addr) (MM:Nat->Mf),[some (V.ref sc),some (.ref w'),some (.int low),some (.int (pgs ns)),some (.ref mem),some (.ref tl),some (.ref kl),some (.int st0),a8,a9,a10,a11,a12,a13,a14,a15,a16,a17,a18]=[some (V.ref sc),some (.ref w'),some (.int low),some (.int (pgs ns)),some (.ref mem),some (.ref tl),some (.ref kl),some (.int st0),v8,v9,v10,v11,v12,v13,v14,v15,v16,v17,v18] ∧
     W36 a H11 mem d nr ln sh pl ns low ww X D F (64*(i+1)) MM/\R36 H11 D MM (64*(i+1))/\H11 tl=some (.lst [.int 0,.int 1])/\H11 kl=some (.lst [.ref (D 0),.ref (D 1)])/\H11 sl=some (.lst (ms.map V.int))):=fun a8 a9 a10 a11 a12 a13 a14 a15 a16 a17 a18 =>
    ⟨⟨_,_,_,_,_,_,_,_,_,_,_,_,_,_,rfl,W10.same s11,R10.same s11,s11 _ _ JM,s11 _ _ JN,s11 _ _ KS⟩⟩
   by_cases ow:oo=.word
   ·subst ow
    have sq:=SqT.of (K:=K) G6
    walk_at "go"
    refine Gr ?_
    exact fin _ _ _ _ _ _ _ _ _ _ _
   ·obtain⟨sx,lx,ex,nx⟩:=oo.G5 ow
    rw[ex] at G6
    have sq:=SqT.of (K:=K) G6
    have a0:atI (V.str sx::lx) ((0:Nat):Int)=some (.str sx):=oU rfl
    walk_at "go"
    refine iw (fun z=>absurd z nx) fun _=>?_
    exact fin _ _ _ _ _ _ _ _ _ _ _
  ·rintro σ H' ⟨v8,v9,v10,v11,v12,v13,v14,v15,v16,v17,v18,ww,F,MM,rfl,W4,R4',ht4,hk4,hs4⟩
   have ME:=W4.me
   walk_at "go"
   rw[decide_eq_true rfl]
   exact k _
 have n64:ns.length<=64:=by have:=hW.1;omega
 have tail3:∀low:Int,Good ns low->R3.1 { nx:=fun x H'=>Q V.non H',rt:=Q } [some (.ref sc),some (.ref w'),some (.int low),some (.int (pgs ns)),none,none,none,none,none,none,none,none,none,none,none,none,none,none,none] H1:=by
  intro low g
  walk_at "go"
  refine fun x dx hx hdx ne=>⟨x,w',dx,ns,low,rfl,aq,?_,n64,fun _ H2 SH2 fr=>⟨rfl,?_⟩,fun z=>absurd g z⟩
  ·rw[av (az e1 hx),av (az e1 hdx)];exact e1
  have s2:Same H1 H2:=fun b o z=>fr b o (by rw[av (az z hx),av (az z hdx)];exact z) (az z hx)
  have S2:=s2.seq S1
  walk_at "go"
  refine fun y dy hy hdy ney=>⟨y,x,dy,ns,low,rfl,aq,SH2.same (Ah hy hdy),g,fun d nr ln pl H3 M3 hd3 d0 l0 kq=>⟨rfl,?_⟩⟩
  have s3:Same H2 H3:=fun b u e=>mkd hy hdy kq e
  have S3:=s3.seq S2
  have hj0:∀j:Nat,j < 0->(bf ([]:List (Key×V)) (.inl (j:Int))).isSome=true:=fun j hj=>absurd hj (Nat.not_lt_zero _)
  have hn0:bf ([]:List (Key×V)) (.inl ((0:Nat):Int))=none:=rfl
  have kl0:([]:List (Key×V)).length < 100:=by decide
  walk_at "go"
  intro x0 fp0 H4 M4 hd4 S4 n4 k4
  have hj1:∀j:Nat,j < 1->(bf (putK ([]:List (Key×V)) (.inl ((0:Nat):Int)) (.ref x0)) (.inl (j:Int))).isSome=true:=fun j hj=>by
   obtain rfl:j=0:=by omega
   rw[d8,if_pos rfl];rfl
  have hn1:bf (putK ([]:List (Key×V)) (.inl ((0:Nat):Int)) (.ref x0)) (.inl ((1:Nat):Int))=none:=by rw[d8,if_neg (by decide)];rfl
  have kl1:(putK ([]:List (Key×V)) (.inl ((0:Nat):Int)) (.ref x0)).length < 100:=Nat.lt_of_le_of_lt (dv _ _ _) (by decide)
  walk_at "go"
  intro x1 fp1 H5 M5 hd5 S5 n5 k5
  walk_at "go"
  intro tl htl
  generalize hh:upd _ tl _=H6
  obtain⟨s6,e6⟩:=cI htl hh
  clear hh
  walk_at "go"
  intro D0 hD0
  generalize hh:upd _ D0 _=H7
  obtain⟨s7,e7⟩:=cI hD0 hh
  clear hh
  walk_at "go"
  intro D1 hD1
  generalize hh:upd _ D1 _=H8
  obtain⟨s8,e8⟩:=cI hD1 hh
  clear hh
  walk_at "go"
  intro kl hkl
  generalize hh:upd _ kl _=H9
  obtain⟨s9,e9⟩:=cI hkl hh
  clear hh
  have s79:=s8.trans s9
  have s69:=s7.trans s79
  have s59:=s6.trans s69
  have k0:∀b,b∈fp0->∃kv,H4 b=some (.dK kv):=fun b hb=>S4.live hb
  have hl3:∃u,H3 ln=some u:=let ⟨_,_,_,h⟩:=M3.ne;⟨_,h⟩
  have hl4:∃u,H4 ln=some u:=let ⟨_,_,_,h⟩:=M4.ne;⟨_,h⟩
  have hl5:∃u,H5 ln=some u:=let ⟨_,_,_,h⟩:=M5.ne;⟨_,h⟩
  have nd0:d∉fp0:=fun z=>by rw[n4 _ z] at hd3;cases hd3
  have nd1:d∉fp1:=fun z=>by rw[n5 _ z] at hd4;cases hd4
  have nl0:ln∉fp0:=fun z=>by obtain⟨u,e⟩:=hl3;rw[n4 _ z] at e;cases e
  have nl1:ln∉fp1:=fun z=>by obtain⟨u,e⟩:=hl4;rw[n5 _ z] at e;cases e
  have S04:=(S4.kq k5 nd0 (.inl ⟨_,hd4⟩)).same s59
  have S15:=S5.same s59
  have nw:∀b u,H5 b=some u->b≠D0/\b≠D1:=fun b u e=>⟨az (s6 _ _ e) hD0,az (s7 _ _ (s6 _ _ e)) hD1⟩
  have S05:=S4.kq k5 nd0 (.inl ⟨_,hd4⟩)
  have lv0:∀b,b∈fp0->b≠D0/\b≠D1:=fun b hb=>let ⟨_,e⟩:=S05.live hb;nw _ _ e
  have lv1:∀b,b∈fp1->b≠D0/\b≠D1:=fun b hb=>let ⟨_,e⟩:=S5.live hb;nw _ _ e
  have D01:D0≠D1:=az e7 hD1
  have WW:W36 a H9 y d nr ln x pl ns low 0 (fun i=>if i=0 then x0 else x1) (fun i=>if i=0 then D0 else D1) (fun i=>if i=0 then fp0 else fp1) 0 (fun _ _=>none):=by
   refine⟨M5.same s59,⟨_,s59 _ _ hd5,fun i hi=>?_⟩,fun i hi=>?_,fun i j hi hj n b hb=>?_,fun i hi=>?_,fun i j hi hj n=>?_,fun i hi=>?_⟩
   ·rcases (show i=0\/i=1 by omega) with rfl | rfl
    ·rw[d8,if_neg (by decide),d8,if_pos rfl];rfl
    ·rw[d8,if_pos rfl];rfl
   ·rcases (show i=0\/i=1 by omega) with rfl | rfl
    ·exact S04
    ·exact S15
   ·rcases (show i=0\/i=1 by omega) with rfl | rfl<;>rcases (show j=0\/j=1 by omega) with rfl | rfl
    ·exact absurd rfl n
    ·exact fun z=>by obtain⟨kv,e⟩:=k0 b hb;rw[n5 b z] at e;cases e
    ·exact fun z=>by obtain⟨kv,e⟩:=k0 b z;rw[n5 b hb] at e;cases e
    ·exact absurd rfl n
   ·rcases (show i=0\/i=1 by omega) with rfl | rfl
    ·refine⟨nd0,nl0,fun j hj=>?_⟩
     rcases (show j=0\/j=1 by omega) with rfl | rfl
     ·exact fun z=>(lv0 _ z).1 rfl
     ·exact fun z=>(lv0 _ z).2 rfl
    ·refine⟨nd1,nl1,fun j hj=>?_⟩
     rcases (show j=0\/j=1 by omega) with rfl | rfl
     ·exact fun z=>(lv1 _ z).1 rfl
     ·exact fun z=>(lv1 _ z).2 rfl
   ·rcases (show i=0\/i=1 by omega) with rfl | rfl<;>rcases (show j=0\/j=1 by omega) with rfl | rfl
    ·exact absurd rfl n
    ·exact D01
    ·exact D01.symm
    ·exact absurd rfl n
   ·obtain⟨u,hu⟩:=hl5
    rcases (show i=0\/i=1 by omega) with rfl | rfl
    ·exact⟨(nw _ _ hd5).1.symm,(nw _ _ hu).1.symm⟩
    ·exact⟨(nw _ _ hd5).2.symm,(nw _ _ hu).2.symm⟩
  have RR:R36 H9 (fun i=>if i=0 then D0 else D1) (fun _ _=>none) 0:=fun i hi=>by
   rcases (show i=0\/i=1 by omega) with rfl | rfl
   ·exact⟨[],s79 _ _ e7,by decide,fun _=>rfl⟩
   ·exact⟨[],s9 _ _ e8,by decide,fun _=>rfl⟩
  have S9:SqL K H9 sc (ss.map V.int):=s59.seq ((kqN k5 hd4).seq ((kqN k4 hd3).seq S3))
  have cm:Ee (ss.getD (5:Int).toNat 0) 2147483647:=.inr ⟨by decide,by decide⟩
  repeat (first | exact JK y d nr ln x pl tl kl low _ 0 _ _ _ _ H9 g (Int.emod_nonneg _ (Int.ne_of_gt pp)) (Int.emod_lt_of_pos _ pp) WW RR (s69 _ _ e6) e9 S9 | (apply And.intro;(walk_at "cl")) | walk_at "ex")
 have tail:R3.1 { nx:=fun x H'=>Q V.non H',rt:=Q } [some (.ref sc),some (.ref w'),some (.int (ss.getD (4:Int).toNat 0%7)),some (.int (1*2^ns.sum.toNat)),none,none,none,none,none,none,none,none,none,none,none,none,none,none,none] H1:=by
  rw[tot]
  exact tail3 _ (g0 _ (by omega) (by omega))
 repeat (first | exact tail | (apply And.intro;(walk_at "cl")) | walk_at "ex")
end
end K36

set_option maxHeartbeats 4000000
namespace L2
open PySem PySem.Spec PyProof.Rows
section
variable {P:List Value->Prop}
theorem u0 (h:P []): ∀us:List Value,us.length=0->P us
  | [],_=>h
theorem uS {n:Nat}(h:∀(a:Value) (us:List Value),us.length=n->P (a::us)): ∀us:List Value,us.length=n+1->P us
  | a::us,e=>h a us (Nat.succ.inj e)
theorem u1 (h:∀a:Value,P [a]): ∀us:List Value,us.length=1->P us:=uS fun a=>u0 (h a)
theorem u2 (h:∀a b:Value,P [a,b]): ∀us:List Value,us.length=2->P us:=uS fun a=>u1 (P:=fun us=>P (a::us)) (h a)
theorem u3 (h:∀a b c:Value,P [a,b,c]): ∀us:List Value,us.length=3->P us:=uS fun a=>u2 (P:=fun us=>P (a::us)) (h a)
theorem u4 (h:∀a b c d:Value,P [a,b,c,d]): ∀us:List Value,us.length=4->P us:=uS fun a=>u3 (P:=fun us=>P (a::us)) (h a)
theorem u5 (h:∀a b c d e:Value,P [a,b,c,d,e]): ∀us:List Value,us.length=5->P us:=uS fun a=>u4 (P:=fun us=>P (a::us)) (h a)
theorem u6 (h:∀a b c d e f:Value,P [a,b,c,d,e,f]): ∀us:List Value,us.length=6->P us:=uS fun a=>u5 (P:=fun us=>P (a::us)) (h a)
theorem u7 (h:∀a b c d e f g:Value,P [a,b,c,d,e,f,g]): ∀us:List Value,us.length=7->P us:=uS fun a=>u6 (P:=fun us=>P (a::us)) (h a)
theorem u8 (h:∀a b c d e f g i:Value,P [a,b,c,d,e,f,g,i]): ∀us:List Value,us.length=8->P us:=uS fun a=>u7 (P:=fun us=>P (a::us)) (h a)
end
def BA (nm q:Str)(st:Stmt)(ps:List Str): Prop:=∀(kV doc pm:Value) (an:Option Addr) (cdv ct:Value) (us:List Value),us.length=ps.length ->
  bindArgs (W.fnOf nm q (bB st) (aY st) (ak st) .none kV doc pm an cdv ct) ⟨us,[]⟩=pure (ps.zip us)
section
variable {K:W.Frag}{h:Heap}{mg:Str->Option Value}{C f:Addr}{x m q:Str}{st:Stmt}{ps:List Str}{oc kV doc pm cdv ct:Value}{od an:Option Addr}{sl:Array (Option Value)}
theorem bC.of (X:K.In h)(G:h.Ns mainGlobals mg)(a:W.nsIn K mainGlobals x=some (some (.ref f)))(l:K.lookup f=some ⟨oc,od,.func (W.fnOf x x (bB st) (aY st) (ak st) .none kV doc pm an cdv ct),sl⟩)
    (c:W.codeIn K cdv x=true) (k:W.keepIn K (.ref f)=true) (b:BA x x st ps):bC K mg x st ps [] :=
  ⟨f,oc,od,.none,kV,doc,pm,an,cdv,ct,sl,[],l,c,k,W.mg_of X G a,.all (b _ _ _ _ _ _),.nil⟩
theorem bg.of (e:W.findIn K (.ref C) m=some (some (.ref f)))(l:K.lookup f=some ⟨oc,od,.func (W.fnOf m q (bB st) (aY st) (ak st) .none kV doc pm an cdv ct),sl⟩)
    (c:W.codeIn K cdv q=true) (k:W.keepIn K (.ref f)=true) (i:W.isFn K (.ref f)=true) (b:BA m q st ps):bg K C m q st ps [] :=
  ⟨f,oc,od,.none,kV,doc,pm,an,cdv,ct,sl,[],l,c,⟨e,i,k⟩,.all (b _ _ _ _ _ _),.nil⟩
theorem eM.of (e:W.findIn K (.ref C) "__init__" = some (some (.ref f))) (l:K.lookup f=some ⟨oc,od,.func (W.fnOf "__init__" q (bB st) (aY st) (ak st) .none kV doc pm an cdv ct),sl⟩)
    (c:W.codeIn K cdv q=true) (k:W.makesIn K C=true) (i:W.isFn K (.ref f)=true) (kc:W.keepIn K (.ref C)=true) (b:BA "__init__" q st ps):eM K C q st ps [] :=
  ⟨f,oc,od,.none,kV,doc,pm,an,cdv,ct,sl,[],l,c,⟨k,e,i,kc⟩,.all (b _ _ _ _ _ _),.nil⟩
theorem XL.mk' {bm N nm qn bs sn sub ab col dd k0 k1 k2 k3 k5} (l:K.lookup C=some (excClassObj nm qn C N bs bm true sn sub ab col dd k0 k1 k2 k3 k5 "ValueError.__new__")) (r:A7 bm=true):XL K C :=
  ⟨bm,N,nm,qn,bs,sn,sub,ab,col,dd,k0,k1,k2,k3,k5,l,r⟩
end
end L2

set_option maxHeartbeats 4000000
namespace K36
open PySem L2
theorem all_mk {l:W.OpenLaw} {w:World} {K:W.Frag} {h:Heap} {mg:Str->Option Value} {fa cU cN aD aM k7 yv pE aO kg nj bj tj aA aL eY aF bq bX aW cO bV bF bt bD bJ aZ aG a_ aw k8 cP f22 f23 f31 f32 f77 JO f88:Addr} (X:K.In h) (G:h.Ns mainGlobals mg) (hfa:mg "law" = some (.ref fa))
  {KU KW KY KZ K0 K1 K2 K3 K4 K5 K6 JP:Option Addr} {K7 K8 K9 K_ La Lb:Array (Option Value)} {Lc Ld Le Lg JQ Lh Li Lj Lk Ln JR Lp Lq Lr Ls Lv JS Lw Lx Ly Lz LC JT LD LI LJ LK LL JU LN LO JV JW JX IP JY:Value}
  {JZ:Value} {J0:Option Addr} {J1:Nat} {IQ:Array (Option Value)} {FX:Tok}
  {vp:Array DictEntry} {Br:Nat}
  {Bs Bt Bu Bv Bw By Bz BD:Tok}
  {DP:Option Addr} {DQ:Nat} {DR:Array (Option Value)}
  {sV qV sW qW vq vt vv yR vw:Tok}
  (wB:W.nsIn K mainGlobals "LeafError" = some (some (.ref cU)))
  (An:W.nsIn K mainGlobals "NoShape" = some (some (.ref cN)))
  (wC:W.nsIn K mainGlobals "NoAddress" = some (some (.ref aD)))
  (wD:W.nsIn K mainGlobals "NoStretch" = some (some (.ref aM)))
  (yS:W.nsIn K mainGlobals "NoNumber" = some (some (.ref k7)))
  (FY:W.nsIn K mainGlobals "Full" = some (some (.ref yv)))
  (BE:W.nsIn K mainGlobals "NoWord" = some (some (.ref pE)))
  (yT:W.nsIn K mainGlobals "NoRights" = some (some (.ref aO)))
  (BF:W.nsIn K mainGlobals "NoTask" = some (some (.ref kg)))
  (Ao:W.nsIn K mainGlobals "NoShare" = some (some (.ref nj)))
  (DS:W.nsIn K mainGlobals "Taken" = some (some (.ref bj)))
  (DT:W.nsIn K mainGlobals "Fault" = some (some (.ref tj)))
  (yU:W.nsIn K mainGlobals "Unmapped" = some (some (.ref aA)))
  (BG:W.nsIn K mainGlobals "Barred" = some (some (.ref aL)))
  (FZ:W.nsIn K mainGlobals "Leaf" = some (some (.ref eY)))
  (DU:W.nsIn K mainGlobals "Fresh" = some (some (.ref aF)))
  (F0:W.nsIn K mainGlobals "Held" = some (some (.ref bq)))
  (G7:W.nsIn K mainGlobals "Out" = some (some (.ref bX)))
  (DV:W.nsIn K mainGlobals "Named" = some (some (.ref aW)))
  (F1:W.nsIn K mainGlobals "Hand" = some (some (.ref cO)))
  (BH:W.nsIn K mainGlobals "Counts" = some (some (.ref bV)))
  (DW:W.nsIn K mainGlobals "Store" = some (some (.ref bF)))
  (F2:W.nsIn K mainGlobals "Pool" = some (some (.ref bt)))
  (F3:W.nsIn K mainGlobals "Near" = some (some (.ref bD)))
  (BI:W.nsIn K mainGlobals "Shares" = some (some (.ref bJ)))
  (F4:W.nsIn K mainGlobals "Tree" = some (some (.ref aZ)))
  (DX:W.nsIn K mainGlobals "Space" = some (some (.ref aG)))
  (BJ:W.nsIn K mainGlobals "Memory" = some (some (.ref a_)))
  (DY:W.nsIn K mainGlobals "Shape" = some (some (.ref aw)))
  (qX:W.findCls K (.ref eY) (.type "type") "__init__" = some (.val (.ref f22)))
  (G8:W.readsIn K eY (.type "type")=true)
  (G9:W.specialIn K (.ref eY) "__getattribute__" = some (some (.builtin "type.__getattribute__")))
  (pZ:W.findIn K (.ref aF) "__init__" = some (some (.ref f22)))
  (m9:W.findIn K (.ref aA) "__init__" = some (some (.ref f32)))
  (yV:W.findIn K (.ref aF) "may" = some (some (.ref f23)))
  (Ap:W.findIn K (.ref bq) "may" = some (some (.ref f23)))
  (BK:W.findIn K (.ref bX) "may" = some (some (.ref f23)))
  (yW:W.findIn K (.ref aW) "may" = some (some (.ref f23)))
  (oG:W.findIn K (.ref aL) "__init__" = some (some (.ref f32)))
  (p5:W.findIn K (.ref bj) "__init__" = some (some (.ref f31)))
  (oH:W.findIn K (.ref a_) "__init__" = some (some (.ref f77)))
  (l22:K.lookup f22=some ⟨Lc,KU,.func (W.fnOf "__init__" "Leaf.__init__" (bB bw) (aY bw) (ak bw) .none Ld Le Lg KW JQ Lh),K7⟩)
  (c22:W.codeIn K JQ "Leaf.__init__" = true)
  (k22:W.keepIn K (.ref f22)=true)
  (i22:W.isFn K (.ref f22)=true)
  (l23:K.lookup f23=some ⟨Li,KY,.func (W.fnOf "may" "Leaf.may" (bB cK) (aY cK) (ak cK) .none Lj Lk Ln KZ JR Lp),K8⟩)
  (c23:W.codeIn K JR "Leaf.may" = true)
  (k23:W.keepIn K (.ref f23)=true)
  (i23:W.isFn K (.ref f23)=true)
  (l31:K.lookup f31=some ⟨Lq,K0,.func (W.fnOf "__init__" "Taken.__init__" (bB bn) (aY bn) (ak bn) .none Lr Ls Lv K1 JS Lw),K9⟩)
  (c31:W.codeIn K JS "Taken.__init__" = true)
  (k31:W.keepIn K (.ref f31)=true)
  (i31:W.isFn K (.ref f31)=true)
  (l32:K.lookup f32=some ⟨Lx,K2,.func (W.fnOf "__init__" "Fault.__init__" (bB bo) (aY bo) (ak bo) .none Ly Lz LC K3 JT LD),K_⟩)
  (c32:W.codeIn K JT "Fault.__init__" = true)
  (k32:W.keepIn K (.ref f32)=true)
  (i32:W.isFn K (.ref f32)=true)
  (l77:K.lookup f77=some ⟨LI,K4,.func (W.fnOf "__init__" "Memory.__init__" (bB cF) (aY cF) (ak cF) (.ref JO) LJ LK LL K5 JU LN),La⟩)
  (c77:W.codeIn K JU "Memory.__init__" = true)
  (k77:W.keepIn K (.ref f77)=true)
  (i77:W.isFn K (.ref f77)=true)
  (LQ:K.lookup JO=some ⟨JZ,J0,.seq #[.int 0 FX] J1,IQ⟩)
  (a88:W.nsIn K mainGlobals "law" = some (some (.ref f88)))
  (l88:K.lookup f88=some ⟨LO,K6,.func (W.fnOf "law" "law" (bB eU) (aY eU) (ak eU) .none JV JW JX JP IP JY),Lb⟩)
  (c88:W.codeIn K IP "law" = true)
  (k88:W.keepIn K (.ref f88)=true)
  (r1:bC K mg "check_shape" jB ["widths", "low"] [])
  (r2:bC K mg "check_inside" iS ["number", "bound"] [])
  (r3:bg K aw "pages" "Shape.pages" jC ["self"] [])
  (r4:bg K aw "size" "Shape.size" kG ["self"] [])
  (r5:bg K aw "check_address" "Shape.check_address" da ["self", "address"] [])
  (r6:bg K aw "part_widths" "Shape.part_widths" dX ["self"] [])
  (r7:bg K aw "cut" "Shape.cut" mh ["self", "address"] [])
  (r8:bg K aw "address_of" "Shape.address_of" eC ["self", "page", "place"] [])
  (r9:bg K aZ "indexes" "Tree.indexes" iW ["self", "page"] [])
  (r10:bg K aZ "path_to" "Tree.path_to" iX ["self", "indexes"] [])
  (r11:bC K mg "prune" xX ["path", "indexes"] [])
  (r12:bC K mg "check_rights" iT ["rights"] [])
  (r13:bC K mg "lets" Ba ["rights", "deed"] [])
  (r14:eM K bq "Held.__init__" gN ["self", "rights", "frame"] [])
  (r15:eM K bX "Out.__init__" iV ["self", "rights", "slot"] [])
  (r16:eM K aW "Named.__init__" fO ["self", "rights", "name", "part"] [])
  (r17:bg K aZ "leaf" "Tree.leaf" mj ["self", "page"] [])
  (r18:bg K aZ "put" "Tree.put" n9 ["self", "page", "leaf"] [])
  (r19:eM K aZ "Tree.__init__" gP ["self", "shape"] [])
  (r20:bg K aw "page_of" "Shape.page_of" gK ["self", "address"] [])
  (r21:bg K aG "leaf" "Space.leaf" kH ["self", "page"] [])
  (r22:bg K aw "place_of" "Shape.place_of" fN ["self", "address"] [])
  (r23:bg K aw "stretch" "Shape.stretch" gL ["self", "first", "many"] [])
  (r24:bg K aG "put" "Space.put" ml ["self", "page", "leaf"] [])
  (r25:bg K aG "check_mapped" "Space.check_mapped" dA ["self", "pages", "deed"] [])
  (r26:bg K aZ "drop" "Tree.drop" gA ["self", "page"] [])
  (r27:bg K aF "righted" "Fresh.righted" gM ["self", "rights"] [])
  (r28:bg K bq "righted" "Held.righted" iU ["self", "rights"] [])
  (r29:bg K bX "righted" "Out.righted" jD ["self", "rights"] [])
  (r30:bg K aW "righted" "Named.righted" gO ["self", "rights"] [])
  (r31:eM K bV "Counts.__init__" eR ["self", "many"] [])
  (r32:eM K bF "Store.__init__" fQ ["self", "many", "size"] [])
  (r33:eM K cO "Hand.__init__" gQ ["self", "many"] [])
  (r34:bg K bV "free" "Counts.free" jE ["self"] [])
  (r35:bg K bF "free" "Store.free" kK ["self"] [])
  (r36:bg K bD "place_for" "Near.place_for" fR ["self", "task", "page"] [])
  (r37:bg K bD "found" "Near.found" kM ["self", "task", "page"] [])
  (r38:bg K bD "forget" "Near.forget" jG ["self", "task", "page"] [])
  (r39:bg K bt "room" "Pool.room" mq ["self"] [])
  (r40:bg K bF "less" "Store.less" kL ["self", "number"] [])
  (r41:bg K cO "unmark" "Hand.unmark" jF ["self", "frame"] [])
  (r42:bg K bD "forget_frame" "Near.forget_frame" dY ["self", "frame"] [])
  (r43:bg K bt "less" "Pool.less" mr ["self", "leaf"] [])
  (r44:bC K mg "forget_content" fS ["memory", "leaf"] [])
  (r45:bg K bJ "less" "Shares.less" jI ["self", "name"] [])
  (r46:bC K mg "content_less" i0 ["memory", "leaf"] [])
  (r47:bg K bJ "leaf" "Shares.leaf" jH ["self", "name", "part"] [])
  (r48:bC K mg "content_leaf" iZ ["memory", "leaf"] [])
  (r49:bC K mg "brought_in" kS ["memory", "content"] [])
  (r50:bC K mg "note_frame" kR ["memory", "task", "page", "leaf", "frame"] [])
  (r51:bg K bt "word" "Pool.word" mw ["self", "frame", "place"] [])
  (r52:bC K mg "space_of" n_ ["memory", "task"] [])
  (r53:bg K aG "lay" "Space.lay" mo ["self", "first", "leaves"] [])
  (r54:bg K aG "lift" "Space.lift" kI ["self", "first", "many"] [])
  (r55:bC K mg "forget_pages" i3 ["memory", "task", "first", "many"] [])
  (r56:bC K mg "count_less" kP ["memory", "leaf"] [])
  (r57:bg K aG "change" "Space.change" iY ["self", "first", "many", "rights"] [])
  (r58:bC K mg "near_frame" kQ ["memory", "task", "address", "deed"] [])
  (r59:bg K aG "seek" "Space.seek" kJ ["self", "address", "deed"] [])
  (r60:bC K mg "read_found" kT ["memory", "task", "page", "place", "leaf"] [])
  (r61:bC K mg "least_free_task" eT ["memory"] [])
  (r62:eM K aG "Space.__init__" fP ["self", "shape", "task"] [])
  (r63:eM K bt "Pool.__init__" gR ["self", "frames", "slots", "size"] [])
  (r64:eM K bD "Near.__init__" gS ["self", "many"] [])
  (r65:eM K bJ "Shares.__init__" eS ["self"] [])
  (r66:bC K mg "_law_cell_at" i4 ["_law_script", "_law_k"] [])
  (r67:bC K mg "map_pages" my ["memory", "task", "first", "many", "rights"] [])
  (r68:bC K mg "unmap_pages" jJ ["memory", "task", "first", "many"] [])
  (r69:bC K mg "change_rights" gT ["memory", "task", "first", "many", "rights"] [])
  (r70:bC K mg "read_word" mz ["memory", "task", "address"] [])
  (r71:bC K mg "_law_widths" jK ["_law_script"] [])
  (r72:eM K aw "Shape.__init__" fM ["self", "widths", "low"] [])
  (r73:bC K mg "begin_task" kN ["memory"] [])
  (r74:bC K mg "_law_mixed" kX ["_law_raw"] [])
  (r75:bC K mg "_law_many" mB ["_law_cell"] [])
  (r76:bC K mg "_law_rights" jL ["_law_cell"] [])
  (r77:bC K mg "_law_due" eD ["_law_kept", "_law_way", "_law_task", "_law_first", "_law_many_here", "_law_rights_here", "_law_pages", "_law_low"] [])
  (r78:bC K mg "_law_found" kW ["_law_memory", "_law_way", "_law_task", "_law_first", "_law_many_here", "_law_rights_here"] [])
  (r79:bC K mg "_law_read" mC ["_law_memory", "_law_task", "_law_address"] [])
  (r80:bC K mg "_law_read_due" gU ["_law_kept", "_law_task", "_law_address", "_law_low", "_law_pages"] [])
  (r81:bC K mg "_law_whole" kU ["_law_found_here"] [])
  (r82:bC K mg "room_left" mx ["memory"] [])
  (Ce:Cls K eY)
  (i6:Cls K aF)
  (nu:Cls K bq)
  (qH:Cls K bX)
  (kh:Cls K aW)
  (tq:Cls K cO)
  (iI:Cls K bV)
  (eZ:Cls K bF)
  (fb:Cls K bt)
  (dh:Cls K bD)
  (ki:Cls K bJ)
  (b9:Cls K aZ)
  (bh:Cls K aG)
  (b6:Cls K a_)
  (aE:Cls K aw)
  (F5:W.makesIn K aF=true)
  (F6:W.keepIn K (.ref aF)=true)
  (DZ:W.makesIn K a_=true)
  (D2:W.keepIn K (.ref a_)=true)
  (D3:W.nsIn K mainGlobals "NEEDED" = some (some (.ref cP)))
  (D4:K.lookup cP=some ⟨.type "dict",none,.dict vp Br,#[]⟩)
  (D5:W.KeysLit w.params vp.toList)
  (D6:(cP==sysModules)=false)
  (F7:W.nsIn K mainGlobals "SIZES" = some (some (.ref k8)))
  (F8:K.lookup k8=some ⟨.type "tuple",DP,.seq #[.int 0 Bs,.int 1 Bt,.int 2 Bu,.int 4 Bv,.int 8 Bw,.int 16 By,.int 32 Bz,.int 64 BD] DQ,DR⟩)
  (gm:W.findIn K (.ref bV) "kept" = some none)
  (nR:W.findIn K (.ref aF) "frame" = some none)
  (pF:W.findIn K (.ref aF) "name" = some none)
  (pG:W.findIn K (.ref aF) "part" = some none)
  (dB:W.findIn K (.ref aF) "rights" = some none)
  (pH:W.findIn K (.ref aF) "slot" = some none)
  (jO:W.findIn K (.ref cO) "marked" = some none)
  (gY:W.findIn K (.ref cO) "standing" = some none)
  (iB:W.findIn K (.ref bq) "frame" = some none)
  (rk:W.findIn K (.ref bq) "name" = some none)
  (rp:W.findIn K (.ref bq) "part" = some none)
  (eh:W.findIn K (.ref bq) "rights" = some none)
  (rq:W.findIn K (.ref bq) "slot" = some none)
  (nS:W.findIn K (.ref eY) "rights" = some none)
  (er:W.findIn K (.ref a_) "near" = some none)
  (et:W.findIn K (.ref a_) "pool" = some none)
  (bK:W.findIn K (.ref a_) "shape" = some none)
  (gZ:W.findIn K (.ref a_) "shares" = some none)
  (cB:W.findIn K (.ref a_) "spaces" = some none)
  (fc:W.findIn K (.ref a_) "walks" = some none)
  (nU:W.findIn K (.ref aW) "frame" = some none)
  (iC:W.findIn K (.ref aW) "name" = some none)
  (iD:W.findIn K (.ref aW) "part" = some none)
  (dC:W.findIn K (.ref aW) "rights" = some none)
  (pI:W.findIn K (.ref aW) "slot" = some none)
  (fe:W.findIn K (.ref bD) "lines" = some none)
  (jq:W.findIn K (.ref bD) "many" = some none)
  (rE:W.findIn K (.ref bX) "frame" = some none)
  (uB:W.findIn K (.ref bX) "name" = some none)
  (uC:W.findIn K (.ref bX) "part" = some none)
  (fh:W.findIn K (.ref bX) "rights" = some none)
  (k9:W.findIn K (.ref bX) "slot" = some none)
  (cX:W.findIn K (.ref bt) "frame_store" = some none)
  (mI:W.findIn K (.ref bt) "hand" = some none)
  (jP:W.findIn K (.ref bt) "length" = some none)
  (di:W.findIn K (.ref bt) "slot_store" = some none)
  (dD:W.findIn K (.ref aw) "low" = some none)
  (dE:W.findIn K (.ref aw) "widths" = some none)
  (jQ:W.findIn K (.ref bJ) "kept" = some none)
  (cj:W.findIn K (.ref aG) "shape" = some none)
  (fj:W.findIn K (.ref aG) "task" = some none)
  (b_:W.findIn K (.ref aG) "tree" = some none)
  (fU:W.findIn K (.ref bF) "contents" = some none)
  (i7:W.findIn K (.ref bF) "length" = some none)
  (gn:W.findIn K (.ref bF) "tally" = some none)
  (cH:W.findIn K (.ref aZ) "shape" = some none)
  (dF:W.findIn K (.ref aZ) "top" = some none)
  (dO:W.excIn K cN bmV "ValueError.__new__" = true)
  (jr:W.excIn K aD bmV "ValueError.__new__" = true)
  (gC:W.excIn K aM bmV "ValueError.__new__" = true)
  (k_:W.excIn K aO bmV "ValueError.__new__" = true)
  (uE:W.excIn K kg bmV "ValueError.__new__" = true)
  (bN:XL K aA)
  (lM:W.findIn K (.ref aA) "__setattr__" = some (some (.builtin "object.__setattr__")))
  (gF:W.findIn K (.ref aA) "address" = some none)
  (jv:W.findIn K (.ref aA) "deed" = some none)
  (jw:W.findIn K (.ref aA) "task" = some none)
  (lN:W.findIn K (.ref aA) "__getattribute__" = some (some (.builtin "BaseException.__getattribute__")))
  (lO:W.findIn K (.ref aA) "__getattr__" = some none)
  (i8:XL K bj)
  (D7:W.findIn K (.ref bj) "__setattr__" = some (some (.builtin "object.__setattr__")))
  (m_:W.findIn K (.ref bj) "page" = some none)
  (D8:W.findIn K (.ref bj) "__getattribute__" = some (some (.builtin "BaseException.__getattribute__")))
  (D9:W.findIn K (.ref bj) "__getattr__" = some none)
  (cQ:XL K aL)
  (oJ:W.findIn K (.ref aL) "__setattr__" = some (some (.builtin "object.__setattr__")))
  (jj:W.findIn K (.ref aL) "address" = some none)
  (lT:W.findIn K (.ref aL) "deed" = some none)
  (lU:W.findIn K (.ref aL) "task" = some none)
  (oK:W.findIn K (.ref aL) "__getattribute__" = some (some (.builtin "BaseException.__getattribute__")))
  (oM:W.findIn K (.ref aL) "__getattr__" = some none)
  (yX:W.findCls K (.ref cU) (.type "type") "__init__" = some (.val (.builtin "ValueError.__init__")))
  (yY:W.readsIn K cU (.type "type")=true)
  (yZ:W.specialIn K (.ref cU) "__getattribute__" = some (some (.builtin "type.__getattribute__")))
  (jR:W.nsIn K cP "read" = some (some (.int 1 sV)))
  (i9:W.nsIn K cP "write" = some (some (.int 2 qV)))
  (jS:W.nsIn K mainGlobals "MOST_FRAMES" = some (some (.int 64 sW)))
  (i_:W.nsIn K mainGlobals "MOST_NUMBERS" = some (some (.int 64 qW)))
  (lh:W.nsIn K mainGlobals "MOST_WORDS" = some (some (.int 64 vq)))
  (pM:W.nsIn K mainGlobals "READ_ALONE" = some (some (.int 1 vt)))
  (lj:W.nsIn K mainGlobals "MOST_WIDTH" = some (some (.int 24 vv)))
  (oq:W.nsIn K mainGlobals "MOST_LOW" = some (some (.int 6 yR)))
  (ll:W.nsIn K mainGlobals "MOST_PAGES" = some (some (.int 64 vw)))
  (Bg:W.nsIn K mainGlobals "bool" = some none)
  (Cj:W.nsIn K mainGlobals "int" = some none)
  (bY:W.nsIn K mainGlobals "isinstance" = some none)
  (pN:W.nsIn K mainGlobals "len" = some none)
  (Bh:W.nsIn K mainGlobals "list" = some none)
  (Fv:W.nsIn K mainGlobals "min" = some none)
  (lr:W.nsIn K mainGlobals "range" = some none)
  (lu:W.nsIn K mainGlobals "reversed" = some none)
  (zV:W.nsIn K mainGlobals "sorted" = some none)
  (Ck:W.nsIn K mainGlobals "sum" = some none)
  (tD:W.nsIn K mainGlobals "tuple" = some none)
  (Fw:W.nsIn K mainGlobals "zip" = some none)
  (Cm:XIs K bj)
  (uJ:XIs K aA)
  (zW:XIs K aL)
  (rH:XIs K aD)
  (rJ:XIs K aM)
  (uK:XIs K aO)
  (hn:W.specialIn K (.builtin "object.__class__") "__get__" = some (some (.builtin "getset_descriptor.__get__")))
  (htk:W.takesIn K (.builtin "object.__class__")=some true)
  (F9:W.findIn K (.ref aF) "__class__" = some (some (.builtin "object.__class__")))
  (F_:W.mroIn K aF (.type "object")=some true)
  (gp:W.kitOne K (.ref aF) (.ref aW)=some false)
  (iE:W.kitOne K (.ref aF) (.ref bq)=some false)
  (mL:W.kitOne K (.ref aF) (.ref bX)=some false)
  (jT:W.kitOne K (.ref aF) (.ref aF)=some true)
  (jU:W.mroIn K bj (.ref bj)=some true)
  (fW:W.mroIn K aA (.ref bj)=some false)
  (cM:W.mroIn K aA (.ref aA)=some true)
  (fk:W.mroIn K aM (.ref bj)=some false)
  (dG:W.mroIn K aM (.ref aA)=some false)
  (db:W.mroIn K aM (.ref aM)=some true)
  (fX:W.mroIn K aO (.ref bj)=some false)
  (dZ:W.mroIn K aO (.ref aA)=some false)
  (dH:W.mroIn K aO (.ref aM)=some false)
  (d5:W.mroIn K aO (.ref aO)=some true)
  (fm:W.mroIn K aL (.ref aA)=some false)
  (g6:W.mroIn K aL (.ref aL)=some true)
  (dI:W.mroIn K aD (.ref aA)=some false)
  (eF:W.mroIn K aD (.ref aL)=some false)
  (dg:W.mroIn K aD (.ref aD)=some true) :
  ∃fd:FuncData,(∀(s:Shared) (v:Value),BindsTo s fd ⟨[v],[]⟩ [("_law_script",v)])/\∀base:Heap,K.In base->base.Ns mainGlobals mg->gv l.prog w K mg base (CXE l.prog w) 11 fa fd ["_law_script"] (CM K):=by
 have e:=hfa.symm.trans (W.mg_of X G a88)
 cases e
 have T:Txt w K mg ⟨cU,cN,aD,aM,k7,yv,pE,aO,kg,nj,bj,tj,aA,aL,eY,aF,bq,bX,aW,cO,bV,bF,bt,bD,bJ,aZ,aG,a_,aw,k8,cP⟩:=⟨Ce,i6,nu,qH,kh,tq,iI,eZ,fb,dh,ki,b9,bh,b6,aE,gm,nR,pF,pG,dB,pH,jO,gY,iB,rk,rp,eh,rq,nS,er,et,bK,gZ,cB,fc,nU,iC,iD,dC,pI,fe,jq,rE,uB,uC,fh,k9,cX,mI,jP,di,dD,dE,jQ,cj,fj,b_,fU,i7,gn,cH,dF,W.mg_of X G wB,dO,W.mg_of X G An,jr,W.mg_of X G wC,gC,W.mg_of X G wD,W.mg_of X G yS,W.mg_of X G FY,W.mg_of X G BE,k_,W.mg_of X G yT,uE,W.mg_of X G BF,W.mg_of X G Ao,W.mg_of X G DS,W.mg_of X G DT,W.mg_of X G yU,W.mg_of X G BG,W.mg_of X G FZ,W.mg_of X G DU,W.mg_of X G F0,W.mg_of X G G7,W.mg_of X G DV,W.mg_of X G F1,W.mg_of X G BH,W.mg_of X G DW,W.mg_of X G F2,W.mg_of X G F3,W.mg_of X G BI,W.mg_of X G F4,W.mg_of X G DX,W.mg_of X G BJ,W.mg_of X G DY,bN,iy.of bN lM gF,iy.of bN lM jv,iy.of bN lM jw,md.of bN lN lO gF,md.of bN lN lO jv,md.of bN lN lO jw,i8,iy.of i8 D7 m_,md.of i8 D8 D9 m_,cQ,iy.of cQ oJ jj,iy.of cQ oJ lT,iy.of cQ oJ lU,md.of cQ oK oM jj,md.of cQ oK oM lT,md.of cQ oK oM lU,⟨yZ,⟨_,yY,yX⟩⟩,W.mg_of X G D3,⟨⟨_,_,D4,D5⟩,D6⟩,⟨_,jR⟩,⟨_,i9⟩,⟨_,W.mg_of X G jS⟩,⟨_,W.mg_of X G i_⟩,⟨_,W.mg_of X G lh⟩,W.mg_of X G F7,fun _=>.inr ⟨_,_,_,F8,rfl,rfl,Dj (n:=8) rfl,(.cons ⟨_,rfl⟩ (.cons ⟨_,rfl⟩ (.cons ⟨_,rfl⟩ (.cons ⟨_,rfl⟩ (.cons ⟨_,rfl⟩ (.cons ⟨_,rfl⟩ (.cons ⟨_,rfl⟩ (.cons ⟨_,rfl⟩ .nil))))))))⟩,⟨_,W.mg_of X G pM⟩,⟨_,W.mg_of X G lj⟩,⟨_,W.mg_of X G oq⟩,⟨_,W.mg_of X G ll⟩,W.mg_none_of X G Bg,W.mg_none_of X G Cj,W.mg_none_of X G bY,W.mg_none_of X G pN,W.mg_none_of X G Bh,W.mg_none_of X G Fv,W.mg_none_of X G lr,W.mg_none_of X G lu,W.mg_none_of X G zV,W.mg_none_of X G Ck,W.mg_none_of X G tD,W.mg_none_of X G Fw,Cm,uJ,zW,rH,rJ,uK,⟨hn,htk⟩,fun e=>.of (.ins e i6 F9 hn htk F_),gp,iE,mL,jT,jU,fW,cM,fk,dG,db,fX,dZ,dH,d5,fm,g6,dI,eF,dg⟩
 refine⟨W.fnOf "law" "law" (bB eU) (aY eU) (ak eU) .none JV JW JX JP IP JY,fun s v=>.of_eq rfl,fun base _ _=>?_⟩
 have bR:=sU (P:=l.prog) (base:=base) r66 T
 have j3:=vm (P:=l.prog) (base:=base) r71 T bR
 have fD:=oA (P:=l.prog) (base:=base) r31 T
 have dQ:=pW (P:=l.prog) (base:=base) r32 T fD
 have hU:=qQ (P:=l.prog) (base:=base) r33 T
 have hV:=qR (P:=l.prog) (base:=base) r63 T dQ hU
 have bL:=v7 (P:=l.prog) (base:=base) r4 T
 have hX:=qS (P:=l.prog) (base:=base) r64 T
 have fG:=oB (P:=l.prog) (base:=base) r65 T
 have dL:=oE (P:=l.prog) (w:=w) (base:=base) (dvs:=[.int 0]) ⟨f77,_,_,_,_,_,_,_,_,_,_,[.int 0 FX],l77,c77,⟨DZ,oH,i77,D2⟩,(fun s us XX hl=>match us,(show us.length=4 by rw[List.length_append] at hl;exact Nat.add_right_cancel hl) with | [_,_,_,_],_=>W.binds_K XX rfl LQ rfl rfl rfl),(.cons ⟨_,rfl⟩ .nil)⟩ T hV bL hX fG
 have jV:=uM (P:=l.prog) (base:=base) r1 T
 have gj:=pP (P:=l.prog) (base:=base) r72 T jV
 have fF:=oC (P:=l.prog) (base:=base) r61 T
 have g9:=qM (P:=l.prog) (base:=base) r19 T
 have gi:=pU (P:=l.prog) (base:=base) r62 T g9
 have iH:=wv (P:=l.prog) (base:=base) r73 T fF gi
 have lJ:=wz (P:=l.prog) (base:=base) r74 T
 have m5:=yP (P:=l.prog) (base:=base) r75 T
 have j4:=vn (P:=l.prog) (base:=base) r76 T
 have oF:=Ak (P:=l.prog) (base:=base) r77 T
 have b7:=Aj (P:=l.prog) (base:=base) r52 T
 have bZ:=uN (P:=l.prog) (base:=base) r3 T
 have aU:=qK (P:=l.prog) (base:=base) r23 T bZ
 have cv:=sK (P:=l.prog) (base:=base) r2 T
 have aX:=lw (P:=l.prog) (base:=base) r5 T cv bZ bL
 have d6:=mM (P:=l.prog) (base:=base) r6 T
 have mO:=yB (P:=l.prog) (base:=base) r7 T aX d6
 have bW:=nG (P:=l.prog) (base:=base) r8 T cv bZ bL
 have bQ:=sL (P:=l.prog) (base:=base) r9 T mO bW
 have mQ:=yC (P:=l.prog) (base:=base) r17 T bQ
 have bM:=wa (P:=l.prog) (base:=base) r21 T mQ
 have f9:=Fg (dvs:=[]) (ds:=[]) (pT (P:=l.prog) (w:=w) (base:=base) l31 c31 T) (rh.of i8 p5 i31) (.all (fun us hl=>match us,hl with | [_,_],_=>rfl)) .nil
 have oy:=z9 (P:=l.prog) (base:=base) r18 T bQ
 have eJ:=yG (P:=l.prog) (base:=base) r24 T oy
 have mY:=yH (P:=l.prog) (base:=base) r53 T aU bM f9 eJ
 have cw:=sN (P:=l.prog) (base:=base) r12 T
 have ck:=Jq (dvs:=[]) (ds:=[]) (ku (P:=l.prog) (w:=w) (base:=base) l22 c22 T cw) ⟨F5,pZ,i22,F6⟩ (.all (fun us hl=>match us,hl with | [_,_],_=>rfl)) .nil
 have mZ:=yM (P:=l.prog) (base:=base) r67 T b7 aU mY ck
 have bS:=Fg (dvs:=[]) (ds:=[]) (jt (P:=l.prog) (w:=w) (base:=base) l32 c32 T) (rh.of bN m9 i32) (.all (fun us hl=>match us,hl with | [_,_,_,_],_=>rfl)) .nil
 have bO:=lY (P:=l.prog) (base:=base) r25 T bM bS bW
 have ja:=sM (P:=l.prog) (base:=base) r10 T
 have yE:=FC (P:=l.prog) (base:=base) r11 T
 have mS:=yD (P:=l.prog) (base:=base) r26 T bQ ja yE
 have lD:=wd (P:=l.prog) (base:=base) r54 T aU bO mS
 have cr:=pX (P:=l.prog) (base:=base) r36 T
 have dR:=wo (P:=l.prog) (base:=base) r37 T cr
 have jY:=ve (P:=l.prog) (base:=base) r38 T dR cr
 have cR:=sR (P:=l.prog) (base:=base) r55 T aU jY
 have j0:=vb (P:=l.prog) (base:=base) r45 T
 have iG:=wg (P:=l.prog) (base:=base) r40 T
 have jZ:=u_ (P:=l.prog) (base:=base) r41 T
 have mX:=yL (P:=l.prog) (base:=base) r43 T iG jZ
 have d7:=mV (P:=l.prog) (base:=base) r42 T
 have gb:=pY (P:=l.prog) (base:=base) r44 T d7
 have fE:=sS (P:=l.prog) (base:=base) r46 T mX gb
 have lE:=wq (P:=l.prog) (base:=base) r56 T j0 fE
 have j2:=vj (P:=l.prog) (base:=base) r68 T lD b7 cR lE
 have g_:=qO (P:=l.prog) (base:=base) r27 T ck
 have bE:=Jr (dvs:=[]) (ds:=[]) (ku (P:=l.prog) (w:=w) (base:=base) l22 c22 T cw) ⟨G9,⟨_,G8,qX⟩,k22⟩ (.all (fun us hl=>match us,hl with | [_,_],_=>rfl)) .nil
 have g7:=qN (P:=l.prog) (base:=base) r14 T bE
 have jf:=sP (P:=l.prog) (base:=base) r28 T g7
 have je:=sO (P:=l.prog) (base:=base) r15 T bE
 have jW:=uW (P:=l.prog) (base:=base) r29 T je
 have f7:=pR (P:=l.prog) (base:=base) r16 T bE
 have hJ:=qP (P:=l.prog) (base:=base) r30 T f7
 have jh:=sQ (P:=l.prog) (base:=base) r57 T aU cw bO eJ g_ jf jW hJ bM
 have hZ:=qT (P:=l.prog) (base:=base) r69 T jh b7 cR
 have lK:=wA (P:=l.prog) (base:=base) r78 T mZ j2 hZ
 have cC:=qJ (P:=l.prog) (base:=base) r20 T aX
 have lA:=G0 (P:=l.prog) (base:=base) r13 T
 have lF:=wu (P:=l.prog) (base:=base) r58 T dR cC lA
 have eK:=yI (P:=l.prog) (base:=base) r51 T
 have cq:=pQ (P:=l.prog) (base:=base) r22 T aX bL
 have rO:=B8 (dvs:=[]) (ds:=[]) (js (P:=l.prog) (w:=w) (base:=base) l23 c23 T lA) ⟨yV,i23,k23⟩ (.all (fun us hl=>match us,hl with | [_,_],_=>rfl)) .nil
 have uX:=B8 (dvs:=[]) (ds:=[]) (js (P:=l.prog) (w:=w) (base:=base) l23 c23 T lA) ⟨Ap,i23,k23⟩ (.all (fun us hl=>match us,hl with | [_,_],_=>rfl)) .nil
 have xr:=B8 (dvs:=[]) (ds:=[]) (js (P:=l.prog) (w:=w) (base:=base) l23 c23 T lA) ⟨BK,i23,k23⟩ (.all (fun us hl=>match us,hl with | [_,_],_=>rfl)) .nil
 have rP:=B8 (dvs:=[]) (ds:=[]) (js (P:=l.prog) (w:=w) (base:=base) l23 c23 T lA) ⟨yW,i23,k23⟩ (.all (fun us hl=>match us,hl with | [_,_],_=>rfl)) .nil
 have fA:=Fg (dvs:=[]) (ds:=[]) (jt (P:=l.prog) (w:=w) (base:=base) l32 c32 T) (rh.of cQ oG i32) (.all (fun us hl=>match us,hl with | [_,_,_,_],_=>rfl)) .nil
 have lG:=wc (P:=l.prog) (base:=base) r59 T cC bM bS rO uX xr rP fA cq
 have j1:=va (P:=l.prog) (base:=base) r47 T
 have jg:=sT (P:=l.prog) (base:=base) r48 T j1
 have lB:=wk (P:=l.prog) (base:=base) r49 T
 have lC:=wj (P:=l.prog) (base:=base) r50 T
 have lH:=wt (P:=l.prog) (base:=base) r60 T jg lB lC eK
 have m4:=yN (P:=l.prog) (base:=base) r70 T b7 lF eK cq lG lH
 have m6:=yQ (P:=l.prog) (base:=base) r79 T m4
 have h_:=qU (P:=l.prog) (base:=base) r80 T
 have lL:=wx (P:=l.prog) (base:=base) r81 T
 have jX:=vd (P:=l.prog) (base:=base) r34 T
 have iF:=wn (P:=l.prog) (base:=base) r35 T jX
 have mW:=yJ (P:=l.prog) (base:=base) r39 T iF
 have m8:=yK (P:=l.prog) (base:=base) r82 T mW
 exact IL l88 c88 T j3 bR dL gj iH lJ m5 j4 oF lK m6 h_ lL m8
theorem walk {l:W.OpenLaw}{q:Program}{loose:List Str}{XP:(Str->Option Value)->Heap->Prop}{YP:World->Heap->Prop}{d:DefRec}{K:Params->W.Frag}(hn:l.most=some 63)(hdf:d.params.defaults=[])
  (hY:∀(w:World) (h:Heap),YP w h->(K w.params).In h)
  (F:∀(w:World) (mg:Str->Option Value) (fa:Addr) (h:Heap),(K w.params).In h->h.Ns mainGlobals mg->mg d.name=some (.ref fa) ->
   ∃fd:FuncData,(∀(s:Shared) (u:Value),BindsTo s fd ⟨[u],[]⟩ [("_law_script",u)])/\∀base:Heap,(K w.params).In base->base.Ns mainGlobals mg->gv l.prog w (K w.params) mg base (CXE l.prog w) 11 fa fd ["_law_script"] (CM (K w.params))) :
  W.WalkO q loose XP YP l.row.toRowW d [] (fun f vs=>PySem.call f vs) :=
 L2.Gq (n:=63) (k:=11) (x := "_law_script") (CX:=fun w=>CXE l.prog w) (sp:=fun w=>CM (K w.params)) hn (by decide) hdf ⟨rfl,by decide,by decide⟩ hY F (fun _ _ a ns hl _ hS=>⟨a,ns,rfl,hS,hl,fun _=>rfl⟩) fun _ _ _ _ _ z=>by
  obtain⟨_,_,_,_,_,_,_,_,_,_,q⟩:=z
  exact q
end K36

namespace L2
open PySem PySem.W
def live (x:Obj): Option Obj:=match x with
  | ⟨_,_,.freed,_⟩=>none
  | o=>some o
noncomputable def pick (l:List Obj):Nat->List Nat->List (Option Obj) :=
  @List.rec Obj (fun _=>Nat->List Nat->List (Option Obj)) (fun _ _=>[])
    (fun o _ ih i as=>@List.rec Nat (fun _=>List (Option Obj)) [] (fun a r _=>@Bool.rec (fun _=>List (Option Obj)) (ih (Nat.add i 1) as) (live o::ih (Nat.add i 1) r) (Nat.beq i a)) as) l
noncomputable def told (K:Frag):List (Option Obj):=@List.rec (Addr×Obj) (fun _=>List (Option Obj)) [] (fun p _ r=>some p.2::r) K
theorem y0:∀(l:List Obj) (i:Nat) (K:Frag),pick l i (K.map (·.1))=told K->∀p∈K,∃j,p.1=i+j/\(l[j]?).bind live=some p.2
  | [],i,K,e,p,hp=>by
    cases K with
    | nil=>cases hp
    | cons q r=>exact absurd e (by intro x;exact nomatch (x:([]:List (Option Obj))=some q.2::told r))
  | o::l,i,[],e,p,hp=>by cases hp
  | o::l,i,q::r,e,p,hp=>by
    have e':@Bool.rec (fun _=>List (Option Obj)) (pick l (i+1) ((q::r).map (·.1))) (live o::pick l (i+1) (r.map (·.1))) (Nat.beq i q.1)=some q.2::told r:=e
    cases hb:Nat.beq i q.1 with
    | false =>
      rw[hb] at e'
      obtain⟨j,h1,h2⟩:=y0 l (i+1) (q::r) e' p hp
      exact⟨j+1,h1.trans (by rw[Nat.add_assoc,Nat.add_comm 1 j]),by simpa using h2⟩
    | true =>
      rw[hb] at e'
      injection e' with a b
      rcases List.mem_cons.mp hp with rfl | hp
      · exact⟨0,(Nat.eq_of_beq_eq_true hb).symm,by simpa using a⟩
      · obtain⟨j,h1,h2⟩:=y0 l (i+1) r b p hp
        exact⟨j+1,h1.trans (by rw[Nat.add_assoc,Nat.add_comm 1 j]),by simpa using h2⟩
theorem Ga {h:Heap}{a:Addr}{o:Obj}(e:(h.objs.toList[a]?).bind live=some o): h.get? a=some o:=by
  rw[Array.getElem?_toList] at e
  unfold Heap.get?
  cases hx:h.objs[a]? with
  | none=>rw[hx] at e;cases e
  | some x =>
    rw[hx] at e
    obtain⟨c,d,dt,sl⟩:=x
    cases dt<;>first | (cases e;done) | (cases e;rfl)
theorem lookup_mem:∀{K:Frag} {a:Addr} {o:Obj},K.lookup a=some o->(a,o)∈K
  | [],_,_,e=>by cases e
  | (b,x)::r,a,o,e=>by
    rw[List.lookup_cons] at e
    cases h:a==b with
    | true=>rw[h] at e;cases e;rw[eq_of_beq h];exact .head _
    | false=>rw[h] at e;exact .tail _ (lookup_mem e)
noncomputable def hook (K:Params->Frag) (as:List Addr) (e:∀P,as=(K P).map (·.1)):Hook :=
  ⟨List (Option Obj),fun s=>pick s.heap.objs.toList 0 as,fun w=>told (K w.params),InK K,fun w s x a o l=>by
    obtain⟨j,h1,h2⟩:=y0 _ _ _ ((e w.params) ▸ x) _ (lookup_mem l)
    have h1:a=0+j:=h1
    rw[Nat.zero_add] at h1
    subst h1
    exact Ga h2,InK.keeps⟩
theorem IT {K:Params->Frag}{as:List Addr}{e:∀P,as=(K P).map (·.1)}{w:World}{h:Heap}(Y:(hook K as e).says w h): (K w.params).In h:=Y
end L2

set_option maxHeartbeats 4000000
local macro_rules | `(tactic| walk_at "bu") => `(tactic| first | exact fun _ _ _ _ _ _ => L2.u1 fun _ => rfl | exact fun _ _ _ _ _ _ => L2.u2 fun _ _ => rfl | exact fun _ _ _ _ _ _ => L2.u3 fun _ _ _ => rfl | exact fun _ _ _ _ _ _ => L2.u4 fun _ _ _ _ => rfl | exact fun _ _ _ _ _ _ => L2.u5 fun _ _ _ _ _ => rfl | exact fun _ _ _ _ _ _ => L2.u6 fun _ _ _ _ _ _ => rfl | exact fun _ _ _ _ _ _ => L2.u7 fun _ _ _ _ _ _ _ => rfl | exact fun _ _ _ _ _ _ => L2.u8 fun _ _ _ _ _ _ _ _ => rfl | exact fun _ _ _ _ _ _ => L2.u9 fun _ _ _ _ _ _ _ _ _ => rfl | exact fun _ _ _ _ _ _ => L2.u0 rfl)
local macro_rules | `(tactic| walk_at "zz") => `(tactic| first | (with_reducible show (_ == PySem.sysModules) = false; exact rfl) | (refine' L2.bg.of ?a ?l ?c ?k ?i ?b; (case a => k_is); (case l => k_is); (case c => k_is); (case k => k_is); (case i => k_is); (case b => walk_at "bu")) | (refine' L2.bC.of (by assumption) (by assumption) ?a ?l ?c ?k ?b; (case a => k_is); (case l => k_is); (case c => k_is); (case k => k_is); (case b => walk_at "bu")) | (refine' L2.eM.of ?a ?l ?c ?k ?i ?j ?b; (case a => k_is); (case l => k_is); (case c => k_is); (case k => k_is); (case i => k_is); (case j => k_is); (case b => walk_at "bu")) | (refine' L2.Cls.mk ?a ?b ?c ?d <;> k_is) | (refine' L2.XIs.mk ?a ?b ?c ?d ?e ?f <;> k_is) | (refine' L2.XL.mk' ?a ?b; (case a => k_is); (case b => first | rfl | decide +kernel)) | k_is | kit_is | k_exc | k_keys | rfl)
local macro_rules | `(tactic| o_head ($f:ident $k $a $p)) => if f.getId.eraseMacroScopes.getString! == "kHook" then `(tactic| o_head (L2.hook $k $a $p)) else Lean.Macro.throwUnsupported
open PySem PySem.W PyProof.Rows
namespace PySem.W.Fast
theorem tw3413773977732237644:True:=trivial
theorem tw10244483241266856297:True:=trivial
theorem tw14241219095741462106:True:=trivial
theorem tw9667433865654954007:True:=trivial
theorem tw8912151666592024059:True:=trivial
theorem tw7456383758682980855:True:=trivial
theorem tw14896398962624354808:True:=trivial
theorem tw18299577360236234718:True:=trivial
theorem tw12874454079495448319:True:=trivial
theorem tw11923963131431556584:True:=trivial
theorem tw5651055540866141796:True:=trivial
theorem tw6922145725614857947:True:=trivial
theorem tw8437159740001605492:True:=trivial
theorem tw14720860242790775974:True:=trivial
theorem tw5324068367683411149:True:=trivial
theorem tw16902710458023764664:True:=trivial
theorem tw7409284836386135600:True:=trivial
theorem tw6323364334241386121:True:=trivial
theorem tw14376931892520073242:True:=trivial
theorem tw3739015244201462708:True:=trivial
theorem tw3511711000583508449:True:=trivial
theorem tw25689231370411490:True:=trivial
theorem tw5359700427635906157:True:=trivial
theorem tw12101107760050691267:True:=trivial
theorem tw7845608198049229997:True:=trivial
theorem tw635985768158635740:True:=trivial
theorem tw17768005494865230886:True:=trivial
theorem tw15062780918328410092:True:=trivial
theorem tw10899745471733508610:True:=trivial
theorem tw11029208723849217588:True:=trivial
theorem tw3154662582917479092:True:=trivial
theorem tw13628598906926307095:True:=trivial
theorem tw4681423319683590147:True:=trivial
theorem tw7411758377355445293:True:=trivial
theorem tw11268943828391089984:True:=trivial
theorem tw7541382285547490022:True:=trivial
theorem tw12330694132544416897:True:=trivial
theorem tw13695326835414055500:True:=trivial
theorem tw4316382814285387656:True:=trivial
theorem tw7792401552848789045:True:=trivial
theorem tw6932361268696257508:True:=trivial
theorem tw4083572216327032113:True:=trivial
theorem tw6487934517685992752:True:=trivial
theorem tw1768014152078710942:True:=trivial
theorem tw13859423414395078838:True:=trivial
theorem tw2235365245784529239:True:=trivial
theorem tw15245654662155929377:True:=trivial
theorem tw16025837745953190424:True:=trivial
theorem tw7557687785598997726:True:=trivial
theorem tw17077208524563659005:True:=trivial
theorem tw8086365344878236256:True:=trivial
theorem tw12684780655727541309:True:=trivial
theorem tw18044027380678048435:True:=trivial
theorem tw15776306573799687217:True:=trivial
theorem tw8628843350018087984:True:=trivial
theorem tw14725130929582211869:True:=trivial
theorem tw8598524242145034069:True:=trivial
theorem tw7169164254964656316:True:=trivial
theorem tw2599437280628156342:True:=trivial
theorem tw14720107382743186647:True:=trivial
theorem tw1269016524168635923:True:=trivial
theorem tw18074603216691800312:True:=trivial
theorem tw10838014553528278239:True:=trivial
theorem tw4787531408574597591:True:=trivial
theorem tw3807844178178948585:True:=trivial
theorem tw14769072597685487210:True:=trivial
theorem tw13955339561709352133:True:=trivial
theorem tw16354112749086849800:True:=trivial
theorem tw3876874564190564793:True:=trivial
theorem tw17726411495251083615:True:=trivial
theorem tw6441808031987631746:True:=trivial
theorem tw15978627939191413514:True:=trivial
theorem tw17703101341797694249:True:=trivial
theorem tw1970961630230856026:True:=trivial
theorem tw3662955417436905945:True:=trivial
theorem tw7241456977869249350:True:=trivial
theorem tw6959389277085805362:True:=trivial
theorem tw11932675021630599816:True:=trivial
theorem tw10193422624652245344:True:=trivial
theorem tw4176631799005770825:True:=trivial
theorem tw4972690055668034782:True:=trivial
theorem tw15707750482845291298:True:=trivial
theorem tw3533604934178197449:True:=trivial
theorem tw6529896875470693485:True:=trivial
theorem tw14724819848808187800:True:=trivial
theorem tw11943213131559092058:True:=trivial
theorem tw17778264441961937450:True:=trivial
theorem tw13213665508527997820:True:=trivial
theorem tw13937289121689698202:True:=trivial
theorem tw9994897465264013821:True:=trivial
theorem tw14311229802984400505:True:=trivial
theorem tw18089520693621686683:True:=trivial
theorem tw8427260607539442625:True:=trivial
theorem tw594323343758702481:True:=trivial
theorem tw7345508982873655650:True:=trivial
theorem tw13263304231462955950:True:=trivial
theorem tw16198083168851661561:True:=trivial
theorem tw921021258116744081:True:=trivial
theorem tw5861822009708212875:True:=trivial
theorem tw17904937878895187159:True:=trivial
theorem tw17966011058311875343:True:=trivial
theorem tw4612407768555929389:True:=trivial
theorem tw13131807785267291587:True:=trivial
theorem tw7422346058335509013:True:=trivial
theorem tw324451884107996965:True:=trivial
theorem tw8170001548851786494:True:=trivial
theorem tw8605824734800584099:True:=trivial
theorem tw2575504319271576030:True:=trivial
theorem tw9324330880114161031:True:=trivial
theorem tw1985933489647906343:True:=trivial
theorem tw12065921942125284232:True:=trivial
theorem tw10121434138171712294:True:=trivial
theorem tw2092175193539363365:True:=trivial
theorem tw9226389661448056316:True:=trivial
theorem tw8741914291587319136:True:=trivial
theorem tw4324281030037963434:True:=trivial
theorem tw8577728369641230338:True:=trivial
theorem tw8901258205589882000:True:=trivial
theorem tw3156266681914350844:True:=trivial
theorem tw16776877579388180112:True:=trivial
theorem tw5773047149467383746:True:=trivial
theorem tw17478813047805780193:True:=trivial
theorem tw17625127686098120860:True:=trivial
theorem tw14340410318683021560:True:=trivial
theorem tw11908948530816019530:True:=trivial
theorem tw9851931982138924410:True:=trivial
theorem tw5676452038802165615:True:=trivial
theorem tw5089574364600076895:True:=trivial
theorem tw2409933222300131200:True:=trivial
theorem tw5121250952112628353:True:=trivial
theorem tw1371911737381068244:True:=trivial
theorem tw2126814508978702322:True:=trivial
theorem tw11907021478574494417:True:=trivial
theorem tw10680061651798416342:True:=trivial
theorem tw15232642361043925143:True:=trivial
theorem tw12334684312391946216:True:=trivial
theorem tw13463595036855308950:True:=trivial
theorem tw12091289464115273050:True:=trivial
theorem tw9465872879180514660:True:=trivial
theorem tw7958348757258203104:True:=trivial
theorem tw8033768201864999645:True:=trivial
theorem tw3251930079042404390:True:=trivial
theorem tw11187020939335753529:True:=trivial
theorem tw1244262823718424042:True:=trivial
theorem tw419174076304652628:True:=trivial
theorem tw6503790224174553246:True:=trivial
theorem tw17380736391095144109:True:=trivial
theorem tw4067722252208583751:True:=trivial
theorem tw6739604966761624314:True:=trivial
theorem tw15529556675724746700:True:=trivial
theorem tw38176703439828664:True:=trivial
theorem tw17836673243332621561:True:=trivial
theorem tw16438055700966441160:True:=trivial
theorem tw17185191706294021208:True:=trivial
theorem tw13079443337453468850:True:=trivial
theorem tw9131639555832309823:True:=trivial
theorem tw16616561806726387451:True:=trivial
theorem tw11520154283506729796:True:=trivial
theorem tw1439959422213855928:True:=trivial
theorem tw1783956790319973248:True:=trivial
theorem tw8820242769887704552:True:=trivial
theorem tw7527390776241910896:True:=trivial
theorem tw8594475083767810095:True:=trivial
theorem tw254168578059663581:True:=trivial
theorem tw8335758272950274127:True:=trivial
theorem tw6649076104576724577:True:=trivial
theorem tw2474449405258575460:True:=trivial
theorem tw1927323013358201046:True:=trivial
theorem tw9137519591641115183:True:=trivial
theorem tw3561732766133821359:True:=trivial
theorem tw15457401775158048716:True:=trivial
theorem tw4416837270351943235:True:=trivial
theorem tw2487556683911150252:True:=trivial
theorem tw5829536385707673564:True:=trivial
theorem tw16206988835307235139:True:=trivial
theorem tw2821024562462005117:True:=trivial
theorem tw12478096989860987367:True:=trivial
theorem tw3659178073187361402:True:=trivial
theorem tw7417485715610283572:True:=trivial
theorem tw17459151307300523840:True:=trivial
theorem tw8970902471733448690:True:=trivial
theorem tw15590421000680984956:True:=trivial
theorem tw8788482195512761072:True:=trivial
theorem tw4812076732544638145:True:=trivial
theorem tw13522590192691323958:True:=trivial
theorem tw17630460293618996028:True:=trivial
theorem tw14308384125957442782:True:=trivial
theorem tw8891948482417063307:True:=trivial
theorem tw8253005880219113025:True:=trivial
theorem tw11952035498196155879:True:=trivial
theorem tw15767319012639575651:True:=trivial
theorem tw6580214875239413630:True:=trivial
theorem tw6671786452431302240:True:=trivial
theorem tw11997381452085856518:True:=trivial
theorem tw5900534483545063285:True:=trivial
theorem tw6162760400295388026:True:=trivial
theorem tw7551144446580908904:True:=trivial
theorem tw2802387332065319573:True:=trivial
theorem tw6773276074761499322:True:=trivial
theorem tw12966143251175837143:True:=trivial
theorem tw4762426164501332313:True:=trivial
theorem tw11853205360345498069:True:=trivial
theorem tw314979057016946881:True:=trivial
theorem tw8263071025732684810:True:=trivial
theorem tw16535083824489343795:True:=trivial
theorem tw9765291035344822140:True:=trivial
theorem tw12578266780505996680:True:=trivial
theorem tw7287299267688237280:True:=trivial
theorem tw10566008435343686479:True:=trivial
theorem tw11449489758674637198:True:=trivial
theorem tw18266248790027487336:True:=trivial
theorem tw10630089922999231664:True:=trivial
theorem tw16562960745592441187:True:=trivial
theorem tw2883523953580452077:True:=trivial
theorem tw17844873345553591623:True:=trivial
theorem tw14316245709688162193:True:=trivial
theorem tw3897195583595968201:True:=trivial
theorem tw17953974306683814317:True:=trivial
theorem tw6920063060188746394:True:=trivial
theorem tw378828726112720800:True:=trivial
theorem tw13184910879349354611:True:=trivial
theorem tw16545948053209704206:True:=trivial
theorem tw17517230884201523328:True:=trivial
theorem tw11753041676160900952:True:=trivial
theorem tw12081598773397029146:True:=trivial
theorem tw10176147642421084285:True:=trivial
theorem tw17373295287247687841:True:=trivial
theorem tw3398086956817454598:True:=trivial
theorem tw4608040465595453631:True:=trivial
theorem tw517764292758152837:True:=trivial
theorem tw6800683277701863505:True:=trivial
theorem tw8964014736552886683:True:=trivial
theorem tw13434001543786250161:True:=trivial
theorem tw15243667386743161818:True:=trivial
theorem tw14322712254011822275:True:=trivial
theorem tw4596712549038343193:True:=trivial
theorem tw662755328529745188:True:=trivial
theorem tw8113200670109005526:True:=trivial
theorem tw16848069100738162489:True:=trivial
theorem tw10551012476825007190:True:=trivial
theorem tw1181686457219163813:True:=trivial
theorem tw7026621615783702938:True:=trivial
theorem tw17615247931284521308:True:=trivial
theorem tw5898280380846535584:True:=trivial
theorem tw11679789595340634778:True:=trivial
theorem tw11309986845655149532:True:=trivial
theorem tw18269367975848988940:True:=trivial
theorem tw2398942925037744390:True:=trivial
theorem tw6614266153701336217:True:=trivial
theorem tw13872566348215625965:True:=trivial
theorem tw16834968682051345297:True:=trivial
theorem tw13421405264808239435:True:=trivial
theorem tw8335607555440401070:True:=trivial
theorem tw9517631818975076246:True:=trivial
theorem tw16816112083271075165:True:=trivial
theorem tw9491444482352013913:True:=trivial
theorem tw14938270065458826565:True:=trivial
theorem tw3981149168290151406:True:=trivial
theorem tw6871918117540555183:True:=trivial
theorem tw7398795444253081306:True:=trivial
theorem tw1986013621228419853:True:=trivial
theorem tw4150741949869719586:True:=trivial
theorem tw8212710835762354235:True:=trivial
theorem tw10071879227587588138:True:=trivial
theorem tw18272536431740145449:True:=trivial
theorem tw11467901023084306575:True:=trivial
theorem tw14908872647212844052:True:=trivial
theorem tw6294801684380572269:True:=trivial
theorem tw3466841090484188842:True:=trivial
theorem tw9509854801858647190:True:=trivial
theorem tw862530314862055677:True:=trivial
theorem tw2430903886141622304:True:=trivial
theorem tw6197999453303646766:True:=trivial
theorem tw433097062338488717:True:=trivial
theorem tw3991739465989528039:True:=trivial
theorem tw10443264716834974575:True:=trivial
theorem tw4015562935549223739:True:=trivial
theorem tw14279664344823043720:True:=trivial
theorem tw11474499322332768319:True:=trivial
theorem tw6339015765269351003:True:=trivial
theorem tw431978919099268147:True:=trivial
theorem tw2695151314660071330:True:=trivial
theorem tw5381251947835397473:True:=trivial
theorem tw602970445745366318:True:=trivial
theorem tw12254504421564161268:True:=trivial
theorem tw16918561854298351209:True:=trivial
theorem tw17995388891304380247:True:=trivial
theorem tw12628056322703955918:True:=trivial
theorem tw6297801709365590216:True:=trivial
theorem tw15401299187008394933:True:=trivial
theorem tw1593100567414799295:True:=trivial
theorem tw6964230542350859993:True:=trivial
theorem tw7024690164781478214:True:=trivial
theorem tw9660676034381181165:True:=trivial
theorem tw11504258438875161765:True:=trivial
theorem tw2655692571312722458:True:=trivial
theorem tw8199069555959847087:True:=trivial
theorem tw4330873134494954347:True:=trivial
theorem tw2869460383880494014:True:=trivial
theorem tw14874502025035980171:True:=trivial
theorem tw15216016820420138834:True:=trivial
theorem tw7326146100606201290:True:=trivial
theorem tw7397211997083225245:True:=trivial
theorem tw10196784577245371527:True:=trivial
theorem tw6835592378408163763:True:=trivial
theorem tw16666328223544268208:True:=trivial
theorem tw4674327039393287174:True:=trivial
theorem tw432034835845271012:True:=trivial
theorem tw15578432378675872873:True:=trivial
theorem tw7137620121651890518:True:=trivial
theorem tw12688347699901591747:True:=trivial
theorem tw12662772933362442313:True:=trivial
theorem tw5663071384401133818:True:=trivial
theorem tw16976754659750482125:True:=trivial
theorem tw16288488875364292710:True:=trivial
theorem tw7412247227947872412:True:=trivial
theorem tw8992734059098782344:True:=trivial
theorem tw4084825334320780014:True:=trivial
theorem tw7796904457300995779:True:=trivial
theorem tw17326127607033359419:True:=trivial
theorem tw10652026748586545344:True:=trivial
theorem tw13072594762942033639:True:=trivial
theorem tw17948910860362431516:True:=trivial
theorem tw7805896312261316728:True:=trivial
theorem tw3228409546133345412:True:=trivial
theorem tw13550682176227197914:True:=trivial
theorem tw6580005709759781707:True:=trivial
theorem tw12836851392468741937:True:=trivial
theorem tw9661883336268197306:True:=trivial
theorem tw14892186381683816852:True:=trivial
theorem tw16087037629496297732:True:=trivial
theorem tw14108823386200893796:True:=trivial
theorem tw13197726740455833859:True:=trivial
theorem tw12385397968428379820:True:=trivial
theorem tw7563894015697228748:True:=trivial
theorem tw15325071826467674934:True:=trivial
theorem tw5902437829039818990:True:=trivial
theorem tw4882744909261539765:True:=trivial
theorem tw9560178256900278501:True:=trivial
theorem tw15962332839612907045:True:=trivial
theorem tw18307423742506499101:True:=trivial
theorem tw14370464388785337089:True:=trivial
theorem tw1930348386568861382:True:=trivial
theorem tw10517929462337763810:True:=trivial
theorem tw13591096196066661978:True:=trivial
theorem tw3514240794774913355:True:=trivial
theorem tw607184722150572090:True:=trivial
theorem tw14988291810179649019:True:=trivial
theorem tw12619822703544481232:True:=trivial
theorem tw16840732133247908103:True:=trivial
theorem tw1457967446962285471:True:=trivial
theorem tw2609332965575942996:True:=trivial
theorem tw17973673909469851603:True:=trivial
theorem tw15901463147373966308:True:=trivial
theorem tw11991488170755726977:True:=trivial
theorem tw3533573991296789519:True:=trivial
theorem tw10941743851664607662:True:=trivial
theorem tw17566144078168521512:True:=trivial
theorem tw14563681152352015344:True:=trivial
theorem tw6637007974923024512:True:=trivial
theorem tw6221764382564361263:True:=trivial
theorem tw14417916481631624892:True:=trivial
theorem tw11641917474682494588:True:=trivial
theorem tw16709511682759151305:True:=trivial
theorem tw15948528951486992330:True:=trivial
theorem tw5018477262767873383:True:=trivial
theorem tw3379113187186096739:True:=trivial
theorem tw2995507160784075535:True:=trivial
theorem tw12887976277334846881:True:=trivial
theorem tw13830595455614314538:True:=trivial
theorem tw10852480024955824758:True:=trivial
theorem tw2515686648817826120:True:=trivial
theorem tw15214561025105578547:True:=trivial
theorem tw7956784633022137868:True:=trivial
theorem tw1374876825416353672:True:=trivial
theorem tw18428089769547502943:True:=trivial
theorem tw15330522972875649905:True:=trivial
theorem tw9088064827625446781:True:=trivial
theorem tw15056696270700229865:True:=trivial
theorem tw1367308962135782612:True:=trivial
theorem tw9912202229575562420:True:=trivial
theorem tw5392691890127783633:True:=trivial
theorem tw5391951046268264257:True:=trivial
theorem tw17660453714710535571:True:=trivial
theorem tw12687819204490901267:True:=trivial
theorem tw14398962490522653154:True:=trivial
theorem tw14849396097508348764:True:=trivial
theorem tw13389527806936550109:True:=trivial
theorem tw2785203751012441359:True:=trivial
theorem tw5695570477249731062:True:=trivial
theorem tw1353541013685503561:True:=trivial
theorem tw11470144686168144397:True:=trivial
theorem tw15331963693882467835:True:=trivial
theorem tw3222446810601161471:True:=trivial
theorem tw4859860232519871831:True:=trivial
theorem tw5145932361320989861:True:=trivial
theorem tw11737841254035892691:True:=trivial
theorem tw12390092143340418685:True:=trivial
theorem tw1564070318528255843:True:=trivial
theorem tw8025394371494768103:True:=trivial
theorem tw3626087432407541442:True:=trivial
theorem tw7286882267926652040:True:=trivial
theorem tw3184203396688141105:True:=trivial
theorem tw1344246239791271624:True:=trivial
theorem tw4608870367075474739:True:=trivial
theorem tw15000306950272264247:True:=trivial
theorem tw1363172759644618551:True:=trivial
theorem tw590535490930940189:True:=trivial
theorem tw11668354952185946351:True:=trivial
theorem tw846623726051077226:True:=trivial
theorem tw1041070573788288847:True:=trivial
theorem tw11498197104958177332:True:=trivial
theorem tw18075379801508015240:True:=trivial
theorem tw3901069809446128330:True:=trivial
theorem tw17591294836912646691:True:=trivial
theorem tw8507419799518517878:True:=trivial
theorem tw15019161995677524003:True:=trivial
theorem tw16472152777927831525:True:=trivial
theorem tw11444751373122121512:True:=trivial
theorem tw3961083965040507211:True:=trivial
theorem tw6547174254755175573:True:=trivial
theorem tw14190345831948761228:True:=trivial
theorem tw2941576706725139470:True:=trivial
theorem tw17334526020844449758:True:=trivial
theorem tw65155604628654656:True:=trivial
theorem tw1823927314338405169:True:=trivial
theorem tw5182845153953099818:True:=trivial
theorem tw12409343529696586822:True:=trivial
theorem tw867162507972348125:True:=trivial
theorem tw14954394394844641561:True:=trivial
theorem tw18385369016871015466:True:=trivial
theorem tw16694742347424639543:True:=trivial
theorem tw8249149351666333001:True:=trivial
theorem tw7914443239449862289:True:=trivial
theorem tw10115645696056655666:True:=trivial
theorem tw10940999588024994775:True:=trivial
theorem tw17969149391859362926:True:=trivial
theorem tw9793024066123690550:True:=trivial
theorem tw11501431322600951376:True:=trivial
theorem tw1449628130020637234:True:=trivial
theorem tw15035682505899457084:True:=trivial
theorem tw9197721403173364892:True:=trivial
theorem tw11746013175115749795:True:=trivial
theorem tw2847915517263900566:True:=trivial
theorem tw4119924384611449259:True:=trivial
theorem tw12057310120842091798:True:=trivial
theorem tw2639006795163733089:True:=trivial
theorem tw3897651057133460509:True:=trivial
theorem tw13688016821205523128:True:=trivial
theorem tw11485050449282709355:True:=trivial
theorem tw17020201671410923143:True:=trivial
theorem tw13592700657521676600:True:=trivial
theorem tw11771139101584244252:True:=trivial
theorem tw9717411270503493115:True:=trivial
theorem tw2434634345517927127:True:=trivial
theorem tw6253798286007346900:True:=trivial
theorem tw10041120911454731633:True:=trivial
theorem tw15993837571948209117:True:=trivial
theorem tw4299588548007897948:True:=trivial
theorem tw10225919316489232112:True:=trivial
theorem tw14239175749286270492:True:=trivial
theorem tw17449334053584052340:True:=trivial
theorem tw13602589152146110875:True:=trivial
theorem tw2848283776582887597:True:=trivial
theorem tw8641017522166712958:True:=trivial
theorem tw2413066232519641293:True:=trivial
theorem tw326231164311760639:True:=trivial
theorem tw18250836584667113092:True:=trivial
theorem tw10422010339336273646:True:=trivial
theorem tw5742060987599508790:True:=trivial
theorem tw10561097273882007456:True:=trivial
theorem tw1691523210017349039:True:=trivial
theorem tw13762606547949375401:True:=trivial
theorem tw14880952010070624102:True:=trivial
theorem tw9684014901573490455:True:=trivial
theorem tw15397836622258469409:True:=trivial
theorem tw8523117695475145325:True:=trivial
theorem tw6338368054758014651:True:=trivial
theorem tw8607374798587592761:True:=trivial
theorem tw4894649218991809457:True:=trivial
theorem tw7718721500714386227:True:=trivial
theorem tw11523577479542783251:True:=trivial
theorem tw16353173033956877700:True:=trivial
theorem tw667675385979518551:True:=trivial
theorem tw6645967694192538870:True:=trivial
theorem tw14229684289606174142:True:=trivial
theorem tw14014804320639176187:True:=trivial
theorem tw4287335216636834041:True:=trivial
theorem tw10711650400479124772:True:=trivial
theorem tw9008713105264724285:True:=trivial
theorem tw8370732133350854353:True:=trivial
theorem tw2935068988731214937:True:=trivial
theorem tw18009512344772839488:True:=trivial
theorem tw1811330506873479835:True:=trivial
theorem tw18066779287870129844:True:=trivial
theorem tw5950063223687181056:True:=trivial
theorem tw7365156847273713859:True:=trivial
theorem tw4868560912878675354:True:=trivial
theorem tw12602236242446275199:True:=trivial
theorem tw2303968393352953073:True:=trivial
theorem tw4906912895587276647:True:=trivial
theorem tw12101322455353749421:True:=trivial
theorem tw3902580715866836602:True:=trivial
theorem tw7975397092745355029:True:=trivial
theorem tw10001430773216319635:True:=trivial
theorem tw13315251734302646179:True:=trivial
theorem tw3768413671108535384:True:=trivial
theorem tw10165382819867020463:True:=trivial
theorem tw14171427161928045284:True:=trivial
theorem tw16309665659383970076:True:=trivial
theorem tw5806212132699978618:True:=trivial
theorem tw17159765698795673568:True:=trivial
theorem tw1713631758154131345:True:=trivial
theorem tw11329949514783032477:True:=trivial
theorem tw7636006490958615647:True:=trivial
theorem tw14969736404457890021:True:=trivial
theorem tw5701278717253379446:True:=trivial
theorem tw2304537970216255019:True:=trivial
theorem tw2917363385448400533:True:=trivial
theorem tw17574628686495974953:True:=trivial
theorem tw75654123236494270:True:=trivial
theorem tw13829558418058214985:True:=trivial
theorem tw15572720091798401147:True:=trivial
theorem tw17493483611947365682:True:=trivial
theorem tw17454756781404214803:True:=trivial
theorem tw13513532431471559496:True:=trivial
theorem tw7888647347212682645:True:=trivial
theorem tw8247377836746287072:True:=trivial
theorem tw18345804802424793732:True:=trivial
theorem tw9603419280583287665:True:=trivial
theorem tw5272493714633153883:True:=trivial
theorem tw17757501142620437321:True:=trivial
theorem tw3349631847407489315:True:=trivial
theorem tw2675343225058458399:True:=trivial
theorem tw10221345841386115334:True:=trivial
theorem tw3435609389107090712:True:=trivial
theorem tw12245473060880600462:True:=trivial
theorem tw8208522149589096388:True:=trivial
theorem tw14695902883128485959:True:=trivial
theorem tw9890164294559089493:True:=trivial
theorem tw2635112310052207794:True:=trivial
theorem tw5151462277502491917:True:=trivial
theorem tw149937459121541313:True:=trivial
theorem tw14540312102347356486:True:=trivial
theorem tw5352182890667194415:True:=trivial
theorem tw2617409129285930112:True:=trivial
theorem tw5345000861865467416:True:=trivial
theorem tw10886263176715196360:True:=trivial
theorem tw9131134787154897738:True:=trivial
theorem tw3208082976391855920:True:=trivial
theorem tw17950510188400613673:True:=trivial
theorem tw1540901856073922107:True:=trivial
theorem tw3091230693270293496:True:=trivial
theorem tw7153057038514375095:True:=trivial
theorem tw8214174122717124118:True:=trivial
theorem tw9116217467570506085:True:=trivial
theorem tw9490759794257605324:True:=trivial
theorem tw14446464502479918675:True:=trivial
theorem tw6006176689020013912:True:=trivial
theorem tw14123624709572805037:True:=trivial
theorem tw9937804479155968830:True:=trivial
theorem tw230376355174039163:True:=trivial
theorem tw2570811072975363355:True:=trivial
theorem tw13735556535521931655:True:=trivial
theorem tw11556183317981713754:True:=trivial
theorem tw11800324930702763990:True:=trivial
theorem tw113745175047204868:True:=trivial
theorem tw3782069864647250390:True:=trivial
theorem tw9104750679541758165:True:=trivial
theorem tw5436272077766197263:True:=trivial
theorem tw14302861895668261257:True:=trivial
theorem tw5432350381186043889:True:=trivial
theorem tw12226402468605979008:True:=trivial
theorem tw3353657152540676758:True:=trivial
theorem tw15267294934861547271:True:=trivial
theorem tw12687531566991522970:True:=trivial
theorem tw10064822114429115644:True:=trivial
theorem tw8755916969629657122:True:=trivial
theorem tw14118064571518639625:True:=trivial
theorem tw12534536411532900849:True:=trivial
theorem tw11110428407467162448:True:=trivial
theorem tw11062471178092589812:True:=trivial
theorem tw16948377177715458252:True:=trivial
theorem tw18230631796786724680:True:=trivial
theorem tw10413203405002255005:True:=trivial
theorem tw6179368933556647614:True:=trivial
theorem tw5617606848346366792:True:=trivial
theorem tw12476618496138080961:True:=trivial
theorem tw15744623340996592355:True:=trivial
theorem tw14852949060754666996:True:=trivial
theorem tw3763569202671356600:True:=trivial
theorem tw15397483523384470142:True:=trivial
theorem tw3331172369880088861:True:=trivial
theorem tw8512686065647969644:True:=trivial
theorem tw5150312676244866901:True:=trivial
theorem tw1225418023203689506:True:=trivial
theorem tw8465855334860639467:True:=trivial
theorem tw18263067915558334006:True:=trivial
theorem tw1309619635832787129:True:=trivial
theorem tw15947430147354835286:True:=trivial
theorem tw10097785823042733683:True:=trivial
theorem tw15633291170052394429:True:=trivial
theorem tw3088572492447805719:True:=trivial
theorem tw4611497614908034125:True:=trivial
theorem tw13750956463056182147:True:=trivial
theorem tw13794567651225464920:True:=trivial
theorem tw1351059512223743683:True:=trivial
theorem tw2602029746479531391:True:=trivial
theorem tw18203813232315847217:True:=trivial
theorem tw16574674992004892453:True:=trivial
theorem tw9844670030006811381:True:=trivial
theorem tw8734797107574446996:True:=trivial
theorem tw16333046438872512967:True:=trivial
theorem tw2213481396569613030:True:=trivial
theorem tw5458213864834243413:True:=trivial
theorem tw11969190151062346714:True:=trivial
theorem tw15356627390975951331:True:=trivial
theorem tw2722733745809142845:True:=trivial
theorem tw10857223985941074337:True:=trivial
theorem tw10263014356666170701:True:=trivial
theorem tw4229735644697392987:True:=trivial
end PySem.W.Fast
set_option maxHeartbeats 0 in
theorem PySem.Challenge.cw_leafframe_k36_map_unmap_rights_holds : PySem.Challenge.rw_leafframe_k36_map_unmap_rights.Holds := by
 w_on;o_law;k_head;(case hw=>w_witness2)
 k_fill
 refine K36.walk (l:=PySem.Challenge.rw_leafframe_k36_map_unmap_rights) rfl rfl (fun w h Y=>L2.IT Y) ?F
 case F =>
  intro w mg fa h KX G hmg
  refine' K36.all_mk KX G hmg ?_ ?_ ?_ ?_ ?_ ?_ ?_ ?_ ?_ ?_ ?_ ?_ ?_ ?_ ?_ ?_ ?_ ?_ ?_ ?_ ?_ ?_ ?_ ?_ ?_ ?_ ?_ ?_ ?_ ?_ ?_ ?_ ?_ ?_ ?_ ?_ ?_ ?_ ?_ ?_ ?_ ?_ ?_ ?_ ?_ ?_ ?_ ?_ ?_ ?_ ?_ ?_ ?_ ?_ ?_ ?_ ?_ ?_ ?_ ?_ ?_ ?_ ?_ ?_ ?_ ?_ ?_ ?_ ?_ ?_ ?_ ?_ ?_ ?_ ?_ ?_ ?_ ?_ ?_ ?_ ?_ ?_ ?_ ?_ ?_ ?_ ?_ ?_ ?_ ?_ ?_ ?_ ?_ ?_ ?_ ?_ ?_ ?_ ?_ ?_ ?_ ?_ ?_ ?_ ?_ ?_ ?_ ?_ ?_ ?_ ?_ ?_ ?_ ?_ ?_ ?_ ?_ ?_ ?_ ?_ ?_ ?_ ?_ ?_ ?_ ?_ ?_ ?_ ?_ ?_ ?_ ?_ ?_ ?_ ?_ ?_ ?_ ?_ ?_ ?_ ?_ ?_ ?_ ?_ ?_ ?_ ?_ ?_ ?_ ?_ ?_ ?_ ?_ ?_ ?_ ?_ ?_ ?_ ?_ ?_ ?_ ?_ ?_ ?_ ?_ ?_ ?_ ?_ ?_ ?_ ?_ ?_ ?_ ?_ ?_ ?_ ?_ ?_ ?_ ?_ ?_ ?_ ?_ ?_ ?_ ?_ ?_ ?_ ?_ ?_ ?_ ?_ ?_ ?_ ?_ ?_ ?_ ?_ ?_ ?_ ?_ ?_ ?_ ?_ ?_ ?_ ?_ ?_ ?_ ?_ ?_ ?_ ?_ ?_ ?_ ?_ ?_ ?_ ?_ ?_ ?_ ?_ ?_ ?_ ?_ ?_ ?_ ?_ ?_ ?_ ?_ ?_ ?_ ?_ ?_ ?_ ?_ ?_ ?_ ?_ ?_ ?_ ?_ ?_ ?_ ?_ ?_ ?_ ?_ ?_ ?_ ?_ ?_ ?_ ?_ ?_ ?_ ?_ ?_ ?_ ?_ ?_ ?_ ?_ ?_ ?_ ?_ ?_ ?_ ?_ ?_ ?_ ?_ ?_ ?_ ?_ ?_ ?_ ?_ ?_ ?_ ?_ ?_ ?_ ?_ ?_ ?_ ?_ ?_ ?_ ?_ ?_ ?_ ?_ ?_ ?_ ?_
  all_goals first | walk_at "zz" | skip
  all_goals first | rfl | exact rfl | decide
