import PyProof.Rows.All
import Wide.All
import OpenK.AllK
import Wide.FinOn
import Lean
import PyProof.EqAt
import PyProof.EqKinds
import PyProof.TupleCall
import PyProof.StationsW
import PyProof.ExcClass2
import PyProof.ExcArgs
import PyProof.ExcArgsOwn
import PyProof.CompFree
import PyProof.CompMap
import PyProof.CompUse
import KE.LcSums
import KE.KUnpack
import KE.KDictSum
import KE.KDictLaws
import PyProof.Rows.BitMore
import KE.BitLaws
import KE.KBits
import PyProof.LongRange
import PyProof.ListRange
import KE.IntBitsLaws
import KE.KRevIter
import PyProof.Rows.Tup
import PyProof.CollectIter
import PyProof.TupleOfGen
import PyProof.DictWalks
import PyProof.StrWalks
import PyProof.ZipIter
import PyProof.TupleIter
import PyProof.WalksMore
import KE.KTurns
import PyProof.Rows.SortStr
import KE.KSortTup
import PyProof.Rows.StrClose5
import PyProof.Rows.StrClose3
import PyProof.ExcInit
import PyProof.InstStore
import PyProof.InstLoad
import PyProof.InstStoreFacts
import KE.KDictOf
import PyProof.FactsAll.range_2
import KE.RegKIsAll
import PySem.Challenge.RW_leafframe_k19_space_rows
set_option Elab.async false
set_option linter.all false
set_option maxRecDepth 100000
namespace L2
open PySem PySem.Spec PyProof.Rows
abbrev Key:=Sum Int Str
def tH:Key->Value->Bool
  | .inl k,v=>Value.isInt k v
  | .inr x,v=>Value.isStrOf x v
def GX (w:World): Key->Int
  | .inl k=>hashInt k
  | .inr x=>hashStr w x
theorem cV:∀{k:Key} {v:Value},tH k v=true->(∃i t,k=Sum.inl i/\v=Value.int i t)\/(∃x t,k=Sum.inr x/\v=Value.str x t)
  | .inl i,v,h=>by
    obtain⟨t,e⟩:=Value.isInt_shape (k:=i) (v:=v) h
    exact .inl ⟨i,t,rfl,e⟩
  | .inr x,v,h=>by
    obtain⟨t,e⟩:=Value.isStrOf_shape (x:=x) (v:=v) h
    exact .inr ⟨x,t,rfl,e⟩
theorem zI (i:Int)(t:Tok): tH (.inl i) (.int i t)=true:=by simp[tH,Value.isInt]
theorem zJ (x:Str)(t:Tok): tH (.inr x) (.str x t)=true:=by simp[tH,Value.isStrOf]
theorem EB (a b:Int): decide ((Sum.inl a:Key)=Sum.inl b)=(a==b):=by
  by_cases e:a=b
  · subst e;simp
  · have h:¬(Sum.inl a:Key)=Sum.inl b:=fun q=>e (Sum.inl.inj q)
    rw[decide_eq_false h]
    exact(beq_eq_false_iff_ne.mpr e).symm
theorem EC (a b:Str): decide ((Sum.inr a:Key)=Sum.inr b)=decide (a=b):=by
  by_cases e:a=b
  · subst e;simp
  · have h:¬(Sum.inr a:Key)=Sum.inr b:=fun q=>e (Sum.inr.inj q)
    rw[decide_eq_false h,decide_eq_false e]
theorem ED (a:Int)(b:Str): decide ((Sum.inl a:Key)=Sum.inr b)=false:=decide_eq_false (fun q=>nomatch q)
theorem EE (a:Str)(b:Int): decide ((Sum.inr a:Key)=Sum.inl b)=false:=decide_eq_false (fun q=>nomatch q)
def cz (prog:Program)(w:World): PySem.KeyKind prog w Key where
  is:=tH
  hash:=GX w
  inj:=fun v a b ha hb=>by
    rcases cV ha with ⟨i,t,rfl,rfl⟩ | ⟨x,t,rfl,rfl⟩
    · rcases cV hb with ⟨j,u,rfl,e⟩ | ⟨y,u,rfl,e⟩
      · injection e with e1 _;rw[e1]
      · exact nomatch e
    · rcases cV hb with ⟨j,u,rfl,e⟩ | ⟨y,u,rfl,e⟩
      · exact nomatch e
      · injection e with e1 _;rw[e1]
  byValue:=fun k v h=>by
    rcases cV h with ⟨i,t,rfl,rfl⟩ | ⟨x,t,rfl,rfl⟩<;>rfl
  pyHash:=fun hv h=>by
    rcases cV hv with ⟨i,t,rfl,rfl⟩ | ⟨x,t,rfl,rfl⟩
    · exact wpAny_pyHash_int h
    · exact wpAny_pyHash_str h
  eqBool:=fun hu hv h=>by
    rcases cV hu with ⟨i,t,rfl,rfl⟩ | ⟨x,t,rfl,rfl⟩
    · rcases cV hv with ⟨j,u,rfl,rfl⟩ | ⟨y,u,rfl,rfl⟩
      · rw[EB] at h;exact wpAny_eqBool_int h
      · rw[ED] at h;exact SeqAt.EqAt.int_str i t y u _ _ _ _ h
    · rcases cV hv with ⟨j,u,rfl,rfl⟩ | ⟨y,u,rfl,rfl⟩
      · rw[EE] at h;exact SeqAt.EqAt.str_int x t j u _ _ _ _ h
      · rw[EC] at h;exact wpAny_eqBool_str h
  «strs» := fun k x t v h=>by
    rcases cV h with ⟨i,u,rfl,e⟩ | ⟨y,u,rfl,e⟩
    · exact nomatch e
    · injection e with e1 _
      subst e1
      cases v<;>rfl
theorem wa (prog:Program)(w:World)(i:Int)(t:Tok): (cz prog w).is (.inl i) (.int i t)=true:=zI i t
theorem wc (prog:Program)(w:World)(x:Str)(t:Tok): (cz prog w).is (.inr x) (.str x t)=true:=zJ x t
end L2
namespace L2
open PySem PySem.Spec PyProof.Rows
inductive V where
  | non | bl (b:Bool) | int (i:Int) | str (x:Str) | byt (b:Array UInt8) | flt (b:UInt64) | ref (a:Addr) | ty (n:String)
  deriving DecidableEq
def RelV:V->Value->Prop
  | .non,u=>u=Value.none
  | .bl b,u=>u=Value.bool b
  | .int i,u=>∃t,u=Value.int i t
  | .str x,u=>∃t,u=Value.str x t
  | .byt b,u=>∃t,u=Value.bytes b t
  | .flt b,u=>∃t,u=Value.float b t
  | .ref a,u=>u=Value.ref a
  | .ty n,u=>u=Value.type n
abbrev Vals:List V->List Value->Prop:=Paired RelV
theorem Vals.length {xs:List V}{us:List Value}(r:Vals xs us): xs.length=us.length:=Paired.length r
theorem Vals.get:∀{xs:List V} {us:List Value} {i:Nat} {x:V},Vals xs us->xs[i]?=some x->∃u,us[i]?=some u/\RelV x u
  | _,_,_,_,.nil,e=>by simp at e
  | _,_,0,_,.cons r _,e=>by simp at e;subst e;exact⟨_,rfl,r⟩
  | _,_,i+1,x,.cons _ t,e=>by
    obtain⟨u,h1,h2⟩:=Vals.get (i:=i) (x:=x) t (by simpa using e)
    exact⟨u,by simpa using h1,h2⟩
theorem Vals.append:∀{xs ys:List V} {us ws:List Value},Vals xs us->Vals ys ws->Vals (xs++ys) (us++ws)
  | _,_,_,_,.nil,s=>s
  | _,_,_,_,.cons r t,s=>.cons r (Vals.append t s)
theorem Vals.take:∀{xs:List V} {us:List Value} (n:Nat),Vals xs us->Vals (xs.take n) (us.take n)
  | _,_,0,_=>.nil
  | _,_,_+1,.nil=>.nil
  | _,_,n+1,.cons r t=>.cons r (Vals.take n t)
theorem Vals.drop:∀{xs:List V} {us:List Value} (n:Nat),Vals xs us->Vals (xs.drop n) (us.drop n)
  | _,_,0,r=>r
  | _,_,_+1,.nil=>.nil
  | _,_,n+1,.cons _ t=>Vals.drop n t
def fX:Option V->Option Value->Prop
  | some v,some u=>RelV v u
  | none,none=>True
  | _,_=>False
def KV {κ:Type}: List (κ×V)->List (κ×Value)->Prop:=Paired fun (p:κ×V) (q:κ×Value)=>p.1=q.1/\RelV p.2 q.2
def kV:Key->V
  | .inl i=>.int i
  | .inr x=>.str x
inductive HO where
  | lst (xs:List V)
  | tup (xs:List V)
  | dK (kvs:List (Key×V)) | dT (kvs:List (List Key×V))
  | set (S:Int->Bool) (n:Nat)
  | ins (C dx:Addr) (fs:List (Str×V))
  | own (x:Addr)
  | xd (fs:List (Str×V))
  | met (f x:Addr)
  | rng (lo hi:Int)
  | frz (o:Obj) (u:HO)
  | tbl (ps:Array Value)
  | ext (φ:Heap->Prop)
abbrev Hp:=Addr->Option HO
def upd (H:Hp)(a:Addr)(o:HO): Hp:=fun b=>if b=a then some o else H b
theorem aj {H:Hp}{a:Addr}{o:HO}: upd H a o a=some o:=by unfold upd;rw[if_pos rfl]
theorem av {H:Hp}{a b:Addr}{o:HO}(h:b≠a): upd H a o b=H b:=by unfold upd;rw[if_neg h]
theorem dZ {H:Hp}{a:Addr}{o u:HO}: upd (upd H a o) a u=upd H a u:=by
  funext b;unfold upd;split<;>rfl
theorem tI {H:Hp}{a b:Addr}{o u:HO}(h:H a=some o)(h':H b=some u)(d:o≠u): a≠b:=by
  intro e;subst e;rw[h] at h';exact d (Option.some.inj h')
theorem ay {H:Hp}{a b:Addr}{o:HO}(h:H a=some o)(h':H b=none): a≠b:=by
  intro e;subst e;rw[h] at h';cases h'
section
variable (P:Program)(w:World)
def bJ (H:Hp)(h:Heap)(a:Addr): HO->Prop
  | .lst xs=>xs.length<=sizeLine/\∃(its:List Value) (n:Nat),Vals xs its/\h.get? a=some { cls:=.type "list",data:=.seq its.toArray n }
  | .tup xs=>xs.length<=sizeLine/\∃its:List Value,Vals xs its/\IsTup h a its.toArray
  | .dK kvs=>kvs.length<=sizeLine/\(a==sysModules)=false/\∃vs,KV kvs vs/\h.DictOf (cz P w) a vs
  | .dT kvs=>kvs.length<=sizeLine/\(a==sysModules)=false/\∃xs:List (List Key×Addr×Value),
      Paired (fun (p:List Key×V) (q:List Key×Addr×Value)=>p.1=q.1/\H q.2.1=some (.tup (p.1.map kV))/\RelV p.2 q.2.2) kvs xs ∧
      ∃o es ep,h.get? a=some o/\o.ExactDict/\o.data=.dict es ep/\es.toList=xs.map (entryOfKey (tupleKind (cz P w)))/\(xs.map (·.1)).Nodup
  | .set S n=>h.SetOf (intKind P w) a S n
  | .ins C dx fs=>H dx=some (.own a)/\fs.length<=1000/\dx≠a/\h.get? a=some (PySem.W.instObj C dx) ∧
      ∃mA,h.Ns1 dx mA/\(∀f,fX (fs.lookup f) (mA f))/\PySem.Within mA (fs.map (·.1))
  | .own _=>∃o,h.get? a=some o
  | .xd fs=>∃mA,h.Ns1 a mA/\∀f,fX (fs.lookup f) (mA f)
  | .rng lo hi=>∃t u v,h.get? a=some { cls:=.type "range",data:=.fields #[.int lo t,.int hi u,.int 1 v] }
  | .frz o u=>h.get? a=some o/\bJ H h a u
  | .tbl ps=>h.get? a=some { cls:=.none,data:=.fields ps }
  | .met f x=>h.get? a=some (PySem.W.methodObj (.ref f) (.ref x))
  | .ext φ=>φ h/\(∃o,h.get? a=some o)/\∀h1 h2:Heap,φ h1->(∀o,h1.get? a=some o->h2.get? a=some o)->φ h2
def HOk (H:Hp)(h:Heap): Prop:=∀a o,H a=some o->bJ P w H h a o
end
section
variable {P:Program}{w:World}{H H':Hp}{h h':Heap}{a:Addr}{o:HO}
theorem bJ.lt (x:bJ P w H h a o): a < h.objs.size:=by
  cases o with
  | lst xs=>obtain⟨_,_,_,_,e⟩:=x;exact Heap.lt_size e
  | tup xs=>obtain⟨_,_,_,p⟩:=x;exact p.lt
  | dK kvs=>obtain⟨_,_,_,_,o,_,_,e,_⟩:=x;exact Heap.lt_size e
  | dT kvs=>obtain⟨_,_,_,_,o,_,_,e,_⟩:=x;exact Heap.lt_size e
  | set S n=>obtain⟨o,_,_,_,e,_⟩:=x;exact Heap.lt_size e
  | ins C dx fs=>obtain⟨_,_,_,e,_⟩:=x;exact Heap.lt_size e
  | own y=>obtain⟨_,e⟩:=x;exact Heap.lt_size e
  | xd fs=>obtain⟨_,⟨_,_,_,e,_⟩,_⟩:=x;exact Heap.lt_size e
  | rng lo hi=>obtain⟨_,_,_,e⟩:=x;exact Heap.lt_size e
  | frz ob u=>obtain⟨e,_⟩:=x;exact Heap.lt_size e
  | tbl ps=>exact Heap.lt_size (show h.get? a=some _ from x)
  | met f y=>exact Heap.lt_size (show h.get? a=some _ from x)
  | ext φ=>obtain⟨_,⟨_,e⟩,_⟩:=x;exact Heap.lt_size e
theorem Paired.EF {α β:Type}{F G:α->β->Prop}: ∀{l₁:List α} {l₂:List β},Paired F l₁ l₂->(∀a b,F a b->G a b)->Paired G l₁ l₂
  | _,_,.nil,_=>.nil
  | _,_,.cons r t,f=>.cons (f _ _ r) (Paired.EF t f)
theorem bJ.stay (x:bJ P w H h a o)(k:∀b u,(b=a\/H b=some (.own a))->h.get? b=some u->h'.get? b=some u)
    (ho:∀b,H b=some (.own a)->H' b=some (.own a)) (ht:∀b xs,H b=some (.tup xs)->H' b=some (.tup xs)):bJ P w H' h' a o:=by
  induction o with
  | lst xs=>obtain⟨z,its,n,r,e⟩:=x;exact⟨z,its,n,r,k _ _ (.inl rfl) e⟩
  | tup xs=>obtain⟨z,its,r,ob,e,c⟩:=x;exact⟨z,its,r,ob,k _ _ (.inl rfl) e,c⟩
  | dK kvs=>obtain⟨z,y,vs,r,ob,es,ep,e,c⟩:=x;exact⟨z,y,vs,r,ob,es,ep,k _ _ (.inl rfl) e,c⟩
  | dT kvs =>
    obtain⟨z,y,xs,r,ob,es,ep,e,c⟩:=x
    exact⟨z,y,xs,Paired.EF r fun p q z=>⟨z.1,ht _ _ z.2.1,z.2.2⟩,ob,es,ep,k _ _ (.inl rfl) e,c⟩
  | set S n=>obtain⟨ob,es,ep,t,e,c⟩:=x;exact⟨ob,es,ep,t,k _ _ (.inl rfl) e,c⟩
  | ins C dx fs =>
    obtain⟨d,z,ne,e,mA,⟨od,es,ep,e2,c⟩,r⟩:=x
    exact⟨ho _ d,z,ne,k _ _ (.inl rfl) e,mA,⟨od,es,ep,k _ _ (.inr d) e2,c⟩,r⟩
  | own y=>obtain⟨ob,e⟩:=x;exact⟨ob,k _ _ (.inl rfl) e⟩
  | xd fs=>obtain⟨mA,⟨od,es,ep,e,c⟩,r⟩:=x;exact⟨mA,⟨od,es,ep,k _ _ (.inl rfl) e,c⟩,r⟩
  | rng lo hi=>obtain⟨t,u,v,e⟩:=x;exact⟨t,u,v,k _ _ (.inl rfl) e⟩
  | frz ob u ih=>obtain⟨e,q⟩:=x;exact⟨k _ _ (.inl rfl) e,ih q⟩
  | tbl ps =>
    have e:h.get? a=some { cls:=.none,data:=.fields ps }:=x
    show h'.get? a=some { cls:=.none,data:=.fields ps }
    exact k a _ (.inl rfl) e
  | met f y =>
    have e:h.get? a=some (PySem.W.methodObj (.ref f) (.ref y)):=x
    show h'.get? a=some (PySem.W.methodObj (.ref f) (.ref y))
    exact k a _ (.inl rfl) e
  | ext φ=>obtain⟨p,⟨o,e⟩,st⟩:=x;exact⟨st _ _ p fun o q=>k _ _ (.inl rfl) q,⟨o,k _ _ (.inl rfl) e⟩,st⟩
theorem HOk.lt (x:HOk P w H h)(e:H a=some o): a < h.objs.size:=(x a o e).lt
theorem HOk.fresh (x:HOk P w H h)(e:h.objs.size<=a): H a=none:=by
  cases q:H a with
  | none=>rfl
  | some u=>exact absurd (Nat.lt_of_lt_of_le (x.lt q) e) (Nat.lt_irrefl _)
theorem HOk.kept (x:HOk P w H h)(k:∀b u,h.get? b=some u->h'.get? b=some u): HOk P w H h':=fun a o e =>
  (x a o e).stay (fun b u _ q=>k b u q) (fun _ q=>q) fun _ _ q=>q
theorem HOk.laid (x:HOk P w H h)(k:∀b u,h.get? b=some u->h'.get? b=some u)(hp:h.objs.size<=a)(new:bJ P w (upd H a o) h' a o): HOk P w (upd H a o) h':=fun b u e=>by
  have hn:=x.fresh hp
  by_cases hb:b=a
  · subst hb;rw[aj] at e;cases e;exact new
  · rw[av hb] at e
    exact(x b u e).stay (fun c v _ q=>k c v q) (fun c q=>by rw[av (ay q hn)];exact q) fun c xs q=>by rw[av (ay q hn)];exact q
end
def Rd (H:Hp)(a:Addr)(u:HO): Prop:=H a=some u\/∃o,H a=some (.frz o u)
theorem Rd.of {H:Hp}{a:Addr}{u:HO}(h:H a=some u): Rd H a u:=.inl h
theorem Rd.ok {P:Program}{w:World}{H:Hp}{h:Heap}{a:Addr}{u:HO}(r:Rd H a u)(x:HOk P w H h): bJ P w H h a u:=by
  rcases r with r | ⟨o,r⟩
  · exact x a u r
  · obtain⟨_,q⟩:=x a _ r
    exact q
def Mut:Option HO->Prop
  | some (.lst _)=>True
  | some (.dK _)=>True
  | some (.dT _)=>True
  | some (.set _ _)=>True
  | some (.ins _ _ _)=>True
  | some (.ext _)=>True
  | _=>False
section
variable {P:Program}{w:World}{H:Hp}{h h':Heap}{x e:Addr}{o':HO}
theorem HOk.write (ok:HOk P w H h)(mu:Mut (H x))(he:e=x\/H e=some (.own x))(k:∀b u,b≠e->h.get? b=some u->h'.get? b=some u)(heo:∃u,h'.get? e=some u)
    (new:bJ P w (upd H x o') h' x o'):HOk P w (upd H x o') h':=fun b u q=>by
  have FP:∀c y,H c=some (.own y)->c≠x:=fun c y r z=>by subst z;rw[r] at mu;exact mu
  have GY:∀c xs,H c=some (.tup xs)->c≠x:=fun c xs r z=>by subst z;rw[r] at mu;exact mu
  by_cases hb:b=x
  · subst hb;rw[aj] at q;cases q;exact new
  · rw[av hb] at q
    by_cases hbe:b=e
    · have q':H b=some (.own x):=by
        rcases he with z | z
        · exact absurd (hbe.trans z) hb
        · rw[hbe];exact z
      rw[q] at q';cases q'
      obtain⟨v,hv⟩:=heo
      exact⟨v,by rw[hbe];exact hv⟩
    · refine(ok b u q).stay (fun c v hc r=>k c v ?_ r) (fun c r=>by rw[av (FP c b r)];exact r) fun c xs r=>by rw[av (GY c xs r)];exact r
      rcases hc with rfl | hc
      · exact hbe
      · rintro rfl
        rcases he with z | z
        · exact FP c b hc z
        · rw[hc] at z;cases z;exact hb rfl
end
structure Un (fs ex:List Addr)(H H':Hp)(h h':Heap): Prop where
  keep:∀b o,h.get? b=some o->H b=none->b∉fs->b∉ex->h'.get? b=some o
  slot:∀b o,h.get? b=some o->H b=none->b∈fs->b∉ex->∃sl,h'.get? b=some { o with slots:=sl }
  free:∀b o,h.get? b=some o->H b=none->b∉ex->H' b=none
  there:∀b o,h.get? b=some o->b∉ex->∃o',h'.get? b=some o'
  tups:∀b xs,H b=some (.tup xs)->H' b=some (.tup xs)
  lJ:∀b o u,H b=some (.frz o u)->H' b=some (.frz o u)
  mK:∀b ps,H b=some (.tbl ps)->∃more,H' b=some (.tbl (ps++more))
section
variable {fs fs' ex ex':List Addr}{H H1 H2:Hp}{h h1 h2 h':Heap}{a x e:Addr}{o:HO}
theorem Un.any (u:Un fs ex H H1 h h1){b:Addr}{ob:Obj}(q:h.get? b=some ob)(n:H b=none)(hx:b∉ex): ∃sl,h1.get? b=some { ob with slots:=sl }:=by
  by_cases hb:b∈fs
  · exact u.slot b ob q n hb hx
  · exact⟨ob.slots,u.keep b ob q n hb hx⟩
theorem Un.kept (k:∀b u,h.get? b=some u->h'.get? b=some u): Un fs ex H H h h' :=
  ⟨fun b ob q _ _ _=>k b ob q,fun b ob q _ _ _=>⟨ob.slots,k b ob q⟩,fun _ _ _ n _=>n,fun b ob q _=>⟨ob,k b ob q⟩,fun _ _ q=>q,fun _ _ _ q=>q,fun _ ps q=>⟨#[],by rw[q];simp⟩⟩
theorem Un.refl:Un fs ex H H h h:=Un.kept fun _ _ q=>q
theorem Un.laid (k:∀b u,h.get? b=some u->h'.get? b=some u)(hp:h.objs.size<=a)(hn:H a=none): Un fs ex H (upd H a o) h h' where
  keep:=fun b u q _ _ _=>k b u q
  slot:=fun b u q _ _ _=>⟨u.slots,k b u q⟩
  free:=fun b u q n _=>by rw[av (Nat.ne_of_lt (Nat.lt_of_lt_of_le (Heap.lt_size q) hp))];exact n
  there:=fun b u q _=>⟨u,k b u q⟩
  tups:=fun b xs q=>by rw[av (ay q hn)];exact q
  lJ:=fun b u xs q=>by rw[av (ay q hn)];exact q
  mK:=fun b ps q=>⟨#[],by rw[av (ay q hn),q];simp⟩
theorem Un.write (mu:Mut (H x))(he:e=x\/H e=some (.own x))(k:∀b u,b≠e->h.get? b=some u->h'.get? b=some u)(heo:∃u,h'.get? e=some u): Un fs ex H (upd H x o) h h':=by
  have hx:∀b,H b=none->b≠x:=fun b n z=>by subst z;rw[n] at mu;exact mu
  have hb:∀b,H b=none->b≠e:=fun b n z=>by
    subst z
    rcases he with r | r
    · exact hx b n r
    · rw[n] at r;cases r
  have hm:∀b u,H b=some u->¬Mut (some u)->b≠x:=fun b u q nm z=>by subst z;rw[q] at mu;exact nm mu
  refine⟨fun b u q n _ _=>k b u (hb b n) q,fun b u q n _ _=>⟨u.slots,k b u (hb b n) q⟩,fun b u q n _=>by rw[av (hx b n)];exact n,fun b u q _=>?_,
    fun b xs q=>by rw[av (hm b _ q fun z=>z)];exact q,fun b u xs q=>by rw[av (hm b _ q fun z=>z)];exact q,fun b ps q=>⟨#[],by rw[av (hm b _ q fun z=>z),q];simp⟩⟩
  by_cases hbe:b=e
  · subst hbe;exact heo
  · exact⟨u,k b u hbe q⟩
end
def trk (h:Heap)(H:Hp): List Addr:=(List.range h.objs.size).filter fun a=>(H a).isSome
def uD (h:Heap)(H:Hp): Heap:=PySem.W.hideAll h (trk h H)
theorem zK (h:Heap)(H:Hp): (uD h H).objs.size=h.objs.size:=PySem.W.hideAll_size _ _
theorem Bh {h:Heap}{H:Hp}{b:Addr}{o:Obj}(e:h.get? b=some o)(n:H b=none): (uD h H).get? b=some o :=
  PySem.W.hideAll_get _ e fun hm=>by
    have q:(H b).isSome=true:=(List.mem_filter.mp hm).2
    rw[n] at q;simp at q
theorem Dg {h:Heap}{H:Hp}{b:Addr}{o:Obj}(e:(uD h H).get? b=some o): h.get? b=some o/\H b=none:=by
  have e':h.get? b=some o:=PySem.W.of_hideAll (trk h H) e
  refine⟨e',?_⟩
  cases q:H b with
  | none=>rfl
  | some x =>
    have hm:b∈trk h H:=List.mem_filter.mpr ⟨List.mem_range.mpr (Heap.lt_size e'),by simp[q]⟩
    have z:(uD h H).get? b=none:=PySem.W.hideAll_none (trk h H) hm
    rw[z] at e;cases e
end L2
namespace L2
open PySem PySem.Spec PyProof.Rows
structure Mod (K:PySem.W.Frag)(mg:Str->Option Value)(base:Heap): Prop where
  kin:K.In base
  glob:base.Ns mainGlobals mg
  blt:∃mb,base.Ns builtinsNs mb/\∀x:Str,x ≠ "__name__" -> mb x=bootBuiltins x
  nolimit:base.NoLimit
structure Cx where
  prog:Program
  w:World
  K:PySem.W.Frag
  mg:Str->Option Value
  base:Heap
  A:Around
  N:List Str
  s₀:Shared
  H₀:Hp
  env:Env
  outer:List Env
  stack:List Env
  ex:List Addr
  fn:Str->Bool
  calm:Bool
  pn:List (Addr×Obj)
  xe:Value->Shared->Prop
def frs (l:List Env): List Addr:=l.filterMap (·.frame)
abbrev Cx.fs (X:Cx): List Addr:=frs X.outer
def Vis (sc:Scope)(x:Str): Prop:=sc.names.lookup x=some .local\/sc.names.lookup x=some .cell\/sc.names.lookup x=some .free
def Loc (sc:Scope)(x:Str): Prop:=sc.names.lookup x=some .local\/sc.names.lookup x=some .cell
def Look (env:Env)(h:Heap)(m:Str->Option Value)(x:Str)(u:Value): Prop :=
  (env.kindOf x=some .local/\m x=some u)\/((env.kindOf x=some .cell\/env.kindOf x=some .free)/\∃c,env.cells.lookup x=some c/\h.IsCell c (some u))
structure Cx.Ok (X:Cx): Prop where
  mod:Mod X.K X.mg X.base
  kind:X.env.scope.kind=.function
  glob:X.env.globals=mainGlobals
  blt:X.env.builtins=builtinsNs
  above:X.s₀.heap.objs.size<=X.env.locals
  inj:∀x y c,X.env.cells.lookup x=some c->X.env.cells.lookup y=some c->x=y
  has:∀x,(X.env.kindOf x=some .cell\/X.env.kindOf x=some .free)->∃c,X.env.cells.lookup x=some c
  cab:∀x c,X.fn x=true->X.env.cells.lookup x=some c->X.s₀.heap.objs.size<=c
  hd:X.calm=true->X.A.handled=none
  frames:X.A.frames=some X.stack
  stk:X.stack=X.outer\/(X.stack=X.env::X.outer/\X.env.frame=some X.env.locals)
  exf:∀b∈X.ex,b≠X.env.locals/\∀x c,X.env.cells.lookup x=some c->c≠b
  bs:∀b o,X.base.get? b=some o->X.s₀.heap.get? b=some o/\X.H₀ b=none
  bsz:X.base.objs.size<=X.s₀.heap.objs.size
  sA:∀b o,X.base.get? b=some o->b∉X.ex
  Dh:∀b∈X.ex,b∉X.fs
  pK:X.s₀.heap.FunFrames X.base X.outer
  frf:∀b∈X.fs,X.H₀ b=none
structure Inv (X:Cx)(pins:List (Addr×Obj))(σ:List (Option V))(H:Hp)(s:Shared): Prop where
  ok:X.Ok
  os:s.os=X.s₀.os
  bare:AllBare s.gens
  base:Un X.fs X.ex X.H₀ H X.s₀.heap s.heap
  loc:∃m,s.heap.Ns X.env.locals m/\∀(i:Nat) (x:Str) (v:V),X.N[i]?=some x->σ[i]?=some (some v)->Vis X.env.scope x->∃u,RelV v u/\Look X.env s.heap m x u
  cell:∀x c,X.env.cells.lookup x=some c->∃v,s.heap.IsCell c v
  free:H X.env.locals=none
  iM:∀x c,X.env.cells.lookup x=some c->H c=none
  pin:∀p∈X.pn++pins,s.heap.get? p.1=some p.2/\H p.1=none/\p.1≠X.env.locals/\p.1∉X.fs/\∀v,p.2.data≠.cell v
  hok:HOk X.prog X.w H s.heap
  len:σ.length=X.N.length
section
variable {X:Cx}{pins:List (Addr×Obj)}{σ:List (Option V)}{H H':Hp}{s:Shared}{h':Heap}
theorem Cx.Ok.GZ (ok:X.Ok){b:Addr}{o:Obj}(e:X.base.get? b=some o): b∉X.fs:=fun hb=>by
  have:=(ok.pK.mem hb).1
  rw[e] at this;cases this
theorem Inv.bs (I:Inv X pins σ H s): ∀b o,X.base.get? b=some o->s.heap.get? b=some o/\H b=none:=fun b o e =>
  ⟨I.base.keep b o (I.ok.bs b o e).1 (I.ok.bs b o e).2 (I.ok.GZ e) (I.ok.sA b o e),I.base.free b o (I.ok.bs b o e).1 (I.ok.bs b o e).2 (I.ok.sA b o e)⟩
theorem Inv.bk (I:Inv X pins σ H s): ∀b o,X.base.get? b=some o->s.heap.get? b=some o:=fun b o e=>(I.bs b o e).1
theorem Inv.mod (I:Inv X pins σ H s): Mod X.K X.mg X.base:=I.ok.mod
theorem Inv.kIn (I:Inv X pins σ H s): X.K.In s.heap:=I.ok.mod.kin.keeps I.bk
theorem Inv.lt (I:Inv X pins σ H s): X.env.locals < s.heap.objs.size:=let ⟨_,hn,_⟩:=I.loc;hn.lt
theorem Inv.sz (I:Inv X pins σ H s): X.s₀.heap.objs.size<=s.heap.objs.size:=Nat.le_trans I.ok.above (Nat.le_of_lt I.lt)
theorem Inv.G0 (I:Inv X pins σ H s){a:Addr}(h:s.heap.objs.size<=a): a∉X.fs:=fun hb=>by
  obtain⟨_,o,ho,_⟩:=I.ok.pK.mem hb
  exact absurd (Nat.lt_of_lt_of_le (Heap.lt_size ho) (Nat.le_trans I.sz h)) (Nat.lt_irrefl _)
theorem Inv.cne (I:Inv X pins σ H s): ∀x c,X.env.cells.lookup x=some c->c≠X.env.locals:=fun x c e z=>by
  obtain⟨v,o,ho,hd⟩:=I.cell x c e
  obtain⟨m,⟨o',es,ep,ho',hd',_⟩,_⟩:=I.loc
  rw[z,ho'] at ho;cases ho;rw[hd'] at hd;cases hd
theorem Inv.pK (I:Inv X pins σ H s): s.heap.FunFrames X.base X.outer:=by
  have all:∀(l:List Env),(∀b∈frs l,b∈X.fs)->X.s₀.heap.FunFrames X.base l->s.heap.FunFrames X.base l:=by
    intro l
    induction l with
    | nil=>intro _ _;trivial
    | cons env r ih =>
      intro hs hl
      obtain⟨hk,⟨L,o,hf,hn,ho,hd⟩,hr⟩:=hl
      have hL:L∈X.fs:=hs L (by unfold frs;rw[List.filterMap_cons,hf];exact List.mem_cons_self)
      obtain⟨sl,e⟩:=I.base.slot L o ho (I.ok.frf L hL) hL fun z=>I.ok.Dh L z hL
      exact⟨hk,⟨L,_,hf,hn,e,hd⟩,ih (fun b hb=>hs b (by unfold frs;rw[List.filterMap_cons,hf];exact List.mem_cons_of_mem _ hb)) hr⟩
  exact all X.outer (fun _ hb=>hb) I.ok.pK
theorem Inv.stack (I:Inv X pins σ H s): s.heap.FunFrames X.base X.stack:=by
  rcases I.ok.stk with e | ⟨e,hf⟩
  · rw[e];exact I.pK
  · rw[e]
    obtain⟨m,hn,_⟩:=I.loc
    refine .cons (by rw[I.ok.kind];decide) hf hn ?_ I.pK
    exact Heap.get?_none_of_le (Nat.le_trans I.ok.bsz I.ok.above)
theorem Inv.ko (I:Inv X pins σ H s): ∀b∈frs X.stack,b∈X.env.locals::X.fs:=fun b hb=>by
  rcases I.ok.stk with e | ⟨e,hf⟩
  · rw[e] at hb;exact List.mem_cons_of_mem _ hb
  · rw[e] at hb
    unfold frs at hb
    rw[List.filterMap_cons,hf] at hb
    exact hb
theorem Inv.uE (I:Inv X pins σ H s): ∀b∈frs X.stack,H b=none:=fun b hb=>by
  rcases List.mem_cons.mp (I.ko b hb) with e | hb
  · rw[e];exact I.free
  · obtain⟨_,o,ho,_⟩:=I.ok.pK.mem hb
    exact I.base.free b o ho (I.ok.frf b hb) fun z=>I.ok.Dh b z hb
theorem Inv.step {g':Array GenState}{t':Nat}{d':Drawn}{ch:List Addr}(I:Inv X pins σ H s)
    (hch:∀b∈ch,(b∈X.ex\/X.s₀.heap.objs.size<=b)/\b≠X.env.locals/\(∀x c,X.env.cells.lookup x=some c->c≠b)/\∀p∈X.pn++pins,p.1≠b)
    (keep:∀b o,b≠X.env.locals->b∉X.fs->b∉ch->s.heap.get? b=some o->H b=none->h'.get? b=some o)
    (slot:∀b o,b≠X.env.locals->b∈X.fs->b∉ch->s.heap.get? b=some o->H b=none->∃sl,h'.get? b=some { o with slots:=sl }) (free:∀b o,b∉ch->s.heap.get? b=some o->H b=none->H' b=none)
    (there:∀b o,b∉ch->s.heap.get? b=some o->∃o',h'.get? b=some o')
    (tups:∀b xs,H b=some (.tup xs)->H' b=some (.tup xs)) (lJ:∀b o u,H b=some (.frz o u)->H' b=some (.frz o u)) (mK:∀b ps,H b=some (.tbl ps)->∃more,H' b=some (.tbl (ps++more)))
    (ns:∀m,s.heap.Ns X.env.locals m->h'.Ns X.env.locals m) (hok:HOk X.prog X.w H' h') (hg:AllBare g') :
    Inv X pins σ H' { s with heap:=h',gens:=g',drawn:=d',toks:=t' }:=by
  have neL:∀b o,X.s₀.heap.get? b=some o->b≠X.env.locals:=fun b o e=>Nat.ne_of_lt (Nat.lt_of_lt_of_le (Heap.lt_size e) I.ok.above)
  have neC:∀b o,X.s₀.heap.get? b=some o->b∉X.ex->b∉ch:=fun b o e hx hb=>by
    rcases (hch b hb).1 with z | z
    · exact hx z
    · exact absurd (Nat.lt_of_lt_of_le (Heap.lt_size e) z) (Nat.lt_irrefl _)
  have cellK:∀x c,X.env.cells.lookup x=some c->∀v,s.heap.IsCell c v->h'.IsCell c v:=fun x c e v ⟨o,ho,hd⟩=>by
    have nch:c∉ch:=fun z=>(hch c z).2.2.1 x c e rfl
    by_cases hc:c∈X.fs
    · obtain⟨sl,q⟩:=slot c o (I.cne x c e) hc nch ho (I.iM x c e)
      exact⟨_,q,hd⟩
    · exact⟨o,keep c o (I.cne x c e) hc nch ho (I.iM x c e),hd⟩
  refine⟨I.ok,I.os,hg,⟨fun b o e n hb hx=>?_,fun b o e n hb hx=>?_,fun b o e n hx=>?_,fun b o e hx=>?_,fun b xs e=>tups b xs (I.base.tups b xs e),fun b o xs e=>lJ b o xs (I.base.lJ b o xs e),fun b ps e=>?_⟩,?_,fun x c e=>?_,?_,fun x c e=>?_,fun p hp=>?_,hok,I.len⟩
  · exact keep b o (neL b o e) hb (neC b o e hx) (I.base.keep b o e n hb hx) (I.base.free b o e n hx)
  · obtain⟨sl,e1⟩:=I.base.slot b o e n hb hx
    obtain⟨sl',e2⟩:=slot b _ (neL b o e) hb (neC b o e hx) e1 (I.base.free b o e n hx)
    exact⟨sl',e2⟩
  · obtain⟨o',e1⟩:=I.base.there b o e hx
    exact free b o' (neC b o e hx) e1 (I.base.free b o e n hx)
  · obtain⟨o',e1⟩:=I.base.there b o e hx
    exact there b o' (neC b o e hx) e1
  · obtain⟨m1,e1⟩:=I.base.mK b ps e
    obtain⟨m2,e2⟩:=mK b _ e1
    exact⟨m1++m2,by rw[e2,Array.append_assoc]⟩
  · obtain⟨m,hn,hl⟩:=I.loc
    refine⟨m,ns m hn,fun i x v e1 e2 e3=>?_⟩
    obtain⟨u,r,l⟩:=hl i x v e1 e2 e3
    refine⟨u,r,?_⟩
    rcases l with l | ⟨k,c,e,z⟩
    · exact .inl l
    · exact .inr ⟨k,c,e,cellK x c e _ z⟩
  · obtain⟨v,z⟩:=I.cell x c e
    exact⟨v,cellK x c e v z⟩
  · obtain⟨m,⟨o,_,_,ho,_⟩,_⟩:=I.loc
    exact free _ o (fun z=>(hch _ z).2.1 rfl) ho I.free
  · obtain⟨v,o,ho,hd⟩:=I.cell x c e
    exact free c o (fun z=>(hch c z).2.2.1 x c e rfl) ho (I.iM x c e)
  · obtain⟨e,n,ne,nf,d⟩:=I.pin p hp
    have nch:p.1∉ch:=fun z=>(hch p.1 z).2.2.2 p hp rfl
    exact⟨keep p.1 p.2 ne nf nch e n,free p.1 p.2 nch e n,ne,nf,d⟩
theorem Inv.un {t':Nat}(I:Inv X pins σ H s)(u:Un X.fs [] H H' s.heap h')(hok:HOk X.prog X.w H' h'): Inv X pins σ H' { s with heap:=h',toks:=t' }:=by
  obtain⟨m,⟨o,es,ep,ho,r⟩,_⟩:=id I.loc
  obtain⟨sl,hL⟩:=u.any ho I.free (by simp)
  exact I.step (g':=s.gens) (d':=s.drawn) (ch:=[]) (fun _ z=>nomatch z) (fun b o _ hb _ e n=>u.keep b o e n hb (by simp)) (fun b o _ hb _ e n=>u.slot b o e n hb (by simp)) (fun b o _ e n=>u.free b o e n (by simp)) (fun b o _ e=>u.there b o e (by simp)) u.tups u.lJ u.mK (fun m' hm=>by
    obtain⟨o',es',ep',ho',r'⟩:=hm
    rw[ho] at ho';cases ho'
    exact⟨_,es',ep',hL,r'⟩) hok I.bare
theorem Inv.call {g':Array GenState}{t':Nat}{d':Drawn}{ch:List Addr}(I:Inv X pins σ H s)(u:Un (frs X.stack) ch H H' s.heap h')(hok:HOk X.prog X.w H' h')(hg:AllBare g')
    (hch:∀b∈ch,(b∈X.ex\/X.s₀.heap.objs.size<=b)/\b≠X.env.locals/\(∀x c,X.env.cells.lookup x=some c->c≠b)/\∀p∈X.pn++pins,p.1≠b) :
    Inv X pins σ H' { s with heap:=h',gens:=g',drawn:=d',toks:=t' }:=by
  obtain⟨m,⟨o,es,ep,ho,r⟩,_⟩:=id I.loc
  obtain⟨sl,hL⟩:=u.any ho I.free fun z=>(hch _ z).2.1 rfl
  exact I.step (ch:=ch) hch (fun b o hL hb hc e n=>u.keep b o e n (fun z=>(List.mem_cons.mp (I.ko b z)).elim hL hb) hc) (fun b o _ _ hc e n=>u.any e n hc) (fun b o hc e n=>u.free b o e n hc) (fun b o hc e=>u.there b o e hc) u.tups u.lJ u.mK (fun m' hm=>by
    obtain⟨o',es',ep',ho',r'⟩:=hm
    rw[ho] at ho';cases ho'
    exact⟨_,es',ep',hL,r'⟩) hok hg
theorem Inv.turned {t':Nat}{it:Addr}(I:Inv X pins σ H s)(k:∀b o,b≠it->s.heap.get? b=some o->h'.get? b=some o)(hn:H it=none)(hL:it≠X.env.locals)
    (h1:it∈X.ex\/X.s₀.heap.objs.size<=it) (h2:∀x c,X.env.cells.lookup x=some c->c≠it) (h3:∀p∈X.pn++pins,p.1≠it):Inv X pins σ H { s with heap:=h',toks:=t' }:=by
  have nit:∀b u,H b=some u->b≠it:=fun b u e z=>by rw[z,hn] at e;cases e
  refine I.step (g':=s.gens) (d':=s.drawn) (ch:=[it]) (fun b hb=>?_) (fun b o _ _ hc e _=>k b o (fun z=>hc (by simp[z])) e) (fun b o _ _ hc e _=>⟨o.slots,k b o (fun z=>hc (by simp[z])) e⟩) (fun _ _ _ _ n=>n)
    (fun b o hc e=>⟨o,k b o (fun z=>hc (by simp[z])) e⟩) (fun _ _ e=>e) (fun _ _ _ e=>e) (fun b ps e=>⟨#[],by rw[e];simp⟩) (fun m hm=>?_) (fun b u e=>?_) I.bare
  · have e:b=it:=by simpa using hb
    subst e
    exact⟨h1,hL,h2,h3⟩
  · obtain⟨o,es,ep,ho,r⟩:=hm
    exact⟨o,es,ep,k _ o (Ne.symm hL) ho,r⟩
  · refine(I.hok b u e).stay (fun c v hc q=>k c v ?_ q) (fun _ q=>q) fun _ _ q=>q
    rcases hc with z | z
    · rw[z];exact nit b u e
    · exact nit c _ z
theorem Inv.tok (I:Inv X pins σ H s)(t:Nat): Inv X pins σ H { s with toks:=t }:=I.un (h':=s.heap) (t':=t) Un.refl I.hok
theorem Inv.kept {t':Nat}(I:Inv X pins σ H s)(k:∀b u,s.heap.get? b=some u->h'.get? b=some u): Inv X pins σ H { s with heap:=h',toks:=t' }:=I.un (Un.kept k) (I.hok.kept k)
theorem Inv.laid {a:Addr}{o:HO}{t':Nat}(I:Inv X pins σ H s)(k:∀b u,s.heap.get? b=some u->h'.get? b=some u)(hp:s.heap.objs.size<=a)(new:bJ X.prog X.w (upd H a o) h' a o):
    Inv X pins σ (upd H a o) { s with heap:=h',toks:=t' }:=I.un (Un.laid k hp (I.hok.fresh hp)) (I.hok.laid k hp new)
theorem Inv.write {x e:Addr}{o:HO}{t':Nat}(I:Inv X pins σ H s)(mu:Mut (H x))(he:e=x\/H e=some (.own x))(k:∀b u,b≠e->s.heap.get? b=some u->h'.get? b=some u)(heo:∃u,h'.get? e=some u)
    (new:bJ X.prog X.w (upd H x o) h' x o):Inv X pins σ (upd H x o) { s with heap:=h',toks:=t' }:=I.un (Un.write mu he k heo) (I.hok.write mu he k heo new)
theorem Inv.yJ {lS:List (Addr×Obj)}(I:Inv X pins σ H s)(h:∀p∈lS,s.heap.get? p.1=some p.2/\H p.1=none/\p.1≠X.env.locals/\p.1∉X.fs/\∀v,p.2.data≠.cell v): Inv X lS σ H s :=
  ⟨I.ok,I.os,I.bare,I.base,I.loc,I.cell,I.free,I.iM,fun p hp=>(List.mem_append.mp hp).elim (fun z=>I.pin p (List.mem_append_left _ z)) (h p),I.hok,I.len⟩
theorem qx {N:List Str}(hN:N.Nodup){i j:Nat}{x:Str}(a:N[i]?=some x)(b:N[j]?=some x): i=j:=by
  obtain⟨h1,e1⟩:=List.getElem?_eq_some_iff.mp a
  obtain⟨h2,e2⟩:=List.getElem?_eq_some_iff.mp b
  exact(List.getElem_inj hN).mp (e1.trans e2.symm)
theorem tJ {M:Model}{A:Around}{E:Value->Shared->Prop}{i:Nat}{x:Str}{v:V}{u:Value}{Q:Unit->Shared->Prop}(I:Inv X pins σ H s)(hN:X.N.Nodup)(hi:X.N[i]?=some x)(hx:Loc X.env.scope x)(r:RelV v u)
    (h:∀s',Inv X pins (σ.set i (some v)) H s'->(∃a,Heap.SameBut a s.heap s'.heap/\(a=X.env.locals\/X.env.cells.lookup x=some a))->Q () s') (hf:X.fn x=true\/X.env.scope.names.lookup x=some .local:=by first | exact .inl rfl | exact .inr rfl | assumption):wpAny M A (storeName X.env x u) Q E s:=by
  obtain⟨m,hn,hl⟩:=id I.loc
  have hcls:(X.env.scope.kind==.class || (X.env.scope.kind==.module&&X.env.locals != X.env.globals))=false:=by rw[I.ok.kind];rfl
  have hiσ:i < σ.length:=by rw[I.len];exact(List.getElem?_eq_some_iff.mp hi).1
  have cne:=I.cne
  have tracked:∀{a:Addr} {h':Heap},(∃o,s.heap.get? a=some o/\H a=none)->Heap.SameBut a s.heap h'->HOk X.prog X.w H h':=fun {a h'} ha hs b ob e=>by
    obtain⟨_,_,hfree⟩:=ha
    refine(I.hok b ob e).stay (fun c w' hc q=>(hs.2 c ?_).trans q) (fun _ q=>q) fun _ _ q=>q
    rintro rfl
    rcases hc with rfl | hc
    · rw[hfree] at e;cases e
    · rw[hfree] at hc;cases hc
  rcases hx with hk | hk
  · refine wpAny_storeName_local hk hn (fun h' hn' hs=>?_) hcls
    obtain⟨oL,_,_,hoL,_⟩:=id hn
    refine h _ ⟨I.ok,I.os,I.bare,⟨fun b o e n hb hx=>?_,fun b o e n hb hx=>?_,I.base.free,fun b o e hx=>?_,I.base.tups,I.base.lJ,I.base.mK⟩,⟨_,hn',fun j y v' e1 e2 e3=>?_⟩,fun y c e=>?_,I.free,I.iM,fun p hp=>?_,tracked ⟨oL,hoL,I.free⟩ hs,by simpa using I.len⟩ ⟨_,hs,.inl rfl⟩
    · exact(hs.2 b (Nat.ne_of_lt (Nat.lt_of_lt_of_le (Heap.lt_size e) I.ok.above))).trans (I.base.keep b o e n hb hx)
    · obtain⟨sl,e1⟩:=I.base.slot b o e n hb hx
      exact⟨sl,(hs.2 b (Nat.ne_of_lt (Nat.lt_of_lt_of_le (Heap.lt_size e) I.ok.above))).trans e1⟩
    · obtain⟨o',e1⟩:=I.base.there b o e hx
      exact⟨o',(hs.2 b (Nat.ne_of_lt (Nat.lt_of_lt_of_le (Heap.lt_size e) I.ok.above))).trans e1⟩
    · by_cases hj:j=i
      · subst hj
        rw[hi] at e1;cases e1
        rw[List.getElem?_set_self hiσ] at e2
        cases e2
        exact⟨u,r,.inl ⟨hk,by simp⟩⟩
      · rw[List.getElem?_set_ne (Ne.symm hj)] at e2
        obtain⟨u',r',q⟩:=hl j y v' e1 e2 e3
        refine⟨u',r',?_⟩
        rcases q with ⟨k,e⟩ | ⟨k,c,e,z⟩
        · refine .inl ⟨k,?_⟩
          have:y≠x:=fun e=>hj (qx hN e1 (e ▸ hi))
          simp[this,e]
        · exact .inr ⟨k,c,e,z.sameBut hs (cne y c e)⟩
    · obtain⟨w',z⟩:=I.cell y c e
      exact⟨w',z.sameBut hs (cne y c e)⟩
    · obtain⟨e,n,ne,nf,d⟩:=I.pin p hp
      exact⟨(hs.2 p.1 ne).trans e,n,ne,nf,d⟩
  · have hfn:X.fn x=true:=by
      rcases hf with z | z
      · exact z
      · rw[z] at hk;cases hk
    obtain⟨c,hc⟩:=I.ok.has x (.inl hk)
    obtain⟨w',z⟩:=I.cell x c hc
    refine wpAny_storeName_cell I.ok.kind hk hc z (fun h' hc' hs=>?_)
    obtain⟨oc,hoc,G1⟩:=id z
    refine h { s with heap:=h' } ⟨I.ok,I.os,I.bare,⟨fun b o e n hb hx=>?_,fun b o e n hb hx=>?_,I.base.free,fun b o e hx=>?_,I.base.tups,I.base.lJ,I.base.mK⟩,⟨m,hn.sameBut hs (Ne.symm (cne x c hc)),fun j y v' e1 e2 e3=>?_⟩,fun y c' e=>?_,I.free,I.iM,fun p hp=>?_,tracked ⟨oc,hoc,I.iM x c hc⟩ hs,by simpa using I.len⟩ ⟨c,hs,.inr hc⟩
    · exact(hs.2 b (Nat.ne_of_lt (Nat.lt_of_lt_of_le (Heap.lt_size e) (I.ok.cab x c hfn hc)))).trans (I.base.keep b o e n hb hx)
    · obtain⟨sl,e1⟩:=I.base.slot b o e n hb hx
      exact⟨sl,(hs.2 b (Nat.ne_of_lt (Nat.lt_of_lt_of_le (Heap.lt_size e) (I.ok.cab x c hfn hc)))).trans e1⟩
    · obtain⟨o',e1⟩:=I.base.there b o e hx
      exact⟨o',(hs.2 b (Nat.ne_of_lt (Nat.lt_of_lt_of_le (Heap.lt_size e) (I.ok.cab x c hfn hc)))).trans e1⟩
    · by_cases hj:j=i
      · subst hj
        rw[hi] at e1;cases e1
        rw[List.getElem?_set_self hiσ] at e2
        cases e2
        exact⟨u,r,.inr ⟨.inl hk,c,hc,hc'⟩⟩
      · rw[List.getElem?_set_ne (Ne.symm hj)] at e2
        obtain⟨u',r',q⟩:=hl j y v' e1 e2 e3
        refine⟨u',r',?_⟩
        rcases q with q | ⟨k,c',e,z'⟩
        · exact .inl q
        · refine .inr ⟨k,c',e,z'.sameBut hs ?_⟩
          rintro rfl
          exact hj (qx hN e1 (I.ok.inj _ _ _ e hc ▸ hi))
    · by_cases hcc:c'=c
      · subst hcc;exact⟨_,hc'⟩
      · obtain⟨w2,z2⟩:=I.cell y c' e
        exact⟨w2,z2.sameBut hs hcc⟩
    · obtain⟨e,n,ne,nf,d⟩:=I.pin p hp
      refine⟨(hs.2 p.1 ?_).trans e,n,ne,nf,d⟩
      intro q
      rw[q,hoc] at e
      have q':oc=p.2:=Option.some.inj e
      exact d w' (by rw[<-q'];exact G1)
theorem qy {M:Model}{A:Around}{E:Value->Shared->Prop}{i:Nat}{x:Str}{v:V}{u:Value}{Q:Unit->Shared->Prop}(I:Inv X pins σ H s)(hN:X.N.Nodup)(hi:X.N[i]?=some x)(hx:Loc X.env.scope x)(r:RelV v u)
    (h:∀s',Inv X pins (σ.set i (some v)) H s'->Q () s') (hf:X.fn x=true\/X.env.scope.names.lookup x=some .local:=by first | exact .inl rfl | exact .inr rfl | assumption):wpAny M A (storeName X.env x u) Q E s :=
  tJ I hN hi hx r (fun s' I' _=>h s' I') hf
theorem Inv.call' {s':Shared}{ch:List Addr}(I:Inv X pins σ H s)(ho:s'.os=s.os)(u:Un (frs X.stack) ch H H' s.heap s'.heap)(hok:HOk X.prog X.w H' s'.heap)(hg:AllBare s'.gens)
    (hch:∀b∈ch,(b∈X.ex\/X.s₀.heap.objs.size<=b)/\b≠X.env.locals/\(∀x c,X.env.cells.lookup x=some c->c≠b)/\∀p∈X.pn++pins,p.1≠b):Inv X pins σ H' s':=by
  obtain⟨h',g',d',t',o'⟩:=s'
  have e:o'=s.os:=ho
  subst e
  exact I.call (g':=g') (t':=t') (d':=d') u hok hg hch
end
abbrev XK:=Value->Option Addr->Hp->Prop
abbrev St:=List (Option V)
abbrev VK:=V->Hp->Prop
abbrev TE:=St->Hp->VK->Prop
abbrev TT:=St->Hp->(Bool->Hp->Prop)->Prop
abbrev TA:=St->Hp->(List V->Hp->Prop)->Prop
structure Ends where
  nx:St->Hp->Prop
  rt:VK
  bk:St->Hp->Prop:=fun _ _=>False
  ct:St->Hp->Prop:=fun _ _=>False
abbrev TS:=Ends->St->Hp->Prop
def EP (X:Cx)(pins:List (Addr×Obj))(σ:St)(Q:VK)(u:Value)(s':Shared): Prop:=∃v H',Inv X pins σ H' s'/\RelV v u/\Q v H'
def TP (X:Cx)(pins:List (Addr×Obj))(σ:St)(Q:Bool->Hp->Prop)(b:Bool)(s':Shared): Prop:=∃H',Inv X pins σ H' s'/\Q b H'
def AP (X:Cx)(pins:List (Addr×Obj))(σ:St)(Q:List V->Hp->Prop)(us:List Value)(s':Shared): Prop:=∃vs H',Inv X pins σ H' s'/\Vals vs us/\Q vs H'
def SP (X:Cx)(pins:List (Addr×Obj))(D:Ends)(f:Flow)(s':Shared): Prop :=
  match f with
  | .next=>∃σ' H',Inv X pins σ' H' s'/\D.nx σ' H'
  | .brk=>∃σ' H',Inv X pins σ' H' s'/\D.bk σ' H'
  | .cont=>∃σ' H',Inv X pins σ' H' s'/\D.ct σ' H'
  | .ret u=>∃v σ' H',Inv X pins σ' H' s'/\RelV v u/\D.rt v H'
def PE (X:Cx)(e:Expr)(t:TE): Prop :=
  ∀(pins:List (Addr×Obj)) (s:Shared) (σ:St) (H:Hp) (Q:VK),Inv X pins σ H s->t σ H Q->wpAny (model X.prog X.w) X.A (eval e X.env) (EP X pins σ Q) X.xe s
def PT (X:Cx)(e:Expr)(t:TT): Prop :=
  ∀(pins:List (Addr×Obj)) (s:Shared) (σ:St) (H:Hp) (Q:Bool->Hp->Prop),Inv X pins σ H s->t σ H Q->wpAny (model X.prog X.w) X.A (isTrue e X.env (eval e X.env)) (TP X pins σ Q) X.xe s
def PW (X:Cx)(e:Expr)(t:TT): Prop :=
  ∀(whole:Sem Value) (pins:List (Addr×Obj)) (s:Shared) (σ:St) (H:Hp) (Q:Bool->Hp->Prop),Inv X pins σ H s->t σ H Q->wpAny (model X.prog X.w) X.A (isTrue e X.env whole) (TP X pins σ Q) X.xe s
theorem PW.pt {X:Cx}{e:Expr}{t:TT}(h:PW X e t): PT X e t:=h _
def PA (X:Cx)(es:List Expr)(t:TA): Prop :=
  ∀(pos:Pos) (pins:List (Addr×Obj)) (s:Shared) (σ:St) (H:Hp) (Q:List V->Hp->Prop),Inv X pins σ H s->t σ H Q->wpAny (model X.prog X.w) X.A (spliced (backTo pos (starEach es X.env))) (AP X pins σ Q) X.xe s
def PS (X:Cx)(st:Stmt)(t:TS): Prop :=
  ∀(pins:List (Addr×Obj)) (s:Shared) (σ:St) (H:Hp) (D:Ends),Inv X pins σ H s->t D σ H->wpAny (model X.prog X.w) X.A (exec st X.env) (SP X pins D) X.xe s
def PSs (X:Cx)(st:List Stmt)(t:TS): Prop :=
  ∀(pins:List (Addr×Obj)) (s:Shared) (σ:St) (H:Hp) (D:Ends),Inv X pins σ H s->t D σ H->wpAny (model X.prog X.w) X.A (execs st X.env) (SP X pins D) X.xe s
theorem thn {α:Type}{t:Sem α}{Q Q':α->Shared->Prop}{M:Model}{A:Around}{E:Value->Shared->Prop}{s:Shared}(h:wpAny M A t Q E s)(hQ:∀a s,Q a s->Q' a s): wpAny M A t Q' E s:=wpAny_mono h hQ fun _ _ x=>x
end L2
namespace L2
open PySem PySem.Spec PyProof.Rows
section
variable {X:Cx}
def FQ (i:Nat): TE:=fun σ H Q=>∃v,σ[i]?=some (some v)/\Q v H
def tC (v:V): TE:=fun _ H Q=>Q v H
theorem EG {i:Nat} {x:Str} {pos:Pos} (hN:X.N[i]?=some x) (hv:Vis X.env.scope x) (hd:(x==("__debug__" : Str))=false:=by decide) (hcd:(x==("__classdict__" : Str))=false:=by decide):PE X (.Name x pos) (FQ i):=by
  intro pins s σ H Q I h
  obtain⟨v,e,h⟩:=h
  obtain⟨m,hn,hl⟩:=I.loc
  obtain⟨u,r,l⟩:=hl i x v hN e hv
  have fin:EP X pins σ Q u s:=⟨v,H,I,r,h⟩
  rcases l with ⟨hk,hm⟩ | ⟨hk,c,hc,hcell⟩
  · exact wpAny_Name (wpAny_loadName_local I.ok.kind hk hn hm fin) hd
  · rcases hk with hk | hk
    · exact wpAny_Name (wpAny_loadName_cell I.ok.kind hk hc hcell fin) hd
    · exact wpAny_Name (wpAny_loadName_free I.ok.kind hk hc hcell fin hcd) hd
theorem aw {i j pos}: PE X (.Constant (.int i) j pos) (tC (.int i)):=fun _ _ _ H _ I h=>wpAny_Constant_int ⟨.int i,H,I.tok _,⟨_,rfl⟩,h⟩
theorem eR {b j pos}: PE X (.Constant (.bool b) j pos) (tC (.bl b)):=fun _ _ _ H _ I h=>Constant_bool ⟨.bl b,H,I,rfl,h⟩
theorem eX {j pos}: PE X (.Constant .none j pos) (tC .non):=fun _ _ _ H _ I h=>Constant_none ⟨.non,H,I,rfl,h⟩
theorem b5 {x j pos}: PE X (.Constant (.str x) j pos) (tC (.str x)):=fun _ _ _ H _ I h=>Calls.Constant_str ⟨.str x,H,I.tok _,⟨_,rfl⟩,h⟩
def Gl (X:Cx)(x:Str): Prop:=X.env.kindOf x=some .globalImplicit
theorem gP {E:Value->Shared->Prop}{pins:List (Addr×Obj)}{s:Shared}{σ:St}{H:Hp}{x:Str}{u:Value}{pos:Pos}{Q:Value->Shared->Prop}(I:Inv X pins σ H s)(hg:Gl X x)(hm:X.mg x=some u)(h:Q u s)
    (hd:(x==("__debug__" : Str))=false:=by decide):wpAny (model X.prog X.w) X.A (eval (.Name x pos) X.env) Q E s :=
  Calls.Name_function_global I.ok.kind hg (Calls.loadGlobal_global (by rw[I.ok.glob];exact I.mod.glob.keeps I.bk) hm h) hd
theorem gm {E:Value->Shared->Prop}{pins:List (Addr×Obj)}{s:Shared}{σ:St}{H:Hp}{x:Str}{u:Value}{pos:Pos}{Q:Value->Shared->Prop}(I:Inv X pins σ H s)(hg:Gl X x)(hm:X.mg x=none)(hv:bootBuiltins x=some u)(h:Q u s)
    (hn:x ≠ "__name__" := by decide) (hd:(x==("__debug__" : Str))=false:=by decide):wpAny (model X.prog X.w) X.A (eval (.Name x pos) X.env) Q E s:=by
  obtain⟨mb,h1,h2⟩:=I.mod.blt
  exact Calls.Name_function_global I.ok.kind hg (Calls.loadGlobal_builtin (by rw[I.ok.glob];exact I.mod.glob.keeps I.bk) hm (by rw[I.ok.blt];exact h1.keeps I.bk) ((h2 x hn).trans hv) h) hd
theorem mL {x:Str} {v:V} {u:Value} {pos:Pos} (hg:Gl X x) (hm:X.mg x=some u) (r:RelV v u) (hd:(x==("__debug__" : Str))=false:=by decide):PE X (.Name x pos) (tC v) :=
  fun _ _ _ H _ I h=>gP I hg hm ⟨v,H,I,r,h⟩ hd
theorem gQ {x:Str} {v:V} {u:Value} {pos:Pos} (hg:Gl X x) (hm:X.mg x=none) (hv:bootBuiltins x=some u) (r:RelV v u) (hn:x ≠ "__name__" := by decide) (hd:(x==("__debug__" : Str))=false:=by decide):PE X (.Name x pos) (tC v) :=
  fun _ _ _ H _ I h=>gm I hg hm hv ⟨v,H,I,r,h⟩ hn hd
variable {a b:Expr}{ta tb:TE}{pos:Pos}
def tB (t:TE): TT:=fun σ H Q=>t σ H fun x H1=>∃c,x=.bl c/\Q c H1
theorem dI {e:Expr}{t:TE}(h:PE X e t)(he:∀whole,isTrue e X.env whole=(do let v <-whole;standAt e.pos;holding [v] (truthy v)):=by intro _;rfl): PT X e (tB t):=by
  intro pins s σ H Q I hw
  refine isTrue_plain (thn (h pins s σ H _ I hw) fun v s1 ⟨x,H1,I1,r1,q1⟩=>?_) (he _)
  obtain⟨d,rfl,q⟩:=q1
  cases r1
  exact wpAny_truthy_bool ⟨H1,I1,q⟩
variable {tA tB':TT}{rest:List Expr}
def G2 (t u:TT): TT:=fun σ H Q=>t σ H fun c H1=>if c=true then u σ H1 Q else Q false H1
def tOr (t u:TT): TT:=fun σ H Q=>t σ H fun c H1=>if c=true then Q true H1 else u σ H1 Q
def G3 (t:TT): TT:=fun σ H Q=>t σ H fun c H1=>Q (!c) H1
theorem qk (ha:PT X a tA): PW X (.BoolOp .And [a] pos) tA:=by
  intro wh pins s σ H Q I h
  refine isTrue_and (thn (ha pins s σ H Q I h) fun c s1 e=>?_)
  cases c with
  | true=>exact isTrue_and_nil e
  | false=>exact e
theorem g6 (ha:PT X a tA): PW X (.BoolOp .Or [a] pos) tA:=by
  intro wh pins s σ H Q I h
  refine isTrue_or (thn (ha pins s σ H Q I h) fun c s1 e=>?_)
  cases c with
  | false=>exact isTrue_or_nil e
  | true=>exact e
theorem uF (ha:PT X a tA)(hb:PW X (.BoolOp .And (b::rest) pos) tB'): PW X (.BoolOp .And (a::b::rest) pos) (G2 tA tB'):=by
  intro wh pins s σ H Q I h
  refine isTrue_and (thn (ha pins s σ H _ I h) fun c s1 ⟨H1,I1,q1⟩=>?_)
  cases c with
  | true=>exact hb wh pins s1 σ H1 Q I1 q1
  | false=>exact⟨H1,I1,q1⟩
theorem jn (ha:PT X a tA)(hb:PW X (.BoolOp .Or (b::rest) pos) tB'): PW X (.BoolOp .Or (a::b::rest) pos) (tOr tA tB'):=by
  intro wh pins s σ H Q I h
  refine isTrue_or (thn (ha pins s σ H _ I h) fun c s1 ⟨H1,I1,q1⟩=>?_)
  cases c with
  | true=>exact⟨H1,I1,q1⟩
  | false=>exact hb wh pins s1 σ H1 Q I1 q1
theorem cA (ha:PT X a tA): PT X (.UnaryOp .Not a pos) (G3 tA):=by
  intro pins s σ H Q I h
  exact isTrue_not (ha pins s σ H (fun c H1=>Q (!c) H1) I h)
def FR (ta tb:TE): TE:=fun σ H Q=>ta σ H fun x H1=>∃c,x=.bl c/\if c=true then tb σ H1 Q else Q (.bl false) H1
def FT (ta:TE): TE:=fun σ H Q=>ta σ H fun x H1=>∃c,x=.bl c/\Q (.bl (!c)) H1
theorem uG {op}{t:TE}(h:PE X a t): PE X (.BoolOp op [a] pos) t:=fun pins s σ H Q I hw=>BoolOp_one (h pins s σ H Q I hw)
theorem n_ (ha:PE X a ta)(hb:PE X (.BoolOp .And (b::rest) pos) tb): PE X (.BoolOp .And (a::b::rest) pos) (FR ta tb):=by
  intro pins s σ H Q I h
  refine BoolOp_and (thn (ha pins s σ H _ I h) fun v s1 ⟨x,H1,I1,r1,q1⟩=>?_)
  obtain⟨c,rfl,q1⟩:=q1
  cases r1
  refine wpAny_truthy_bool ?_
  cases c with
  | true=>exact hb pins s1 σ H1 Q I1 q1
  | false=>exact⟨.bl false,H1,I1,rfl,q1⟩
theorem EH (ha:PE X a ta): PE X (.UnaryOp .Not a pos) (FT ta):=by
  intro pins s σ H Q I h
  refine UnaryOp_ (thn (ha pins s σ H _ I h) fun v s1 ⟨x,H1,I1,r1,q1⟩=>?_)
  obtain⟨c,rfl,q1⟩:=q1
  cases r1
  exact not_of (wpAny_truthy_bool ⟨.bl (!c),H1,I1,rfl,q1⟩)
end
end L2
namespace L2
open PySem PySem.Spec PyProof.Rows
def SqL (K:PySem.W.Frag)(H:Hp)(a:Addr)(xs:List V): Prop :=
  Rd H a (.lst xs) ∨
    ∃(o:Obj) (its:Array Value) (n:Nat),K.lookup a=some o/\o.cls=.type "list" ∧ o.dict=none/\o.data=.seq its n/\its.size<=sizeLine/\Vals xs its.toList
def SqT (K:PySem.W.Frag)(H:Hp)(a:Addr)(xs:List V): Prop :=
  Rd H a (.tup xs) ∨
    ∃(o:Obj) (its:Array Value) (n:Nat),K.lookup a=some o/\o.cls=.type "tuple" ∧ o.data=.seq its n/\its.size<=sizeLine/\Vals xs its.toList
def G4:Value->Option V
  | .none=>some .non
  | .bool b=>some (.bl b)
  | .int i _=>some (.int i)
  | .str x _=>some (.str x)
  | .bytes b _=>some (.byt b)
  | .float b _=>some (.flt b)
  | .ref a=>some (.ref a)
  | .type n=>some (.ty n)
  | _=>none
theorem RelV.abs {x:V}{u:Value}(r:RelV x u): G4 u=some x:=by
  cases x with
  | non=>cases r;rfl
  | bl _=>cases r;rfl
  | int _=>obtain⟨t,rfl⟩:=r;rfl
  | str _=>obtain⟨t,rfl⟩:=r;rfl
  | byt _=>obtain⟨t,rfl⟩:=r;rfl
  | flt _=>obtain⟨t,rfl⟩:=r;rfl
  | ref _=>cases r;rfl
  | ty _=>cases r;rfl
theorem RelV.inj {x y:V}{u:Value}(r:RelV x u)(q:RelV y u): x=y:=Option.some.inj (r.abs.symm.trans q.abs)
theorem Vals.inj:∀{xs ys:List V} {us:List Value},Vals xs us->Vals ys us->xs=ys
  | _,_,_,.nil,.nil=>rfl
  | _,_,_,.cons r t,.cons r' t'=>by rw[r.inj r',Vals.inj t t']
section
variable {X:Cx}{pins:List (Addr×Obj)}{σ:St}{H:Hp}{s:Shared}{a:Addr}{xs ys:List V}
theorem SqL.of {K:PySem.W.Frag}(h:H a=some (.lst xs)): SqL K H a xs:=.inl (.inl h)
theorem SqT.of {K:PySem.W.Frag}(h:H a=some (.tup xs)): SqT K H a xs:=.inl (.inl h)
theorem Inv.list (I:Inv X pins σ H s)(h:SqL X.K H a xs): ∃its:List Value,Vals xs its/\PlainL s.heap a its.toArray/\xs.length<=sizeLine:=by
  rcases h with h | ⟨o,its,n,hk,hc,hd,hs,hz,r⟩
  · obtain⟨z,its,n,r,e⟩:=h.ok I.hok
    exact⟨its,r,⟨_,n,e,rfl,rfl,rfl⟩,z⟩
  · refine⟨its.toList,r,⟨o,n,I.kIn a o hk,hc,hd,by simpa using hs⟩,?_⟩
    have e:=r.length
    simp only [Array.length_toList] at e
    omega
theorem Inv.tuple (I:Inv X pins σ H s)(h:SqT X.K H a xs): ∃its:List Value,Vals xs its/\IsTup s.heap a its.toArray/\xs.length<=sizeLine:=by
  rcases h with h | ⟨o,its,n,hk,hc,hs,hz,r⟩
  · obtain⟨z,its,r,p⟩:=h.ok I.hok
    exact⟨its,r,p,z⟩
  · refine⟨its.toList,r,⟨o,I.kIn a o hk,hc,n,by simpa using hs⟩,?_⟩
    have e:=r.length
    simp only [Array.length_toList] at e
    omega
theorem Inv.wg (I:Inv X pins σ H s)(h:SqL X.K H a xs)(h':SqL X.K H a ys): xs=ys:=by
  obtain⟨its,r,⟨o,n,e,_,_,d⟩,_⟩:=I.list h
  obtain⟨its',r',⟨o',n',e',_,_,d'⟩,_⟩:=I.list h'
  rw[e] at e';cases e'
  rw[d] at d'
  injection d' with d1 _
  have:its=its':=by simpa using congrArg Array.toList d1
  subst this
  exact r.inj r'
theorem Inv.oa (I:Inv X pins σ H s)(h:SqT X.K H a xs)(h':SqT X.K H a ys): xs=ys:=by
  obtain⟨its,r,⟨o,e,_,n,d⟩,_⟩:=I.tuple h
  obtain⟨its',r',⟨o',e',_,n',d'⟩,_⟩:=I.tuple h'
  rw[e] at e';cases e'
  rw[d] at d'
  injection d' with d1 _
  have:its=its':=by simpa using congrArg Array.toList d1
  subst this
  exact r.inj r'
end
section
variable {X:Cx}{pins:List (Addr×Obj)}{σ:St}{H:Hp}{s:Shared}{E:Value->Shared->Prop}
end
section
variable {X:Cx}{st:Stmt}{rest:List Stmt}{t u:TS}{e:Expr}{te:TE}{pos:Pos}
def FU:TS:=fun D σ H=>D.nx σ H
def G5 (t u:TS): TS:=fun D σ H=>t { D with nx:=u D } σ H
theorem aQ:PSs X [] FU:=fun _ _ σ H _ I h=>wpAny_execs_nil ⟨σ,H,I,h⟩
theorem ah (h1:PS X st t)(h2:PSs X rest u): PSs X (st::rest) (G5 t u):=by
  intro pins s σ H D I h
  refine wpAny_execs_cons (thn (h1 pins s σ H { D with nx:=u D } I h) fun f s1 q=>?_)
  cases f with
  | next =>
    obtain⟨σ',H',I',q⟩:=q
    exact h2 pins s1 σ' H' D I' q
  | ret v=>exact q
  | brk=>exact q
  | cont=>exact q
theorem aq (h1:PS X st t): PSs X [st] t:=by
  intro pins s σ H D I h
  refine wpAny_execs_cons (thn (h1 pins s σ H D I h) fun f s1 q=>?_)
  cases f with
  | next=>exact wpAny_execs_nil q
  | ret v=>exact q
  | brk=>exact q
  | cont=>exact q
def EI:TS:=fun D σ H=>D.bk σ H
theorem Bi:PS X (.Break pos) EI:=fun _ _ σ H _ I h=>wpAny_Break ⟨σ,H,I,h⟩
theorem Inv.quiet {pins:List (Addr×Obj)}{σ:St}{H:Hp}{s:Shared}(I:Inv X pins σ H s): interactive X.env=false:=by simp[interactive,I.ok.kind]
def FV (te:TE): TS:=fun D σ H=>te σ H fun _ H1=>D.nx σ H1
theorem bu (he:PE X e te)(hs:swapsWith e none pos.line X.env=pure false:=by rfl): PS X (.Expr e pos) (FV te):=by
  intro pins s σ H D I h
  exact wpAny_Expr_any (thn (he pins s σ H _ I h) fun v s1 ⟨x,H1,I1,r1,q1⟩=>⟨σ,H1,I1,q1⟩) I.quiet hs
def G6 (te:TE): TS:=fun D σ H=>te σ H D.rt
theorem aG (he:PE X e te): PS X (.Return (some e) pos) (G6 te):=by
  intro pins s σ H D I h
  exact wpAny_Return_some (thn (he pins s σ H _ I h) fun v s1 ⟨x,H1,I1,r1,q1⟩=>⟨x,σ,H1,I1,r1,q1⟩)
def G7 (c:TT)(t u:TS): TS:=fun D σ H=>c σ H fun b H1=>if b=true then t D σ H1 else u D σ H1
theorem bD {c:Expr}{a b:List Stmt}{tc:TT}(hc:PT X c tc)(ha:PSs X a t)(hb:PSs X b u): PS X (.If c a b pos) (G7 tc t u):=by
  intro pins s σ H D I h
  refine wpAny_If (thn (hc pins s σ H _ I h) fun d s1 ⟨H1,I1,q1⟩=>?_)
  cases d with
  | true=>exact ha pins s1 σ H1 D I1 q1
  | false=>exact hb pins s1 σ H1 D I1 q1
end
abbrev TG:=V->St->Hp->(St->Hp->Prop)->Prop
abbrev TGs:=List V->St->Hp->(St->Hp->Prop)->Prop
def PG (X:Cx)(target:Expr)(t:TG): Prop :=
  ∀(pins:List (Addr×Obj)) (s:Shared) (σ:St) (H:Hp) (v:V) (u:Value) (Q:St->Hp->Prop),Inv X pins σ H s->RelV v u->t v σ H Q ->
    wpAny (model X.prog X.w) X.A (assign target X.env u) (fun _ s'=>∃σ' H',Inv X pins σ' H' s'/\Q σ' H') X.xe s
def PGs (X:Cx)(ts:List Expr)(t:TGs): Prop :=
  ∀(pins:List (Addr×Obj)) (s:Shared) (σ:St) (H:Hp) (vs:List V) (us:List Value) (Q:St->Hp->Prop),Inv X pins σ H s->Vals vs us->t vs σ H Q ->
    wpAny (model X.prog X.w) X.A (assignInOrder ((assignEach ts X.env).map (·.2)) us) (fun _ s'=>∃σ' H',Inv X pins σ' H' s'/\Q σ' H') X.xe s
section
variable {X:Cx}{pos:Pos}
def pc (i:Nat): TG:=fun v σ H Q=>Q (σ.set i (some v)) H
theorem bn {i:Nat}{x:Str}(hN:X.N.Nodup)(hi:X.N[i]?=some x)(hx:Loc X.env.scope x)(hf:X.fn x=true\/X.env.scope.names.lookup x=some .local:=by first | exact .inl rfl | exact .inr rfl | assumption): PG X (.Name x pos) (pc i):=by
  intro pins s σ H v u Q I r h
  exact wpAny_assign_Name (qy I hN hi hx r (fun s' I'=>⟨_,H,I',h⟩) hf)
def FW:TGs:=fun vs σ H Q=>vs=[]/\Q σ H
def Bj (t:TG)(u:TGs): TGs:=fun vs σ H Q=>∃v r,vs=v::r/\t v σ H fun σ' H'=>u r σ' H' Q
theorem mM:PGs X [] FW:=by
  intro pins s σ H vs us Q I r h
  obtain⟨e,h⟩:=h
  subst e
  cases r
  exact assignInOrder_nil ⟨σ,H,I,h⟩
theorem eA {e:Expr}{es:List Expr}{t:TG}{u:TGs}(h1:PG X e t)(h2:PGs X es u)
    (hs:(assignEach (e::es) X.env).map (·.2)=assign e X.env::(assignEach es X.env).map (·.2):=by rfl):PGs X (e::es) (Bj t u):=by
  intro pins s σ H vs us Q I r h
  obtain⟨v,vr,e1,h⟩:=h
  subst e1
  cases r with
  | cons r rr =>
    rw[hs]
    refine assignInOrder_cons (thn (h1 pins s σ H _ _ _ I r h) fun _ s1 ⟨σ1,H1,I1,q1⟩=>?_)
    exact h2 pins s1 σ1 H1 _ _ Q I1 rr q1
def EJ (K:PySem.W.Frag)(n:Nat)(t:TGs): TG:=fun v σ H Q=>∃a xs,v=.ref a/\SqT K H a xs/\xs.length=n/\t xs σ H Q
theorem qz {es:List Expr}{k:Nat}{t:TGs}{n:Nat}(hc:X.calm=true)(h:PGs X es t)
    (hn:(assignEach es X.env).length=n:=by rfl) (hst:(assignEach es X.env).findIdx? (·.1)=none:=by rfl):PG X (.Tuple es k pos) (EJ X.K n t):=by
  intro pins s σ H v u Q I r hw
  obtain⟨a,xs,e1,hq,hl,hw⟩:=hw
  subst e1
  cases r
  obtain⟨its,rv,ht,hz⟩:=I.tuple hq
  refine assign_Tuple_tuple (I.ok.hd hc) ht (by simp[hn,<-hl,rv.length]) hst fun h' hx=>?_
  have I1:Inv X pins σ H { s with heap:=h' }:=I.kept (t':=s.toks) fun b o e=>hx b o (Nat.ne_of_lt (Heap.lt_size e)) e
  exact h pins _ σ H xs _ Q I1 (by simpa using rv) hw
def EK (te:TE)(g:TG): TS:=fun D σ H=>te σ H fun x H1=>g x σ H1 D.nx
theorem EL {tg e:Expr}{te:TE}{g:TG}(he:PE X e te)(hg:PG X tg g)(hs:swapsWithSole [tg] e pos.line X.env=pure false:=by rfl)(hw:swappedStores [tg] e X.env=pure none:=by rfl)
    (h1:(assignEach [tg] X.env).map (·.2)=[assign tg X.env]:=by rfl):PS X (.Assign [tg] e pos) (EK te g):=by
  intro pins s σ H D I h
  refine wpAny_Assign_stores (thn (he pins s σ H _ I h) fun v s1 ⟨x,H1,I1,r1,q1⟩=>?_) hs hw
  rw[h1]
  exact thn (hg pins s1 σ H1 x v _ I1 r1 q1) fun _ s2 q=>q
theorem aI {i:Nat}{x:Str}{e:Expr}{te:TE}{pos':Pos}(hN:X.N.Nodup)(hi:X.N[i]?=some x)(hx:Loc X.env.scope x)(he:PE X e te)(hs:swapsWith e (some (.Name x pos')) pos.line X.env=pure false:=by rfl)(hf:X.fn x=true\/X.env.scope.names.lookup x=some .local:=by first | exact .inl rfl | exact .inr rfl | assumption):
    PS X (.Assign [.Name x pos'] e pos) (EK te (pc i)):=by
  intro pins s σ H D I h
  refine wpAny_Assign_Name (thn (he pins s σ H _ I h) fun v s1 ⟨y,H1,I1,r1,q1⟩=>?_) hs
  exact qy I1 hN hi hx r1 (fun s2 I2=>⟨_,H1,I2,q1⟩) hf
end
section
variable {X:Cx}{pos:Pos}
end
structure It where
  go:Nat->Hp->Prop
  yld:Nat->Hp->V->Hp->Prop
  stop:Nat->Hp->Prop
def pL (X:Cx)(pins:List (Addr×Obj))(H:Hp)(b:Addr): Prop :=
  H b=none/\b≠X.env.locals/\b∉X.fs/\(b∈X.ex\/X.s₀.heap.objs.size<=b)/\(∀x c,X.env.cells.lookup x=some c->c≠b)/\∀p∈X.pn++pins,p.1≠b
theorem Inv.sB {X:Cx}{pins:List (Addr×Obj)}{σ:St}{H H':Hp}{s:Shared}{b:Addr}(I:Inv X pins σ H s)(hb:s.heap.objs.size<=b)(hn:H' b=none): pL X pins H' b:=by
  refine⟨hn,Nat.ne_of_gt (Nat.lt_of_lt_of_le I.lt hb),I.G0 hb,.inr (Nat.le_trans I.sz hb),fun x c e z=>?_,fun p hp z=>?_⟩
  · obtain⟨v,q⟩:=I.cell x c e
    exact absurd (Nat.lt_of_lt_of_le q.lt (by rw[z];exact hb)) (Nat.lt_irrefl _)
  · exact absurd (Nat.lt_of_lt_of_le (Heap.lt_size (I.pin p hp).1) (by rw[z];exact hb)) (Nat.lt_irrefl _)
structure Turn (P:Program)(w:World)(K:PySem.W.Frag)(tg:Expr)(J:It)(fp:List Addr)(it:Addr)(tn:Nat->Heap->Prop): Prop where
  mem:it∈fp
  obj:∀i h,tn i h->∀b∈fp,∃o,h.get? b=some o/\∀v,o.data≠.cell v
  keep:∀i h h',tn i h->(∀b∈fp,∀o,h.get? b=some o->h'.get? b=some o)->tn i h'
  item:∀(X:Cx),X.prog=P->X.w=w->X.K=K->X.calm=true->∀(i:Nat) (pins:List (Addr×Obj)) (s:Shared) (σ:St) (H:Hp) (E:Value->Shared->Prop),Inv X pins σ H s->(∀b∈fp,pL X pins H b)->tn i s.heap->J.go i H ->
    wpAny (model P w) X.A (pyNext (.ref it)) (fun r s1=>∃u,r=some u ∧
      wpAny (model P w) X.A (letOwnedTupleGo tg (.ref it) u) (fun _ s2=>∃x H',Inv X pins σ H' s2/\RelV x u/\J.yld i H x H'/\tn (i+1) s2.heap/\∀b∈fp,H' b=none) E s1) E s
  done:∀(X:Cx),X.prog=P->X.w=w->X.K=K->X.calm=true->∀(i:Nat) (pins:List (Addr×Obj)) (s:Shared) (σ:St) (H:Hp) (E:Value->Shared->Prop),Inv X pins σ H s->(∀b∈fp,pL X pins H b)->tn i s.heap->J.stop i H ->
    wpAny (model P w) X.A (pyNext (.ref it)) (fun r s1=>r=none/\Inv X pins σ H s1) E s
  self:∀(A:Around) (i:Nat) (s:Shared) (Q:Value->Shared->Prop) (E:Value->Shared->Prop),tn i s.heap->Q (.ref it) s->wpAny (model P w) A (pyIter (.ref it)) Q E s
abbrev TI:=St->Hp->(It->Hp->Prop)->Prop
def PIE (X:Cx)(pins:List (Addr×Obj))(σ:St)(tg:Expr)(R:It->Hp->Prop)(itv:Value)(s2:Shared): Prop :=
  ∃(it:Addr) (fp:List Addr) (tn:Nat->Heap->Prop) (J:It) (H':Hp),itv=.ref it/\Inv X pins σ H' s2/\Turn X.prog X.w X.K tg J fp it tn/\tn 0 s2.heap/\(∀b∈fp,pL X pins H' b)/\R J H'
def PI (X:Cx)(tg iter:Expr)(wi:TI): Prop :=
  ∀(pins:List (Addr×Obj)) (s:Shared) (σ:St) (H:Hp) (R:It->Hp->Prop),Inv X pins σ H s->wi σ H R ->
    wpAny (model X.prog X.w) X.A (eval iter X.env) (fun v s1=>wpAny (model X.prog X.w) X.A (pyIter v) (PIE X pins σ tg R) X.xe s1) X.xe s
theorem tK {M:Model}{A:Around}{E:Value->Shared->Prop}{s:Shared}{tg:Expr}{it:Addr}{u:Value}{o:Obj}{n:String}{vs:Array Value}{Q:Unit->Shared->Prop}(ho:s.heap.get? it=some o)(hc:o.cls=.type n)(hd:o.data=.fields vs)
    (hn:["enumerate", "zip", "dict_itemiterator", "dict_reverseitemiterator", "odict_iterator", "itertools.zip_longest", "itertools.pairwise"].contains n=false) (hQ:Q () s):wpAny M A (letOwnedTupleGo tg (.ref it) u) Q E s:=by
  unfold letOwnedTupleGo
  cases tg<;>first
    | exact wpAny_pure hQ
    | (cases u<;>first
        | exact wpAny_pure hQ
        | (refine wpAny_bind (wpAny_load ho ?_)
           rw[hc,hd]
           show wpAny M A (if (["enumerate", "zip", "dict_itemiterator", "dict_reverseitemiterator", "odict_iterator", "itertools.zip_longest", "itertools.pairwise"].contains n&&vs[0]?==some (rawInt _))=true then _ else _) Q E s
           rw[if_neg (by intro h;rw[hn,Bool.false_and] at h;cases h)]
           exact wpAny_pure hQ))
def Itl (K:PySem.W.Frag)(a:Addr): It :=
  ⟨fun i H=>∃xs x,SqL K H a xs/\xs[i]?=some x,fun i H x H'=>H'=H/\∀xs,SqL K H a xs->xs[i]?=some x,fun i H=>∃xs,SqL K H a xs/\xs.length<=i⟩
def Itt (K:PySem.W.Frag)(a:Addr): It :=
  ⟨fun i H=>∃xs x,SqT K H a xs/\xs[i]?=some x,fun i H x H'=>H'=H/\∀xs,SqT K H a xs->xs[i]?=some x,fun i H=>∃xs,SqT K H a xs/\xs.length<=i⟩
def Itr (lo:Int)(n:Nat): It:=⟨fun i _=>i < n,fun i H x H'=>H'=H/\x=.int (lo+i),fun i _=>n<=i⟩
theorem zL {P:Program}{w:World}{K:PySem.W.Frag}{tg:Expr}(a it:Addr): Turn P w K tg (Itl K a) [it] it (fun i h=>h.IsListIter it a i) where
  mem:=by simp
  obj:=fun i h st b hb=>by
    have e:b=it:=by simpa using hb
    subst e
    obtain⟨o,e,c,d⟩:=st
    exact⟨o,e,fun v z=>by rw[d] at z;cases z⟩
  keep:=fun i h h' st k=>st.at fun o e=>k it (by simp) o e
  item:=by
    intro X hP hw hK hc i pins s σ H E I hf st hg
    subst hP hw hK
    obtain⟨xs,x,hq,hx⟩:=hg
    obtain⟨its,rv,p,hz⟩:=I.list hq
    obtain⟨u,hu,ru⟩:=rv.get hx
    obtain⟨f0,f1,f2,f3,f4,f5⟩:=hf it (by simp)
    refine wpAny_pyNext_list_item st p.isList (x:=u) (by simpa using hu) fun h' st' sb=>?_
    have I1:Inv X pins σ H { s with heap:=h' }:=I.turned (t':=s.toks) (fun b o hb e=>(sb.2 b hb).trans e) f0 f1 f3 f4 f5
    obtain⟨o,e,c,d⟩:=id st'
    exact⟨u,rfl,tK (s:={ s with heap:=h' }) e c d (by decide) ⟨x,H,I1,ru,⟨rfl,fun ys hy=>by rw[I.wg hy hq];exact hx⟩,st',fun b hb=>(hf b hb).1⟩⟩
  done:=by
    intro X hP hw hK hc i pins s σ H E I hf st hg
    subst hP hw hK
    obtain⟨xs,hq,hx⟩:=hg
    obtain⟨its,rv,p,hz⟩:=I.list hq
    obtain⟨f0,f1,f2,f3,f4,f5⟩:=hf it (by simp)
    have hl:=rv.length
    exact wpAny_pyNext_list_end (I.ok.hd hc) st p.isList (by simp;omega) fun h' eb=>⟨rfl,I.turned (t':=s.toks) (fun b o hb e=>eb b o hb e) f0 f1 f3 f4 f5⟩
  self:=fun _ _ _ _ _ st h=>wpAny_pyIter_listiter st h
theorem xP {P:Program}{w:World}{K:PySem.W.Frag}{tg:Expr}(a it:Addr): Turn P w K tg (Itt K a) [it] it (fun i h=>h.IsTupleIter it a i) where
  mem:=by simp
  obj:=fun i h st b hb=>by
    have e:b=it:=by simpa using hb
    subst e
    obtain⟨o,e,c,d⟩:=st
    exact⟨o,e,fun v z=>by rw[d] at z;cases z⟩
  keep:=fun i h h' st k=>st.at fun o e=>k it (by simp) o e
  item:=by
    intro X hP hw hK hc i pins s σ H E I hf st hg
    subst hP hw hK
    obtain⟨xs,x,hq,hx⟩:=hg
    obtain⟨its,rv,p,hz⟩:=I.tuple hq
    obtain⟨u,hu,ru⟩:=rv.get hx
    obtain⟨f0,f1,f2,f3,f4,f5⟩:=hf it (by simp)
    refine wpAny_pyNext_tuple_item st (show s.heap.IsTuple a its.toArray from p) (x:=u) (by simpa using hu) fun h' st' sb=>?_
    have I1:Inv X pins σ H { s with heap:=h' }:=I.turned (t':=s.toks) (fun b o hb e=>(sb.2 b hb).trans e) f0 f1 f3 f4 f5
    obtain⟨o,e,c,d⟩:=id st'
    exact⟨u,rfl,tK (s:={ s with heap:=h' }) e c d (by decide) ⟨x,H,I1,ru,⟨rfl,fun ys hy=>by rw[I.oa hy hq];exact hx⟩,st',fun b hb=>(hf b hb).1⟩⟩
  done:=by
    intro X hP hw hK hc i pins s σ H E I hf st hg
    subst hP hw hK
    obtain⟨xs,hq,hx⟩:=hg
    obtain⟨its,rv,p,hz⟩:=I.tuple hq
    obtain⟨f0,f1,f2,f3,f4,f5⟩:=hf it (by simp)
    have hl:=rv.length
    exact wpAny_pyNext_tuple_end (I.ok.hd hc) st (show s.heap.IsTuple a its.toArray from p) (by simp;omega) fun h' eb=>⟨rfl,I.turned (t':=s.toks) (fun b o hb e=>eb b o hb e) f0 f1 f3 f4 f5⟩
  self:=fun _ _ _ _ _ st h=>wpAny_pyIter_tupleiter st h
theorem xQ {P:Program}{w:World}{K:PySem.W.Frag}{tg:Expr}(it:Addr)(lo:Int)(n:Nat): Turn P w K tg (Itr lo n) [it] it (fun i h=>IsRangeIter h it (lo+(i:Nat)*1) ((n:Int)-(i:Nat)) 1) where
  mem:=by simp
  obj:=fun i h st b hb=>by
    have e:b=it:=by simpa using hb
    subst e
    exact⟨_,st,fun v z=>by
      have z':Data.fields _=Data.cell v:=z
      cases z'⟩
  keep:=fun i h h' st k=>k it (by simp) _ st
  item:=by
    intro X hP hw hK hc i pins s σ H E I hf st hg
    subst hP hw hK
    obtain⟨f0,f1,f2,f3,f4,f5⟩:=hf it (by simp)
    have W:=Walks.range (prog:=X.prog) (w:=X.w) (I.ok.hd hc) it lo 1 n
    refine W.item i s _ _ hg st fun v h' tk hv st' kk=>?_
    obtain⟨t,rfl⟩:=hv
    have I1:Inv X pins σ H { s with heap:=h',toks:=tk }:=I.turned (fun b o hb e=>kk b o (by simpa using hb) e) f0 f1 f3 f4 f5
    refine⟨_,rfl,tK (s:={ s with heap:=h',toks:=tk }) (n := "range_iterator") st' rfl rfl (by decide) ⟨.int (lo+i),H,I1,⟨t,?_⟩,⟨rfl,rfl⟩,st',fun b hb=>(hf b hb).1⟩⟩
    rw[Int.mul_one]
  done:=by
    intro X hP hw hK hc i pins s σ H E I hf st hg
    subst hP hw hK
    obtain⟨f0,f1,f2,f3,f4,f5⟩:=hf it (by simp)
    exact wpAny_pyNext_range_end (I.ok.hd hc) st (by have:n<=i:=hg;omega) fun h' eb=>⟨rfl,I.turned (t':=s.toks) (fun b o hb e=>eb b o hb e) f0 f1 f3 f4 f5⟩
  self:=fun _ _ _ _ _ st h=>wpAny_pyIter_rangeiter st h
end L2
namespace L2
open PySem PySem.Spec PyProof.Rows
section
variable {X:Cx}{tg:Expr}
def Ee (K:PySem.W.Frag)(tl:TE): TI:=fun σ H R=>tl σ H fun x H1=>∃a,x=.ref a/\(∃xs,SqL K H1 a xs)/\R (Itl K a) H1
def G8 (K:PySem.W.Frag)(tl:TE): TI:=fun σ H R=>tl σ H fun x H1=>∃a,x=.ref a/\(∃xs,SqT K H1 a xs)/\R (Itt K a) H1
theorem eY {l:Expr}{tl:TE}(hl:PE X l tl): PI X tg l (Ee X.K tl):=by
  intro pins s σ H R I h
  refine thn (hl pins s σ H _ I h) fun v s1 ⟨x,H1,I1,r1,q1⟩=>?_
  obtain⟨a,e,⟨xs,hq⟩,q⟩:=q1
  subst e
  cases r1
  obtain⟨its,rv,p,hz⟩:=I1.list hq
  refine wpAny_pyIter_list p.isList ?_
  refine⟨s1.heap.objs.size,[s1.heap.objs.size],_,_,H1,rfl,I1.kept (t':=s1.toks) fun b o e=>Heap.get?_push_of_some _ e,zL a _,⟨_,Heap.get?_push_size _ rfl,rfl,rfl⟩,fun b hb=>?_,q⟩
  have e:b=s1.heap.objs.size:=by simpa using hb
  subst e
  exact I1.sB (Nat.le_refl _) (I1.hok.fresh (Nat.le_refl _))
theorem qA {l:Expr}{tl:TE}(hl:PE X l tl): PI X tg l (G8 X.K tl):=by
  intro pins s σ H R I h
  refine thn (hl pins s σ H _ I h) fun v s1 ⟨x,H1,I1,r1,q1⟩=>?_
  obtain⟨a,e,⟨xs,hq⟩,q⟩:=q1
  subst e
  cases r1
  obtain⟨its,rv,p,hz⟩:=I1.tuple hq
  refine wpAny_pyIter_tuple (show s1.heap.IsTuple a its.toArray from p) ?_
  refine⟨s1.heap.objs.size,[s1.heap.objs.size],_,_,H1,rfl,I1.kept (t':=s1.toks) fun b o e=>Heap.get?_push_of_some _ e,xP a _,⟨_,Heap.get?_push_size _ rfl,rfl,rfl⟩,fun b hb=>?_,q⟩
  have e:b=s1.heap.objs.size:=by simpa using hb
  subst e
  exact I1.sB (Nat.le_refl _) (I1.hok.fresh (Nat.le_refl _))
theorem Bk {pins:List (Addr×Obj)}{σ:St}{H:Hp}{s:Shared}{R:It->Hp->Prop}{E:Value->Shared->Prop}{lo hi:Int}{t u v:Tok}{tk:Nat}(I:Inv X pins σ H s)(h1:-(2^62)<=lo)(h2:lo < 2^62)(h3:-(2^62)<=hi)(h4:hi < 2^62)
    (q:R (Itr lo (hi-lo).toNat) H):wpAny (model X.prog X.w) X.A (pyIter (.ref s.heap.objs.size)) (PIE X pins σ tg R) E { s with heap:=s.heap.push { cls:=.type "range",data:=.fields #[.int lo t,.int hi u,.int 1 v] },toks:=tk }:=by
  refine wpAny_pyIter_range (IsRange.new ..) (small_one h1 h2 h3 h4) ?_
  have I1:Inv X pins σ H { s with heap:=s.heap.push { cls:=.type "range",data:=.fields #[.int lo t,.int hi u,.int 1 v] },toks:=tk }:=I.kept fun b o e=>Heap.get?_push_of_some _ e
  refine⟨(s.heap.push { cls:=.type "range",data:=.fields #[.int lo t,.int hi u,.int 1 v] }).objs.size,[(s.heap.push { cls:=.type "range",data:=.fields #[.int lo t,.int hi u,.int 1 v] }).objs.size],_,_,H,rfl,
    I1.kept (t':=tk) fun b o e=>Heap.get?_push_of_some _ e,xQ _ lo (hi-lo).toNat,?_,fun b hb=>?_,q⟩
  · have e1:lo+((0:Nat):Int)*1=lo:=by simp
    have e2:(((hi-lo).toNat:Nat):Int)-((0:Nat):Int)=Builtin.Range.rangeSize lo hi 1:=by rw[rangeSize_one];split<;>omega
    show IsRangeIter _ _ (lo+((0:Nat):Int)*1) ((((hi-lo).toNat:Nat):Int)-((0:Nat):Int)) 1
    rw[e1,e2]
    exact Heap.get?_push_size _ rfl
  · have e:b=(s.heap.push { cls:=.type "range",data:=.fields #[.int lo t,.int hi u,.int 1 v] }).objs.size:=by simpa using hb
    subst e
    exact I1.sB (Nat.le_refl _) (I1.hok.fresh (Nat.le_refl _))
def FX (ta:TA): TI:=fun σ H R=>ta σ H fun vs H1=>∃j:Int,vs=[.int j]/\-(2^62)<=j/\j < 2^62/\R (Itr 0 j.toNat) H1
theorem fG {a:Expr} {ta:TA} {p pos:Pos} (hg:Gl X "range") (hm:X.mg "range" = none) (ha:PA X [a] ta) (hs:starEach [a] X.env=[(false,eval a X.env)]:=by rfl):PI X tg (.Call (.Name "range" p) [a] [] pos) (FX ta):=by
  intro pins s σ H R I h
  refine Call_ (gm I hg hm boot_range (PyProof.Rows.callWith_type1 (thn (ha pos pins s σ H _ I h) fun us s1 ⟨vs,H1,I1,r1,q1⟩=>?_) hs rfl))
  obtain⟨j,e,q1,q2,q⟩:=q1
  subst e
  cases r1 with
  | cons r rr =>
    cases rr
    obtain⟨t,rfl⟩:=r
    exact call_range_1 (Bk I1 (by omega) (by omega) q1 q2 (by simpa using q))
def FY (wi:TI)(g:TG)(tb:TS): TS:=fun D σ H=>wi σ H fun J H1=>∃W:Nat->Nat->St->Hp->Prop,(∃m,W 0 m σ H1)/\∀i m σ H,W i m σ H ->
  (J.stop i H/\D.nx σ H)\/(J.go i H/\∃N:St->Hp->Prop,(∀σ' H',N σ' H'->∃m',m' < m/\W (i+1) m' σ' H')/\∀x H',J.yld i H x H'->g x σ H' fun σ2 H2=>tb { D with nx:=N,ct:=N,bk:=D.nx } σ2 H2)
def qB (fp:List Addr)(h:Heap): List (Addr×Obj):=fp.filterMap fun b=>(h.get? b).map fun o=>(b,o)
theorem jC {fp:List Addr}{h:Heap}{b:Addr}{o:Obj}(hb:b∈fp)(e:h.get? b=some o): (b,o)∈qB fp h:=List.mem_filterMap.mpr ⟨b,hb,by rw[e];rfl⟩
theorem zM {fp:List Addr}{h:Heap}{p:Addr×Obj}(hp:p∈qB fp h): p.1∈fp/\h.get? p.1=some p.2:=by
  obtain⟨b,hb,e⟩:=List.mem_filterMap.mp hp
  cases q:h.get? b with
  | none=>rw[q] at e;cases e
  | some o =>
    rw[q] at e
    have e':(b,o)=p:=Option.some.inj e
    subst e'
    exact⟨hb,q⟩
theorem Inv.pinned {pins:List (Addr×Obj)}{σ:St}{H:Hp}{s:Shared}{fp:List Addr}(I:Inv X pins σ H s)(hf:∀b∈fp,pL X pins H b)(ho:∀b∈fp,∃o,s.heap.get? b=some o/\∀v,o.data≠.cell v): Inv X (pins++qB fp s.heap) σ H s :=
  I.yJ fun p hp=>(List.mem_append.mp hp).elim (fun z=>I.pin p (List.mem_append_right _ z)) fun z=>by
    obtain⟨hb,e⟩:=zM z
    obtain⟨f0,f1,f2,_⟩:=hf p.1 hb
    obtain⟨o,e',d⟩:=ho p.1 hb
    rw[e] at e';cases e'
    exact⟨e,f0,f1,f2,d⟩
theorem Inv.mO {pins pl:List (Addr×Obj)}{σ:St}{H:Hp}{s:Shared}(I:Inv X (pins++pl) σ H s): Inv X pins σ H s:=I.yJ fun p hp=>I.pin p (List.mem_append_right _ (List.mem_append_left _ hp))
theorem cM {iter:Expr}{body:List Stmt}{wi:TI}{g:TG}{tb:TS}{pos:Pos}(hp:PassesOwn (model X.prog X.w) X.A X.env X.xe)(hc:X.calm=true)(hi:PI X tg iter wi)(hg:PG X tg g)(hb:PSs X body tb)
    (hs:∀x,foldedSetIterable iter X.env x=pure x:=by intro _;rfl):PS X (.For tg iter body [] pos) (FY wi g tb):=by
  intro pins s σ H D I h
  refine wpAny_For (thn (hi pins s σ H _ I h) fun v s1 h1=>thn h1 fun itv s2 h2=>?_) hs
  obtain⟨it,fp,tn,J,H2,e,I2,T,st2,f2,W,⟨m0,w0⟩,turn⟩:=h2
  subst e
  have stat:∀{H':Hp},(∀b∈fp,H' b=none)->∀b∈fp,pL X pins H' b:=fun hn b hb=>⟨hn b hb,(f2 b hb).2⟩
  refine codeAny_forLoop_any (fun n s'=>∃i σ' H',Inv X pins σ' H' s'/\tn i s'.heap/\(∀b∈fp,H' b=none)/\W i n σ' H') ?_ m0 ⟨0,σ,H2,I2,st2,fun b hb=>(f2 b hb).1,w0⟩
  rintro n s3 ⟨i,σ3,H3,I3,st3,fr3,w3⟩
  rcases turn i n σ3 H3 w3 with ⟨stop,qn⟩ | ⟨go,N,hN,step⟩
  · refine wpAny_passesOwn hp (thn (T.done X rfl rfl rfl hc i pins s3 σ3 H3 X.xe I3 (stat fr3) st3 stop) fun r s4 ⟨hr,I4⟩=>?_)
    subst hr
    exact wpAny_execs_nil ⟨σ3,H3,I4,qn⟩
  · refine wpAny_passesOwn hp (thn (T.item X rfl rfl rfl hc i pins s3 σ3 H3 X.xe I3 (stat fr3) st3 go) fun r s4 ⟨u,hr,h4⟩=>?_)
    subst hr
    refine wpAny_passesOwn hp (thn h4 fun _ s5 ⟨x,H5,I5,r5,y5,st5,fr5⟩=>?_)
    have I5':=I5.pinned (stat fr5) (T.obj _ _ st5)
    refine wpAny_passesOwn hp (thn (hg _ s5 σ3 H5 x u _ I5' r5 (step x H5 y5)) fun _ s6 ⟨σ6,H6,I6,q6⟩=>?_)
    refine wpAny_passesOwn hp (thn (hb _ s6 σ6 H6 _ I6 q6) fun f s7 q7=>?_)
    have again:∀{σ7:St} {H7:Hp},Inv X (pins++qB fp s5.heap) σ7 H7 s7->N σ7 H7->∃m,m < n/\∃i σ' H',Inv X pins σ' H' s7/\tn i s7.heap/\(∀b∈fp,H' b=none)/\W i m σ' H':=fun {σ7 H7} I7 n7=>by
      obtain⟨m',hm,w7⟩:=hN σ7 H7 n7
      refine⟨m',hm,i+1,σ7,H7,I7.mO,T.keep _ _ _ st5 fun b hb o e=>(I7.pin (b,o) (List.mem_append_right _ (List.mem_append_right _ (jC hb e)))).1,fun b hb=>?_,w7⟩
      obtain⟨o,e,d⟩:=T.obj _ _ st5 b hb
      exact(I7.pin (b,o) (List.mem_append_right _ (List.mem_append_right _ (jC hb e)))).2.1
    cases f with
    | next=>obtain⟨σ7,H7,I7,n7⟩:=q7;exact again I7 n7
    | cont=>obtain⟨σ7,H7,I7,n7⟩:=q7;exact again I7 n7
    | brk=>obtain⟨σ7,H7,I7,q7⟩:=q7;exact⟨σ7,H7,I7.mO,q7⟩
    | ret v=>obtain⟨x7,σ7,H7,I7,r7,q7⟩:=q7;exact⟨x7,σ7,H7,I7.mO,r7,q7⟩
end
theorem g7 {K:PySem.W.Frag}{a:Addr}{xs:List V}{g:TG}{tb:TS}{D:Ends}{σ:St}{H:Hp}(Pv:Nat->St->Hp->Prop)(h0:Pv 0 σ H)(hl:∀i σ H,i<=xs.length->Pv i σ H->SqL K H a xs)
    (hs:∀i x σ H,xs[i]?=some x->Pv i σ H->g x σ H fun σ2 H2=>tb { D with nx:=Pv (i+1),ct:=Pv (i+1),bk:=D.nx } σ2 H2) (hd:∀σ H,Pv xs.length σ H->D.nx σ H) :
    ∃W:Nat->Nat->St->Hp->Prop,(∃m,W 0 m σ H)/\∀i m σ H,W i m σ H ->
      ((Itl K a).stop i H/\D.nx σ H)\/((Itl K a).go i H/\∃N:St->Hp->Prop,(∀σ' H',N σ' H'->∃m',m' < m/\W (i+1) m' σ' H')/\∀x H',(Itl K a).yld i H x H'->g x σ H' fun σ2 H2=>tb { D with nx:=N,ct:=N,bk:=D.nx } σ2 H2):=by
  refine⟨fun i m σ H=>m=xs.length-i/\i<=xs.length/\Pv i σ H,⟨xs.length,by simp,Nat.zero_le _,h0⟩,?_⟩
  rintro i m σ H ⟨rfl,hi,p⟩
  have q:=hl i σ H hi p
  by_cases hlt:i < xs.length
  · refine .inr ⟨⟨xs,xs[i],q,by simp[hlt]⟩,Pv (i+1),fun σ' H' p'=>⟨xs.length-(i+1),by omega,rfl,hlt,p'⟩,fun x H' y=>?_⟩
    obtain⟨e,y⟩:=y
    subst e
    exact hs i x σ _ (y xs q) p
  · have e:i=xs.length:=by omega
    subst e
    exact .inl ⟨⟨xs,q,Nat.le_refl _⟩,hd σ H p⟩
theorem mP {K:PySem.W.Frag}{a:Addr}{xs:List V}{g:TG}{tb:TS}{D:Ends}{σ:St}{H:Hp}(Pv:Nat->St->Hp->Prop)(h0:Pv 0 σ H)(hl:∀i σ H,i<=xs.length->Pv i σ H->SqT K H a xs)
    (hs:∀i x σ H,xs[i]?=some x->Pv i σ H->g x σ H fun σ2 H2=>tb { D with nx:=Pv (i+1),ct:=Pv (i+1),bk:=D.nx } σ2 H2) (hd:∀σ H,Pv xs.length σ H->D.nx σ H) :
    ∃W:Nat->Nat->St->Hp->Prop,(∃m,W 0 m σ H)/\∀i m σ H,W i m σ H ->
      ((Itt K a).stop i H/\D.nx σ H)\/((Itt K a).go i H/\∃N:St->Hp->Prop,(∀σ' H',N σ' H'->∃m',m' < m/\W (i+1) m' σ' H')/\∀x H',(Itt K a).yld i H x H'->g x σ H' fun σ2 H2=>tb { D with nx:=N,ct:=N,bk:=D.nx } σ2 H2):=by
  refine⟨fun i m σ H=>m=xs.length-i/\i<=xs.length/\Pv i σ H,⟨xs.length,by simp,Nat.zero_le _,h0⟩,?_⟩
  rintro i m σ H ⟨rfl,hi,p⟩
  have q:=hl i σ H hi p
  by_cases hlt:i < xs.length
  · refine .inr ⟨⟨xs,xs[i],q,by simp[hlt]⟩,Pv (i+1),fun σ' H' p'=>⟨xs.length-(i+1),by omega,rfl,hlt,p'⟩,fun x H' y=>?_⟩
    obtain⟨e,y⟩:=y
    subst e
    exact hs i x σ _ (y xs q) p
  · have e:i=xs.length:=by omega
    subst e
    exact .inl ⟨⟨xs,q,Nat.le_refl _⟩,hd σ H p⟩
theorem dF {lo:Int}{n:Nat}{g:TG}{tb:TS}{D:Ends}{σ:St}{H:Hp}(Pv:Nat->St->Hp->Prop)(h0:Pv 0 σ H)
    (hs:∀i σ H,i < n->Pv i σ H->g (.int (lo+i)) σ H fun σ2 H2=>tb { D with nx:=Pv (i+1),ct:=Pv (i+1),bk:=D.nx } σ2 H2) (hd:∀σ H,Pv n σ H->D.nx σ H) :
    ∃W:Nat->Nat->St->Hp->Prop,(∃m,W 0 m σ H)/\∀i m σ H,W i m σ H ->
      ((Itr lo n).stop i H/\D.nx σ H)\/((Itr lo n).go i H/\∃N:St->Hp->Prop,(∀σ' H',N σ' H'->∃m',m' < m/\W (i+1) m' σ' H')/\∀x H',(Itr lo n).yld i H x H'->g x σ H' fun σ2 H2=>tb { D with nx:=N,ct:=N,bk:=D.nx } σ2 H2):=by
  refine⟨fun i m σ H=>m=n-i/\i<=n/\Pv i σ H,⟨n,by simp,Nat.zero_le _,h0⟩,?_⟩
  rintro i m σ H ⟨rfl,hi,p⟩
  by_cases hlt:i < n
  · refine .inr ⟨hlt,Pv (i+1),fun σ' H' p'=>⟨n-(i+1),by omega,rfl,hlt,p'⟩,fun x H' y=>?_⟩
    obtain⟨e,y⟩:=y
    subst e y
    exact hs i σ _ hlt p
  · have e:i=n:=by omega
    subst e
    exact .inl ⟨Nat.le_refl _,hd σ H p⟩
end L2
namespace L2
open PySem PySem.Spec PyProof.Rows
abbrev R2:=V->V->Hp->VK->Prop
def OpR (X:Cx)(f:Value->Value->Sem Value)(r:R2): Prop :=
  ∀(pins:List (Addr×Obj)) (s:Shared) (σ:St) (H:Hp) (x y:V) (v u:Value) (Q:VK),Inv X pins σ H s->RelV x v->RelV y u->r x y H Q ->
    wpAny (model X.prog X.w) X.A (f v u) (EP X pins σ Q) X.xe s
def UnR (X:Cx)(f:Value->Sem Value)(r:V->Hp->VK->Prop): Prop :=
  ∀(pins:List (Addr×Obj)) (s:Shared) (σ:St) (H:Hp) (x:V) (v:Value) (Q:VK),Inv X pins σ H s->RelV x v->r x H Q ->
    wpAny (model X.prog X.w) X.A (f v) (EP X pins σ Q) X.xe s
def eZ (X:Cx)(f:Value)(r:List V->Hp->VK->Prop): Prop :=
  ∀(pins:List (Addr×Obj)) (s:Shared) (σ:St) (H:Hp) (xs:List V) (us:List Value) (Q:VK),Inv X pins σ H s->Vals xs us->r xs H Q ->
    wpAny (model X.prog X.w) X.A (call f us) (EP X pins σ Q) X.xe s
def tOp (r:R2)(ta tb:TE): TE:=fun σ H Q=>ta σ H fun x H1=>tb σ H1 fun y H2=>r x y H2 Q
def tUn (r:V->Hp->VK->Prop)(ta:TE): TE:=fun σ H Q=>ta σ H fun x H1=>r x H1 Q
def rI (C:Int->Int->Prop)(g:Int->Int->V): R2:=fun x y H Q=>∃i j,x=.int i/\y=.int j/\C i j/\Q (g i j) H
def rI0 (g:Int->Int->V): R2:=fun x y H Q=>∃i j,x=.int i/\y=.int j/\Q (g i j) H
def rU (g:Int->V): V->Hp->VK->Prop:=fun x H Q=>∃i,x=.int i/\Q (g i) H
section
variable {X:Cx}{a b c:Expr}{ta tb tc:TE}{pos:Pos}
theorem ER (ha:PE X a ta)(hb:PE X b tb){pins:List (Addr×Obj)}{s:Shared}{σ:St}{H:Hp}{R:V->V->Hp->Prop}(I:Inv X pins σ H s)
    (h:ta σ H fun x H1=>tb σ H1 fun y H2=>R x y H2) {Q:Value->Shared->Prop} {f:Value->Value->Sem Value}
    (hf:∀v u s2 x y H2,Inv X pins σ H2 s2->RelV x v->RelV y u->R x y H2->wpAny (model X.prog X.w) X.A (f v u) Q X.xe s2) :
    wpAny (model X.prog X.w) X.A (eval a X.env) (fun v s₁=>wpAny (model X.prog X.w) X.A (eval b X.env) (fun u s₂=>wpAny (model X.prog X.w) X.A (f v u) Q X.xe s₂) X.xe s₁) X.xe s:=by
  refine thn (ha pins s σ H _ I h) fun v s1 ⟨x,H1,I1,r1,q1⟩=>?_
  refine thn (hb pins s1 σ H1 _ I1 q1) fun u s2 ⟨y,H2,I2,r2,q2⟩=>?_
  exact hf v u s2 x y H2 I2 r1 r2 q2
theorem aM {op:Operator}{r:R2}(ho:OpR X (binaryOp op) r)(ha:PE X a ta)(hb:PE X b tb): PE X (.BinOp a op b pos) (tOp r ta tb):=by
  intro pins s σ H Q I h
  exact wpAny_BinOp (ER ha hb I h fun v u s2 x y H2 I2 rx ry q=>ho pins s2 σ H2 x y v u Q I2 rx ry q)
theorem kq {op:UnaryOp}{r:V->Hp->VK->Prop}(ho:UnR X (unaryOp op) r)(ha:PE X a ta): PE X (.UnaryOp op a pos) (tUn r ta):=by
  intro pins s σ H Q I h
  exact UnaryOp_ (thn (ha pins s σ H _ I h) fun v s1 ⟨x,H1,I1,r1,q1⟩=>ho pins s1 σ H1 x v Q I1 r1 q1)
theorem opI {f:Value->Value->Sem Value}{C:Int->Int->Prop}{g:Int->Int->Int}
    (rule:∀(i j:Int) (t u:Tok) (s:Shared) (Q:Value->Shared->Prop) (E:Value->Shared->Prop),C i j->Q (.int (g i j) s.toks) { s with toks:=s.toks+1 }->wpAny (model X.prog X.w) X.A (f (.int i t) (.int j u)) Q E s) :
    OpR X f (rI C fun i j=>.int (g i j)):=by
  intro pins s σ H x y v u Q I rx ry h
  obtain⟨i,j,rfl,rfl,hc,q⟩:=h
  obtain⟨t,rfl⟩:=rx
  obtain⟨t',rfl⟩:=ry
  exact rule i j t t' s _ _ hc ⟨.int (g i j),H,I.tok _,⟨_,rfl⟩,q⟩
theorem Di {f:Value->Value->Sem Value}{g:Int->Int->Int}
    (rule:∀(i j:Int) (t u:Tok) (s:Shared) (Q:Value->Shared->Prop) (E:Value->Shared->Prop),Q (.int (g i j) s.toks) { s with toks:=s.toks+1 }->wpAny (model X.prog X.w) X.A (f (.int i t) (.int j u)) Q E s) :
    OpR X f (rI0 fun i j=>.int (g i j)):=by
  intro pins s σ H x y v u Q I rx ry h
  obtain⟨i,j,rfl,rfl,q⟩:=h
  obtain⟨t,rfl⟩:=rx
  obtain⟨t',rfl⟩:=ry
  exact rule i j t t' s _ _ ⟨.int (g i j),H,I.tok _,⟨_,rfl⟩,q⟩
theorem EV {f:Value->Value->Sem Value}{g:Int->Int->Bool}
    (rule:∀(i j:Int) (t u:Tok) (s:Shared) (Q:Value->Shared->Prop) (E:Value->Shared->Prop),Q (.bool (g i j)) s->wpAny (model X.prog X.w) X.A (f (.int i t) (.int j u)) Q E s) :
    OpR X f (rI0 fun i j=>.bl (g i j)):=by
  intro pins s σ H x y v u Q I rx ry h
  obtain⟨i,j,rfl,rfl,q⟩:=h
  obtain⟨t,rfl⟩:=rx
  obtain⟨t',rfl⟩:=ry
  exact rule i j t t' s _ _ ⟨.bl (g i j),H,I,rfl,q⟩
def EW (i j:Int): Prop:=0 < j/\j < 1073741824
def zN (i j:Int): Prop:=0<=j/\j<=1000000/\i.natAbs < 2^64
def zO (i j:Int): Prop:=(-(2^64) < i/\i < 2^64)\/(-(2^64) < j/\j < 2^64)
theorem zO.ok {i j:Int}(h:zO i j): IntMulOk i j:=by
  rcases h with ⟨h1,h2⟩ | ⟨h1,h2⟩
  · exact .of_left (intBits_le_64 h1 h2)
  · exact .of_right (intBits_le_64 h1 h2)
theorem xR (k:Nat): (0:Int)<=2^k:=by
  rw[two_pow_cast]
  exact Int.natCast_nonneg _
theorem cB:OpR X (binaryOp .Add) (rI0 fun i j=>.int (i+j)):=Di fun _ _ _ _ _ _ _ q=>add_int q
theorem iZ:OpR X (binaryOp .Sub) (rI0 fun i j=>.int (i-j)):=Di fun _ _ _ _ _ _ _ q=>sub_int q
theorem qC:OpR X (binaryOp .Mult) (rI zO fun i j=>.int (i*j)):=opI fun _ _ _ _ _ _ _ hc q=>mul_int q hc.ok
theorem ql:OpR X (binaryOp .FloorDiv) (rI EW fun i j=>.int (i / j)):=opI fun i j _ _ _ _ _ hc q=>by
  have h1:(0:Int) < j:=hc.1
  have h2:j < 1073741824:=hc.2
  exact floordiv_int (by omega) (by rw[Int.fdiv_eq_ediv_of_nonneg i (by omega)];exact q) (.inl (PyProof.noPylong_small (by omega)))
theorem eM:OpR X (binaryOp .Mod) (rI (fun _ j=>0 < j) fun i j=>.int (i%j)):=opI fun i j _ _ _ _ _ hc q=>by
  have h1:(0:Int) < j:=hc
  exact mod_int' (by omega) (by rw[Int.fmod_eq_emod_of_nonneg i (by omega)];exact q)
theorem Bl:OpR X (binaryOp .Pow) (rI zN fun i j=>.int (i^j.toNat)):=opI fun _ _ _ _ _ _ _ hc q=>pow_int_small hc.1 hc.2.1 hc.2.2 q
theorem kr:OpR X (binaryOp .LShift) (rI zN fun i j=>.int (i*2^j.toNat)):=opI fun _ _ _ _ _ _ _ hc q=>lshift_int_small hc.1 hc.2.1 hc.2.2 q
theorem uH:OpR X (binaryOp .RShift) (rI (fun _ j=>0<=j) fun i j=>.int (i / 2^j.toNat)):=opI fun i j _ _ _ _ _ hc q =>
  rshift_int hc (by rw[Int.fdiv_eq_ediv_of_nonneg i (xR _)];exact q)
theorem xS:OpR X (binaryOp .BitAnd) (rI0 fun i j=>.int (Builtin.bitAnd i j)):=Di fun _ _ _ _ _ _ _ q=>and_int q
theorem Ef:OpR X (binaryOp .BitOr) (rI0 fun i j=>.int (Builtin.bitOr i j)):=Di fun _ _ _ _ _ _ _ q=>or_int q
theorem unI {f:Value->Sem Value}{g:Int->Int}
    (rule:∀(i:Int) (t:Tok) (s:Shared) (Q:Value->Shared->Prop) (E:Value->Shared->Prop),Q (.int (g i) s.toks) { s with toks:=s.toks+1 }->wpAny (model X.prog X.w) X.A (f (.int i t)) Q E s) :
    UnR X f (rU fun i=>.int (g i)):=by
  intro pins s σ H x v Q I rx h
  obtain⟨i,rfl,q⟩:=h
  obtain⟨t,rfl⟩:=rx
  exact rule i t s _ _ ⟨.int (g i),H,I.tok _,⟨_,rfl⟩,q⟩
theorem g9:UnR X (unaryOp .USub) (rU fun i=>.int (-i)):=unI fun _ _ _ _ _ q=>neg_int q
end
def FZ:V->V->Bool
  | .non,.non=>true | .non,.int _=>true | .int _,.non=>true | .non,.bl _=>true | .bl _,.non=>true | .non,.str _=>true | .str _,.non=>true
  | .int _,.int _=>true | .bl _,.bl _=>true | .str _,.str _=>true | .byt _,.byt _=>true
  | .int _,.str _=>true | .str _,.int _=>true | .bl _,.str _=>true | .str _,.bl _=>true
  | _,_=>false
def rEq:R2:=fun x y H Q=>FZ x y=true/\Q (.bl (decide (x=y))) H
def rNe:R2:=fun x y H Q=>FZ x y=true/\Q (.bl (!decide (x=y))) H
theorem yK {i j:Int}: decide (V.int i=V.int j)=(i==j):=by
  rw[Bool.eq_iff_iff]
  simp
theorem Bm {i j:Bool}: decide (V.bl i=V.bl j)=(i==j):=by
  rw[Bool.eq_iff_iff]
  simp
theorem yL {i j:Str}: decide (V.str i=V.str j)=(i==j):=by
  rw[Bool.eq_iff_iff]
  simp
theorem yM {i j:Array UInt8}: decide (V.byt i=V.byt j)=(i.toList==j.toList):=by
  rw[Bool.eq_iff_iff]
  cases i
  cases j
  simp
section
variable {X:Cx}{a b c:Expr}{ta tb tc:TE}{pos:Pos}
theorem bM {pins:List (Addr×Obj)}{σ:St}{H:Hp}{s:Shared}{Q:VK}{k k':Bool}(I:Inv X pins σ H s)(q:Q (.bl k) H)(e:k=k'): EP X pins σ Q (.bool k') s:=by
  subst e
  exact⟨.bl k,H,I,rfl,q⟩
theorem fb:OpR X (compareOp .Eq) rEq:=by
  intro pins s σ H x y v u Q I rx ry h
  obtain⟨hs,q⟩:=h
  cases x with
  | non =>
    cases rx
    cases y with
    | non=>cases ry;exact PySem.EqNone.eq_none_none (bM I q (by simp))
    | bl j=>cases ry;exact PySem.EqNone.eq_none_bool (bM I q (by simp))
    | int j=>obtain⟨t',rfl⟩:=ry;exact PySem.EqNone.eq_none_int (bM I q (by simp))
    | str j=>obtain⟨t',rfl⟩:=ry;exact PySem.EqNone.eq_none_str (bM I q (by simp))
    | _=>exact absurd (show false=true from hs) Bool.false_ne_true
  | bl i =>
    cases rx
    cases y with
    | non=>cases ry;exact PySem.EqNone.eq_bool_none (bM I q (by simp))
    | bl j=>cases ry;exact eq_bool (bM I q Bm)
    | str j=>obtain⟨t',rfl⟩:=ry;exact PySem.EqMixed.eq_bool_str (bM I q (by simp))
    | _=>exact absurd (show false=true from hs) Bool.false_ne_true
  | int i =>
    obtain⟨t,rfl⟩:=rx
    cases y with
    | non=>cases ry;exact PySem.EqNone.eq_int_none (bM I q (by simp))
    | int j=>obtain⟨t',rfl⟩:=ry;exact eq_int (bM I q yK)
    | str j=>obtain⟨t',rfl⟩:=ry;exact PySem.EqMixed.eq_int_str (bM I q (by simp))
    | _=>exact absurd (show false=true from hs) Bool.false_ne_true
  | str i =>
    obtain⟨t,rfl⟩:=rx
    cases y with
    | non=>cases ry;exact PySem.EqNone.eq_str_none (bM I q (by simp))
    | bl j=>cases ry;exact PySem.EqMixed.eq_str_bool (bM I q (by simp))
    | int j=>obtain⟨t',rfl⟩:=ry;exact PySem.EqMixed.eq_str_int (bM I q (by simp))
    | str j=>obtain⟨t',rfl⟩:=ry;exact eq_str (bM I q yL)
    | _=>exact absurd (show false=true from hs) Bool.false_ne_true
  | byt i =>
    obtain⟨t,rfl⟩:=rx
    cases y with
    | byt j=>obtain⟨t',rfl⟩:=ry;exact PySem.W.eq_bytes (bM I q yM)
    | _=>exact absurd (show false=true from hs) Bool.false_ne_true
  | _=>cases y<;>exact absurd (show false=true from hs) Bool.false_ne_true
theorem lT:OpR X (compareOp .NotEq) rNe:=by
  intro pins s σ H x y v u Q I rx ry h
  obtain⟨hs,q⟩:=h
  cases x with
  | non =>
    cases rx
    cases y with
    | non=>cases ry;exact PySem.EqNone.ne_none_none (bM I q (by simp))
    | bl j=>cases ry;exact PySem.EqNone.ne_none_bool (bM I q (by simp))
    | int j=>obtain⟨t',rfl⟩:=ry;exact PySem.EqNone.ne_none_int (bM I q (by simp))
    | str j=>obtain⟨t',rfl⟩:=ry;exact PySem.EqNone.ne_none_str (bM I q (by simp))
    | _=>exact absurd (show false=true from hs) Bool.false_ne_true
  | bl i =>
    cases rx
    cases y with
    | non=>cases ry;exact PySem.EqNone.ne_bool_none (bM I q (by simp))
    | bl j=>cases ry;exact ne_bool (bM I q (congrArg not Bm))
    | str j=>obtain⟨t',rfl⟩:=ry;exact PySem.EqMixed.ne_bool_str (bM I q (by simp))
    | _=>exact absurd (show false=true from hs) Bool.false_ne_true
  | int i =>
    obtain⟨t,rfl⟩:=rx
    cases y with
    | non=>cases ry;exact PySem.EqNone.ne_int_none (bM I q (by simp))
    | int j=>obtain⟨t',rfl⟩:=ry;exact ne_int (bM I q (congrArg not yK))
    | str j=>obtain⟨t',rfl⟩:=ry;exact PySem.EqMixed.ne_int_str (bM I q (by simp))
    | _=>exact absurd (show false=true from hs) Bool.false_ne_true
  | str i =>
    obtain⟨t,rfl⟩:=rx
    cases y with
    | non=>cases ry;exact PySem.EqNone.ne_str_none (bM I q (by simp))
    | bl j=>cases ry;exact PySem.EqMixed.ne_str_bool (bM I q (by simp))
    | int j=>obtain⟨t',rfl⟩:=ry;exact PySem.EqMixed.ne_str_int (bM I q (by simp))
    | str j=>obtain⟨t',rfl⟩:=ry;exact ne_str (bM I q (congrArg not yL))
    | _=>exact absurd (show false=true from hs) Bool.false_ne_true
  | byt i =>
    obtain⟨t,rfl⟩:=rx
    cases y with
    | byt j=>obtain⟨t',rfl⟩:=ry;exact PySem.W.ne_bytes (bM I q (congrArg not yM))
    | _=>exact absurd (show false=true from hs) Bool.false_ne_true
  | _=>cases y<;>exact absurd (show false=true from hs) Bool.false_ne_true
theorem Bn:OpR X (compareOp .Lt) (rI0 fun i j=>.bl (decide (i < j))):=EV fun _ _ _ _ _ _ _ q=>lt_int q
theorem ku:OpR X (compareOp .LtE) (rI0 fun i j=>.bl (decide (i<=j))):=EV fun _ _ _ _ _ _ _ q=>le_int q
theorem Eg:OpR X (compareOp .Gt) (rI0 fun i j=>.bl (decide (j < i))):=EV fun _ _ _ _ _ _ _ q=>gt_int q
theorem xT:OpR X (compareOp .Is) (fun x y H Q=>y=.non/\Q (.bl (decide (x=.non))) H):=by
  intro pins s σ H x y v u Q I rx ry h
  obtain⟨rfl,q⟩:=h
  cases ry
  refine is_none_gen (bM I q ?_)
  cases x<;>first
    | (cases rx;rfl)
    | (obtain⟨t,rfl⟩:=rx;rfl)
theorem qm:OpR X (compareOp .IsNot) (fun x y H Q=>y=.non/\Q (.bl (!decide (x=.non))) H):=by
  intro pins s σ H x y v u Q I rx ry h
  obtain⟨rfl,q⟩:=h
  cases ry
  refine isnot_none_gen (bM I q ?_)
  cases x<;>first
    | (cases rx;rfl)
    | (obtain⟨t,rfl⟩:=rx;rfl)
theorem bo (b:Expr){op:CmpOp}(h:op≠.In:=by decide)(h2:op≠.NotIn:=by decide): behindInMarks op b=false:=by
  have e1:(op==CmpOp.In)=false:=by cases op<;>first | rfl | exact absurd rfl h
  have e2:(op==CmpOp.NotIn)=false:=by cases op<;>first | rfl | exact absurd rfl h2
  cases b<;>simp[behindInMarks,e1,e2]
theorem fU {op:CmpOp}{r:R2}(ho:OpR X (compareOp op) r)(ha:PE X a ta)(hb:PE X b tb)(hm:behindInMarks op b=false): PE X (.Compare a [op] [b] pos) (tOp r ta tb):=by
  intro pins s σ H Q I h
  exact wpAny_Compare1 (ER ha hb I h fun v u s2 x y H2 I2 rx ry q=>ho pins s2 σ H2 x y v u Q I2 rx ry q) hm
def Eh (t:TE): TT:=fun σ H Q=>t σ H fun x H'=>∃k,x=.bl k/\Q k H'
theorem aW {op:CmpOp}{r:R2}(ho:OpR X (compareOp op) r)(ha:PE X a ta)(hb:PE X b tb)(hm:behindInMarks op b=false): PT X (.Compare a [op] [b] pos) (Eh (tOp r ta tb)):=by
  intro pins s σ H Q I h
  refine wpAny_isTrue_Compare1 (thn (ha pins s σ H _ I h) fun v s1 ⟨x,H1,I1,r1,q1⟩=>thn (hb pins s1 σ H1 _ I1 q1) fun u s2 ⟨y,H2,I2,r2,q2⟩ =>
    thn (ho pins s2 σ H2 x y v u _ I2 r1 r2 q2) fun c s3 ⟨z,H3,I3,r3,k,e,q3⟩=>?_) hm
  subst e
  cases r3
  exact wpAny_truthy_bool ⟨H3,I3,q3⟩
def EY (r r':R2)(ta tb tc:TE): TE:=fun σ H Q=>ta σ H fun x H1=>tb σ H1 fun y H2=>r x y H2 fun z H3=>∃k,z=.bl k ∧
  (if k=true then tc σ H3 fun w' H4=>r' y w' H4 Q else Q (.bl false) H3)
theorem jo {op op':CmpOp}{r r':R2}(ho:OpR X (compareOp op) r)(ho':OpR X (compareOp op') r')(ha:PE X a ta)(hb:PE X b tb)(hc:PE X c tc)
    (hm:lastMarks [op,op'] [b,c]=false:=by with_unfolding_all rfl):PT X (.Compare a [op,op'] [b,c] pos) (Eh (EY r r' ta tb tc)):=by
  intro pins s σ H Q I h
  refine isTrue_chain (thn (ha pins s σ H _ I h) fun v s1 ⟨x,H1,I1,r1,q1⟩=>test_link (thn (hb pins s1 σ H1 _ I1 q1) fun u s2 ⟨y,H2,I2,r2,q2⟩ =>
    thn (ho pins s2 σ H2 x y v u _ I2 r1 r2 q2) fun d s3 ⟨z,H3,I3,r3,k,e,q3⟩=>?_)) hm
  subst e
  cases r3
  refine wpAny_truthy_bool ?_
  cases k with
  | false =>
    obtain⟨k',e',q'⟩:=q3
    cases e'
    exact ite_ff ⟨H3,I3,q'⟩
  | true =>
    refine ite_tt (test_last (thn (hc pins s3 σ H3 _ I3 q3) fun w' s4 ⟨z',H4,I4,r4,q4⟩=>thn (ho' pins s4 σ H4 y z' u w' _ I4 r2 r4 q4) fun d' s5 ⟨z2,H5,I5,r5,k2,e2,q5⟩=>?_))
    subst e2
    cases r5
    exact wpAny_truthy_bool ⟨H5,I5,q5⟩
theorem uI:(sizeLine:Nat) < 2^63:=by rw[sizeLine_eq];decide
theorem vals1 {x:V}{us:List Value}(r:Vals [x] us): ∃u,us=[u]/\RelV x u:=by
  cases r with
  | cons r1 r2=>cases r2;exact⟨_,rfl,r1⟩
theorem vals2 {x y:V}{us:List Value}(r:Vals [x,y] us): ∃u w',us=[u,w']/\RelV x u/\RelV y w':=by
  cases r with
  | cons r1 r2 =>
    cases r2 with
    | cons r3 r4=>cases r4;exact⟨_,_,rfl,r1,r3⟩
theorem zP (hc:X.calm=true): eZ X (.builtin "max") (fun xs H Q=>∃i j,xs=[.int i,.int j]/\Q (.int (if j > i then j else i)) H):=by
  intro pins s σ H xs us Q I r h
  obtain⟨i,j,rfl,q⟩:=h
  obtain⟨u,w',rfl,⟨t,rfl⟩,⟨t',rfl⟩⟩:=vals2 r
  refine max_two_ints (I.ok.hd hc) fun h' tk k=>⟨_,H,I.kept k,?_,q⟩
  by_cases hj:j > i
  · rw[if_pos hj,if_pos hj];exact⟨_,rfl⟩
  · rw[if_neg hj,if_neg hj];exact⟨_,rfl⟩
theorem tL (hc:X.calm=true): eZ X (.builtin "min") (fun xs H Q=>∃i j,xs=[.int i,.int j]/\Q (.int (if j < i then j else i)) H):=by
  intro pins s σ H xs us Q I r h
  obtain⟨i,j,rfl,q⟩:=h
  obtain⟨u,w',rfl,⟨t,rfl⟩,⟨t',rfl⟩⟩:=vals2 r
  refine min_two_ints (I.ok.hd hc) fun h' tk k=>⟨_,H,I.kept k,?_,q⟩
  by_cases hj:j < i
  · rw[if_pos hj,if_pos hj];exact⟨_,rfl⟩
  · rw[if_neg hj,if_neg hj];exact⟨_,rfl⟩
theorem zQ:eZ X (.type "int") (fun xs H Q=>(∃i,xs=[.int i]/\Q (.int i) H)\/∃k,xs=[.bl k]/\Q (.int (if k then 1 else 0)) H):=by
  intro pins s σ H xs us Q I r h
  rcases h with ⟨i,rfl,q⟩ | ⟨k,rfl,q⟩
  · obtain⟨u,rfl,t,rfl⟩:=vals1 r
    exact call_int_int ⟨.int i,H,I,⟨_,rfl⟩,q⟩
  · obtain⟨u,rfl,r1⟩:=vals1 r
    cases r1
    exact call_int_bool ⟨.int (if k then 1 else 0),H,I.tok _,⟨_,rfl⟩,q⟩
end
end L2
namespace L2
open PySem PySem.Spec PyProof.Rows
structure xU (h:Heap)(x dx C:Addr)(mA:Str->Option Value): Prop where
  obj:h.get? x=some (PySem.W.instObj C dx)
  ns:h.Ns1 dx mA
  ne:dx≠x
theorem zR {h:Heap}{dx:Addr}{mA:Str->Option Value}(n:h.Ns1 dx mA): ∃od,h.get? dx=some od/\∀name,PySem.W.lookIn name od=some (mA name):=by
  obtain⟨o,es,ep,ho,hd,hk,_,hm⟩:=n
  refine⟨o,ho,fun name=>?_⟩
  have e:=hm name
  unfold nsFind findBy at e
  rw[<-Array.find?_toList] at e
  unfold PySem.W.lookIn
  rw[hd]
  dsimp only
  split
  · rename_i y q
    rw[q] at e
    exact congrArg some e
  · rename_i q
    rw[q] at e
    have a:es.toList.any (·.refKey)=false:=by
      rw[List.any_eq_false]
      intro y hy
      obtain⟨z,t,hkey⟩:=hk y (Array.mem_toList_iff.mp hy)
      simp[DictEntry.refKey,hkey]
    have a':¬es.toList.any (·.refKey)=true:=by rw[a];exact Bool.false_ne_true
    rw[if_neg a']
    exact congrArg some e
theorem xU.look {h:Heap}{x dx C:Addr}{mA:Str->Option Value}(I:xU h x dx C mA): ∃od,PySem.W.InstAt h x (PySem.W.instObj C dx) C (some od)/\∀name,PySem.W.lookIn name od=some (mA name) :=
  let ⟨od,ho,hl⟩:=zR I.ns
  ⟨od,⟨I.obj,rfl,rfl,ho⟩,hl⟩
section
variable {prog:Program}{w:World}{A:Around}{E:Value->Shared->Prop}{s:Shared}{K:PySem.W.Frag}{x dx C f:Addr}{mA:Str->Option Value}{name:Str}{v:Value}
theorem get_map {expr:Bool}{Q:Value->Shared->Prop}(X:K.In s.heap)(I:xU s.heap x dx C mA)(hg:PySem.W.plainGet K C name=true)(hh:PySem.W.hasDictIn K C=true)
    (ha:PySem.W.findIn K (.ref C) name=some none) (hv:mA name=some v) (hv':PySem.W.handedIn v=true) (h:Q v { s with toks:=s.toks+1 }) :
    wpAny (model prog w) A (getAttr (.ref x) name expr) Q E s:=by
  obtain⟨od,J,hl⟩:=I.look
  exact PySem.W.get_value X J (PySem.W.plainGet_of hg).1 (PySem.W.findObj_own hh ha rfl (by rw[hl,hv])) hv' h
theorem Bo {pl:Sem Bool}{Q:Value×List Value->Shared->Prop}(X:K.In s.heap)(I:xU s.heap x dx C mA)(hg:PySem.W.plainGet K C name=true)
    (hf:PySem.W.findIn K (.ref C) name=some (some (.ref f))) (ht:PySem.W.isFn K (.ref f)=true) (hv:mA name=none) (h:Q (.ref f,[.ref x]) s) :
    wpAny (model prog w) A (getMethod (.ref x) name pl) Q E s:=by
  obtain⟨od,J,hl⟩:=I.look
  exact PySem.W.method_fn X J (PySem.W.plainGet_of hg).1 (PySem.W.plainGet_of hg).2 hf (beq_iff_eq.mp ht) (by show (PySem.W.lookIn name od).map (·.isSome)=some false;rw[hl,hv];rfl) h
theorem Dj {ns:List Str}{Q:Unit->Shared->Prop}(X:K.In s.heap)(I:xU s.heap x dx C mA)
    (hs:PySem.W.findIn K (.ref C) "__setattr__" = some (some (.builtin "object.__setattr__"))) (hp:PySem.W.plainOver K C=true) (ht:PySem.W.takerIn K C name=some none) (hh:PySem.W.hasDictIn K C=true)
    (hw:PySem.Within mA ns) (hsz:ns.length<=sizeLine)
    (h:∀h',xU h' x dx C (fun y=>if y=name then some v else mA y)->Heap.SameBut dx s.heap h'->Q () { s with heap:=h',toks:=s.toks+2 }) :
    wpAny (model prog w) A (setAttr (.ref x) name v) Q E s:=by
  obtain⟨od,J,hl⟩:=I.look
  refine PySem.W.set_plain X J hs (PySem.W.osa_open (s:={ s with toks:=s.toks+1 }) (r:=none) X J hp ht fun b=>?_)
  obtain⟨cd,hc,hd'⟩:=PySem.W.any_some hh
  have hx:s.heap.get? x=some ⟨.ref C,some dx,.plain,#[]⟩:=I.obj
  refine wpAny_bind (wpAny_pure (wpAny_bind (wpAny_bind (wpAny_loadPart hx (wpAny_bind (PySem.W.Looks.here (s:={ s with toks:=s.toks+1 }) (PySem.W.looks_clsIn X hc) ?_))))))
  rw[hd']
  refine wpAny_pure (a:=some dx) (wpAny_bind (wpAny_pure (wpAny_bind ?_)))
  refine wpAny_nsSet1 (s:={ s with toks:=s.toks+1 }) I.ns fun h' hn2 hs2=>?_
  obtain⟨oD,esD,epD,hoD,hdD,hcD⟩:=hn2.count (PySem.Within.cons name v hw)
  refine wpAny_bind (wpAny_lookBehind hoD (by rw[hdD];exact pastItsLine_dict (Nat.le_trans hcD (by rw[List.length_cons];omega))) ?_)
  exact wpAny_pure (h _ ⟨(hs2.2 _ (Ne.symm I.ne)).trans I.obj,hn2,I.ne⟩ hs2)
theorem Bp {R:Result->Shared->Prop}{vs:List Value}{kw:List (Str×Value)}(X:K.In s.heap)(hm:PySem.W.makesIn K C=true)
    (hi:PySem.W.findIn K (.ref C) "__init__" = some (some (.ref f))) (hf:PySem.W.typeIn K (.ref f)=some (.type "function"))
    (h:codeAny (model prog w) (A.under (.builtin "type.__call__" ⟨.ref C::vs,kw⟩)) (.call (.ref f) ⟨.ref (s.heap.objs.size+1)::vs,kw⟩) (PySem.W.InitBack (s.heap.objs.size+1) R)
      { s with heap:=(s.heap.push PySem.W.emptyDict).push (PySem.W.instObj C s.heap.objs.size) }) :
    codeAny (model prog w) A (.call (.ref C) ⟨vs,kw⟩) R s:=by
  obtain⟨hh,g,d,t,os⟩:=s
  exact PySem.W.make_core (PySem.W.makes_of X hm) (PySem.W.looks_findIn X hi) (fun self=>PySem.W.bind_fn X self hf) (.inl rfl) h
end
def gn (f:Str)(v:V): List (Str×V)->List (Str×V)
  | []=>[(f,v)]
  | (g,x)::r=>if g=f then (g,v)::r else (g,x)::gn f v r
theorem dw (f g:Str)(v:V): ∀fs:List (Str×V),(gn f v fs).lookup g=if g=f then some v else fs.lookup g
  | []=>by
    show List.lookup g [(f,v)]=_
    by_cases h:g=f
    · have hb:(g==f)=true:=beq_iff_eq.mpr h
      simp only [List.lookup,hb,if_pos h]
    · have hb:(g==f)=false:=beq_eq_false_iff_ne.mpr h
      simp only [List.lookup,hb,if_neg h]
  | (k,x)::r=>by
    have ih:=dw f g v r
    rw[show gn f v ((k,x)::r)=(if k=f then (k,v)::r else (k,x)::gn f v r) from rfl]
    by_cases hk:k=f
    · rw[if_pos hk]
      by_cases h:g=k
      · have hb:(g==k)=true:=beq_iff_eq.mpr h
        simp only [List.lookup,hb,if_pos (h.trans hk)]
      · have hb:(g==k)=false:=beq_eq_false_iff_ne.mpr h
        simp only [List.lookup,hb,if_neg (fun e:g=f=>h (e.trans hk.symm))]
    · rw[if_neg hk]
      by_cases h:g=k
      · have hb:(g==k)=true:=beq_iff_eq.mpr h
        simp only [List.lookup,hb,if_neg (fun e:g=f=>hk (h.symm.trans e))]
      · have hb:(g==k)=false:=beq_eq_false_iff_ne.mpr h
        simp only [List.lookup,hb]
        exact ih
theorem jq (f:Str)(v:V): ∀fs:List (Str×V),f∈(gn f v fs).map (·.1)/\∀g,g∈fs.map (·.1)->g∈(gn f v fs).map (·.1)
  | []=>⟨by simp[gn],fun g h=>by simp at h⟩
  | (k,x)::r=>by
    obtain⟨i1,i2⟩:=jq f v r
    rw[show gn f v ((k,x)::r)=(if k=f then (k,v)::r else (k,x)::gn f v r) from rfl]
    by_cases hk:k=f
    · rw[if_pos hk]
      subst hk
      exact⟨by simp,fun g h=>by simpa using h⟩
    · rw[if_neg hk]
      refine⟨?_,fun g h=>?_⟩
      · rw[List.map_cons]
        exact List.mem_cons_of_mem _ i1
      · rw[List.map_cons] at h ⊢
        rcases List.mem_cons.mp h with e | e
        · exact List.mem_cons.mpr (.inl e)
        · exact List.mem_cons_of_mem _ (i2 g e)
theorem pd (f:Str)(v:V): ∀fs:List (Str×V),(gn f v fs).length<=fs.length+1
  | []=>by simp[gn]
  | (k,x)::r=>by
    have ih:=pd f v r
    rw[show gn f v ((k,x)::r)=(if k=f then (k,v)::r else (k,x)::gn f v r) from rfl]
    by_cases hk:k=f
    · rw[if_pos hk,List.length_cons,List.length_cons];omega
    · rw[if_neg hk,List.length_cons,List.length_cons];omega
theorem fX.some_of {v:V}{o:Option Value}(r:fX (some v) o): ∃u,o=some u/\RelV v u:=by
  cases o with
  | none=>exact(show False from r).elim
  | some u=>exact⟨u,rfl,r⟩
theorem fX.none_of {o:Option Value}(r:fX none o): o=none:=by
  cases o with
  | none=>rfl
  | some u=>exact(show False from r).elim
theorem tM {v:V}{u:Value}(r:RelV v u): PySem.W.handedIn u=true:=by
  cases v with
  | non=>cases (show u=Value.none from r);rfl
  | bl b=>cases (show u=Value.bool b from r);rfl
  | int i=>obtain⟨t,e⟩:=(show ∃t,u=Value.int i t from r);cases e;rfl
  | str x=>obtain⟨t,e⟩:=(show ∃t,u=Value.str x t from r);cases e;rfl
  | byt b=>obtain⟨t,e⟩:=(show ∃t,u=Value.bytes b t from r);cases e;rfl
  | flt b=>obtain⟨t,e⟩:=(show ∃t,u=Value.float b t from r);cases e;rfl
  | ref a=>cases (show u=Value.ref a from r);rfl
  | ty n=>cases (show u=Value.type n from r);rfl
section
variable {P:Program}{w:World}{H H':Hp}{h h':Heap}{a C dx:Addr}{fs fs':List (Str×V)}
theorem qo (hok:HOk P w H h)(e:H a=some (.ins C dx fs)): ∃mA,xU h a dx C mA/\(∀f,fX (fs.lookup f) (mA f))/\PySem.Within mA (fs.map (·.1))/\fs.length<=1000/\H dx=some (.own a):=by
  obtain⟨d,z,ne,ob,mA,n,r,q⟩:=(show bJ P w H h a (.ins C dx fs) from hok a _ e)
  exact⟨mA,⟨ob,n,ne⟩,r,q,z,d⟩
end
structure Cls (K:PySem.W.Frag)(C:Addr): Prop where
  pg:PySem.W.plainGet K C Str.empty=true
  hd:PySem.W.hasDictIn K C=true
  po:PySem.W.plainOver K C=true
  sa:PySem.W.findIn K (.ref C) "__setattr__" = some (some (.builtin "object.__setattr__"))
theorem Cls.get {K:PySem.W.Frag}{C:Addr}(c:Cls K C)(f:Str): PySem.W.plainGet K C f=true:=c.pg
def cC (K:PySem.W.Frag)(C:Addr)(f:Str): Prop:=PySem.W.findIn K (.ref C) f=some none
theorem cC.taker {K:PySem.W.Frag}{C:Addr}{f:Str}(n:cC K C f): PySem.W.takerIn K C f=some none:=by
  unfold PySem.W.takerIn
  rw[show PySem.W.findIn K (.ref C) f=some none from n]
  rfl
structure Meth (K:PySem.W.Frag)(C:Addr)(m:Str)(f:Addr): Prop where
  at_:PySem.W.findIn K (.ref C) m=some (some (.ref f))
  fn:PySem.W.isFn K (.ref f)=true
  kp:PySem.W.keepIn K (.ref f)=true
section
variable {X:Cx}{pins:List (Addr×Obj)}{σ:St}{H:Hp}{s:Shared}{a C dx:Addr}{fs:List (Str×V)}{f:Str}{v:V}{A:Around}{E:Value->Shared->Prop}
theorem xV {b:Bool}{Q:Value->Shared->Prop}(I:Inv X pins σ H s)(e:H a=some (.ins C dx fs))(c:Cls X.K C)(n:cC X.K C f)(l:fs.lookup f=some v)
    (h:∀u s',Inv X pins σ H s'->RelV v u->Q u s'):wpAny (model X.prog X.w) A (getAttr (.ref a) f b) Q E s:=by
  obtain⟨mA,O,r,_,_,_⟩:=qo I.hok e
  obtain⟨u,hu,ru⟩:=fX.some_of (v:=v) (o:=mA f) (by rw[<-l];exact r f)
  exact get_map I.kIn O (c.get f) c.hd n hu (tM ru) (h u _ (I.tok _) ru)
theorem jD {m:Str}{g:Addr}{pl:Sem Bool}{Q:Value×List Value->Shared->Prop}(I:Inv X pins σ H s)(e:H a=some (.ins C dx fs))(c:Cls X.K C)(k:Meth X.K C m g)(l:fs.lookup m=none)
    (h:Q (.ref g,[.ref a]) s):wpAny (model X.prog X.w) A (getMethod (.ref a) m pl) Q E s:=by
  obtain⟨mA,O,r,_,_,_⟩:=qo I.hok e
  have hn:mA m=none:=fX.none_of (by rw[<-l];exact r m)
  exact Bo I.kIn O (c.get m) k.at_ k.fn hn h
theorem xW {y:V}{u:Value}{Q:Unit->Shared->Prop}(I:Inv X pins σ H s)(e:H a=some (.ins C dx fs))(c:Cls X.K C)(n:cC X.K C f)(hl:fs.length < 1000)(ry:RelV y u)
    (h:∀s',Inv X pins σ (upd H a (.ins C dx (gn f y fs))) s'->Q () s'):wpAny (model X.prog X.w) A (setAttr (.ref a) f u) Q E s:=by
  obtain⟨mA,O,r,wi,_,ho⟩:=qo I.hok e
  have hz:(fs.map (·.1)).length<=sizeLine:=by rw[List.length_map,sizeLine_eq];omega
  refine Dj I.kIn O c.sa c.po n.taker c.hd wi hz fun h' O' sb=>h _ ?_
  have hd:∃o,h'.get? dx=some o:=let ⟨o,_,_,e',_⟩:=O'.ns;⟨o,e'⟩
  refine I.write (x:=a) (e:=dx) (by rw[e];exact True.intro) (.inr ho) (fun b q hb z=>(sb.2 b hb).trans z) hd ?_
  refine⟨by rw[av O.ne];exact ho,?_,O.ne,O'.obj,_,O'.ns,fun g=>?_,fun g hg=>?_⟩
  · have:=pd f y fs;omega
  · show fX ((gn f y fs).lookup g) (if g=f then some u else mA g)
    rw[dw]
    by_cases q:g=f
    · rw[if_pos q,if_pos q];exact ry
    · rw[if_neg q,if_neg q];exact r g
  · by_cases q:g=f
    · rw[q];exact(jq f y fs).1
    · refine(jq f y fs).2 g (wi g fun z=>hg ?_)
      show (if g=f then some u else mA g)=none
      rw[if_neg q];exact z
theorem Inv.made (I:Inv X pins σ H s): Inv X pins σ (upd (upd H s.heap.objs.size (.own (s.heap.objs.size+1))) (s.heap.objs.size+1) (.ins C s.heap.objs.size []))
    { s with heap:=(s.heap.push PySem.W.emptyDict).push (PySem.W.instObj C s.heap.objs.size) }:=by
  have e1:(s.heap.push PySem.W.emptyDict).get? s.heap.objs.size=some PySem.W.emptyDict:=Heap.get?_push_size s.heap rfl
  have e2:((s.heap.push PySem.W.emptyDict).push (PySem.W.instObj C s.heap.objs.size)).get? (s.heap.objs.size+1)=some (PySem.W.instObj C s.heap.objs.size):=by
    have:=Heap.get?_push_size (s.heap.push PySem.W.emptyDict) (o:=PySem.W.instObj C s.heap.objs.size) rfl
    rwa [Heap.size_push] at this
  have e3:(s.heap.push PySem.W.emptyDict).Ns s.heap.objs.size (fun _=>none):=⟨PySem.W.emptyDict,#[],_,e1,rfl,(fun e he=>absurd he (by simp)),fun _=>rfl⟩
  have I1:=I.laid (a:=s.heap.objs.size) (o:=.own (s.heap.objs.size+1)) (h':=s.heap.push PySem.W.emptyDict) (t':=s.toks) (fun b u q=>Heap.get?_push_of_some _ q) (Nat.le_refl _) ⟨_,e1⟩
  refine I1.laid (a:=s.heap.objs.size+1) (o:=.ins C s.heap.objs.size []) (t':=s.toks) (fun b u q=>Heap.get?_push_of_some _ q) (Nat.le_of_eq (Heap.size_push _ _)) ?_
  have ne:s.heap.objs.size≠s.heap.objs.size+1:=Nat.ne_of_lt (Nat.lt_succ_self _)
  refine⟨by rw[av ne,aj],Nat.zero_le _,ne,e2,fun _=>none,(Heap.Ns1.of_empty e3).at fun o q=>Heap.get?_push_of_some _ q,fun _=>True.intro,fun y hy=>absurd rfl hy⟩
theorem yN {prog:Program}{w:World}{env:Env}{e:Expr}{f:Str}{pos:Pos}{s:Shared}{Q:Value->Shared->Prop}(hb:attributeBase e f env (eval e env)=eval e env)
    (h:wpAny (model prog w) A (eval e env) (fun o s₁=>wpAny (model prog w) A (getAttr o f true) Q E s₁) E s):wpAny (model prog w) A (eval (.Attribute e f pos) env) Q E s :=
  Attribute_any_ h (by rw[arm_eval_Attribute,hb])
end
def F0 (K:PySem.W.Frag)(ta:TE)(f:Str): TE:=fun σ H Q=>ta σ H fun x H1=>∃a C dx fs v,x=.ref a/\H1 a=some (.ins C dx fs)/\Cls K C/\cC K C f/\fs.lookup f=some v/\Q v H1
def G9 (K:PySem.W.Frag)(ta tv:TE)(f:Str): TS:=fun D σ H=>tv σ H fun y H1=>ta σ H1 fun x H2=>∃a C dx fs,x=.ref a/\H2 a=some (.ins C dx fs)/\Cls K C/\cC K C f/\fs.length < 1000 ∧
  D.nx σ (upd H2 a (.ins C dx (gn f y fs)))
section
variable {X:Cx}{o e value:Expr}{f:Str}{pos pos' tpos:Pos}{ta tv:TE}
theorem bg (he:PE X e ta)(hb:attributeBase e f X.env (eval e X.env)=eval e X.env): PE X (.Attribute e f pos) (F0 X.K ta f):=by
  intro pins s σ H Q I h
  refine yN hb (thn (he pins s σ H _ I h) fun u s1 ⟨x,H1,I1,rx,a,C,dx,fs,v,ex,ea,c,n,l,q⟩=>?_)
  subst ex
  obtain rfl:u=Value.ref a:=rx
  exact xV I1 ea c n l fun u' s2 I2 ru=>⟨v,H1,I2,ru,q⟩
theorem gp (ha:PE X o ta)(hv:PE X value tv)(hs:swapsWith value (some (.Attribute o f pos')) pos.line X.env=pure false): PS X (.Assign [.Attribute o f pos'] value pos) (G9 X.K ta tv f):=by
  intro pins s σ H D I h
  refine plainObj_wpAny_Assign_Attribute (thn (hv pins s σ H _ I h) fun u s1 ⟨y,H1,I1,ry,q⟩=>thn (ha pins s1 σ H1 _ I1 q) fun ov s2 ⟨x,H2,I2,rx,a,C,dx,fs,ex,ea,c,n,l,q2⟩=>?_) hs
  subst ex
  obtain rfl:ov=Value.ref a:=rx
  exact xW I2 ea c n l ry fun s3 I3=>⟨σ,_,I3,q2⟩
end
section
variable {X:Cx}{pins:List (Addr×Obj)}{σ:St}{H:Hp}{s:Shared}{A:Around}{E:Value->Shared->Prop}{Q:Value->Shared->Prop}{c:Value}{b:Bool}
inductive aF (K:PySem.W.Frag)(H:Hp): V->Value->Prop where
  | non:aF K H .non (.type "NoneType")
  | bl (x:Bool):aF K H (.bl x) (.type "bool")
  | int (i:Int):aF K H (.int i) (.type "int")
  | str (x:Str):aF K H (.str x) (.type "str")
  | flt (x:UInt64):aF K H (.flt x) (.type "float")
  | lst {a:Addr} {xs:List V} (e:H a=some (.lst xs)):aF K H (.ref a) (.type "list")
  | frz {a:Addr} {o:Obj} {xs:List V} (e:H a=some (.frz o (.lst xs))):aF K H (.ref a) (.type "list")
  | tup {a:Addr} {xs:List V} (e:H a=some (.tup xs)):aF K H (.ref a) (.type "tuple")
  | dK {a:Addr} {kvs:List (Key×V)} (e:H a=some (.dK kvs)):aF K H (.ref a) (.type "dict")
  | dT {a:Addr} {kvs:List (List Key×V)} (e:H a=some (.dT kvs)):aF K H (.ref a) (.type "dict")
  | ins {a C dx:Addr} {fs:List (Str×V)} (e:H a=some (.ins C dx fs)) (cl:Cls K C) (ha:PySem.W.findIn K (.ref C) "__class__" = some (some (.builtin "object.__class__")))
      (hn:PySem.W.specialIn K (.builtin "object.__class__") "__get__" = some (some (.builtin "getset_descriptor.__get__"))) (htk:PySem.W.takesIn K (.builtin "object.__class__")=some true)
      (hm:PySem.W.mroIn K C (.type "object")=some true):aF K H (.ref a) (.ref C)
end
end L2
namespace L2
open PySem PySem.Spec PyProof.Rows
structure dC (k:Nat)(A:Around): Prop where
  hd:A.handled=none
  dp:A.depth+3*k+5 < recursionLimit
  un:A.units+16*k+200 < cLine
theorem dC.mono {j k:Nat}{A:Around}(r:dC k A)(h:j<=k): dC j A:=⟨r.hd,by have:=r.dp;omega,by have:=r.un;omega⟩
theorem dC.deeper {k:Nat}{A:Around}(r:dC (k+1) A)(env:Env): dC k (A.deeper env) :=
  ⟨r.hd,by have:=r.dp;show A.depth+1+3*k+5 < _;omega,by have:=r.un;show A.units+3+16*k+200 < _;omega⟩
theorem xX {A:Around}{C:Addr}{us:List Value}{kw:List (Str×Value)}: (A.under (.builtin "type.__call__" ⟨.ref C::us,kw⟩)).depth=A.depth+1:=by
  first | rfl | simp[Around.under,Code.weight,Code.isCreation,Code.isGuard,Code.isCaller,Code.frames,Code.isFrame,guardIds]
theorem xY {A:Around}{C:Addr}{us:List Value}{kw:List (Str×Value)}: (A.under (.builtin "type.__call__" ⟨.ref C::us,kw⟩)).units=A.units+1:=by
  first | rfl | simp[Around.under,Code.cUnits,Code.frames,Code.isFrame]
theorem dC.make {k:Nat}{A:Around}(r:dC (k+1) A)(C:Addr)(us:List Value)(kw:List (Str×Value)): dC k (A.under (.builtin "type.__call__" ⟨.ref C::us,kw⟩)) :=
  ⟨r.hd,by have:=r.dp;rw[xX];omega,by have:=r.un;rw[xY];omega⟩
theorem dC.depth {k:Nat}{A:Around}(r:dC k A): A.depth < recursionLimit:=by have:=r.dp;omega
theorem dC.units {k:Nat}{A:Around}(r:dC k A): A.units+64 < cLine:=by have:=r.un;omega
def zS:TA:=fun _ H Q=>Q [] H
def Ei (ta:TE)(tr:TA): TA:=fun σ H Q=>ta σ H fun x H1=>tr σ H1 fun xs H2=>Q (x::xs) H2
section
variable {X:Cx}{e:Expr}{es:List Expr}{te:TE}{t:TA}{pos:Pos}
theorem af:PA X [] zS:=fun _ _ _ _ H Q I h=>Calls.spliced_nil ⟨[],H,I,.nil,h⟩
theorem mQ (ha:PE X e te)(hr:PA X es t)(hs:starEach (e::es) X.env=(false,eval e X.env)::starEach es X.env:=by rfl): PA X (e::es) (Ei te t):=by
  intro pos pins s σ H Q I h
  rw[hs]
  show wpAny _ _ (spliced ((false,eval e X.env)::backTo pos (starEach es X.env))) _ _ s
  refine Calls.spliced_cons (thn (ha pins s σ H _ I h) fun u s1 ⟨x,H1,I1,r1,q1⟩=>?_)
  exact thn (hr pos pins s1 σ H1 _ I1 q1) fun us s2 ⟨xs,H2,I2,r2,q2⟩=>⟨x::xs,H2,I2,.cons r1 r2,q2⟩
def G_ (t:TA): TE:=fun σ H Q=>t σ H fun xs H1=>xs.length<=sizeLine/\∀p,H1 p=none->Q (.ref p) (upd H1 p (.tup xs))
def Ha (t:TA): TE:=fun σ H Q=>t σ H fun xs H1=>xs.length<=sizeLine/\∀p,H1 p=none->Q (.ref p) (upd H1 p (.lst xs))
theorem c8 {x1}(h:PA X es t): PE X (.Tuple es x1 pos) (G_ t):=by
  intro pins s σ H Q I hq
  refine wpAny_Tuple_spliced (thn (h pos pins s σ H _ I hq) fun us s1 ⟨xs,H1,I1,r,z,q⟩=>⟨by rw[<-r.length];exact z,?_⟩)
  have hf:H1 s1.heap.objs.size=none:=I1.hok.fresh (Nat.le_refl _)
  refine⟨.ref s1.heap.objs.size,upd H1 s1.heap.objs.size (.tup xs),I1.laid (t':=s1.toks) (fun b u e=>Heap.get?_push_of_some _ e) (Nat.le_refl _) ?_,rfl,q _ hf⟩
  exact⟨z,us,r,⟨_,Heap.get?_push_size _ rfl,rfl,_,rfl⟩⟩
theorem eh (h:PA X es t): PE X (.List es pos) (Ha t):=by
  intro pins s σ H Q I hq
  refine wpAny_List_spliced (thn (h pos pins s σ H _ I hq) fun us s1 ⟨xs,H1,I1,r,z,q⟩=>⟨by rw[<-r.length];exact z,?_⟩)
  have hf:H1 s1.heap.objs.size=none:=I1.hok.fresh (Nat.le_refl _)
  refine⟨.ref s1.heap.objs.size,upd H1 s1.heap.objs.size (.lst xs),I1.laid (t':=s1.toks) (fun b u e=>Heap.get?_push_of_some _ e) (Nat.le_refl _) ?_,rfl,q _ hf⟩
  exact⟨z,us,0,r,Heap.get?_push_size _ rfl⟩
end
abbrev Sp:=List V->Hp->VK->XK->Prop
abbrev CXT:=List Env->Hp->Shared->XK->Value->Shared->Prop
structure xZ (P:Program)(w:World)(K:PySem.W.Frag)(mg:Str->Option Value)(base:Heap)(A:Around)(outer:List Env)(s:Shared)(H:Hp): Prop where
  frames:A.frames=some outer
  mod:Mod K mg base
  bs:∀b o,base.get? b=some o->s.heap.get? b=some o/\H b=none
  bsz:base.objs.size<=s.heap.objs.size
  pK:s.heap.FunFrames base outer
  frf:∀b∈frs outer,H b=none
  hok:HOk P w H s.heap
  bare:AllBare s.gens
def CE (outer:List Env)(P:Program)(w:World)(H:Hp)(s:Shared)(Q:VK)(u:Value)(s':Shared): Prop :=
  ∃v H',s'.os=s.os/\AllBare s'.gens/\Un (frs outer) [] H H' s.heap s'.heap/\HOk P w H' s'.heap/\RelV v u/\Q v H'
def CR (CX:CXT)(outer:List Env)(P:Program)(w:World)(H:Hp)(s:Shared)(Q:VK)(E:XK)(r:Result)(s':Shared): Prop :=
  match r with
  | .ok (.ret u)=>CE outer P w H s Q u s'
  | .ok _=>False
  | .error e=>CX outer H s E e s'
structure fY (P:Program)(w:World)(K:PySem.W.Frag)(mg:Str->Option Value)(base:Heap)(CX:CXT)(k:Nat)(f:Addr)(fd:FuncData)(ps:List Str)(sp:Sp): Prop where
  len:∀vs H Q E,sp vs H Q E->vs.length=ps.length
  run:∀(A:Around) (outer:List Env) (s:Shared) (H:Hp) (args:Args) (us:List Value) (vs:List V) (Q:VK) (E:XK),dC k A->xZ P w K mg base A outer s H->BindsTo s fd args (ps.zip us)->Vals vs us->sp vs H Q E ->
    codeAny (model P w) A (.call (.ref f) args) (CR CX outer P w H s Q E) s
theorem xZ.make {P:Program}{w:World}{K:PySem.W.Frag}{mg:Str->Option Value}{base:Heap}{A:Around}{outer:List Env}{s:Shared}{H:Hp}(e:xZ P w K mg base A outer s H)(C:Addr)(us:List Value)(kw:List (Str×Value)):
    xZ P w K mg base (A.under (.builtin "type.__call__" ⟨.ref C::us,kw⟩)) outer s H:=⟨by first | exact e.frames | (simpa [Around.under,Code.envs,Code.isFrame,pushEnvs] using e.frames),e.mod,e.bs,e.bsz,e.pK,e.frf,e.hok,e.bare⟩
section
variable {X:Cx}{pins:List (Addr×Obj)}{σ:St}{H:Hp}{s s':Shared}
theorem Inv.env0 (I:Inv X pins σ H s): xZ X.prog X.w X.K X.mg X.base X.A X.stack s H :=
  ⟨I.ok.frames,I.ok.mod,I.bs,Nat.le_trans I.ok.bsz I.sz,I.stack,I.uE,I.hok,I.bare⟩
theorem Inv.after {Q:VK}{u:Value}(I:Inv X pins σ H s)(h:CE X.stack X.prog X.w H s Q u s'): EP X pins σ Q u s':=by
  obtain⟨v,H',os,bare,un,hok,r,q⟩:=h
  obtain⟨hh,g,d,t,os'⟩:=s'
  obtain rfl:os'=s.os:=os
  exact⟨v,H',I.call (h':=hh) (g':=g) (d':=d) (t':=t) (ch:=[]) un hok bare (fun b z=>absurd z (by simp)),r,q⟩
end
def Binds (K:PySem.W.Frag)(fd:FuncData)(ps:List Str)(ds:List Value): Prop :=
  ∀(s:Shared) (us:List Value),K.In s.heap->(us++ds).length=ps.length->BindsTo s fd ⟨us,[]⟩ (ps.zip (us++ds))
theorem Binds.all {K:PySem.W.Frag}{fd:FuncData}{ps:List Str}(h:∀us:List Value,us.length=ps.length->bindArgs fd ⟨us,[]⟩=pure (ps.zip us)): Binds K fd ps []:=fun s us _ hl=>by
  rw[List.append_nil] at hl ⊢
  exact .of_eq (h us hl)
section
variable {X:Cx}{CX:CXT}{k:Nat}{f C:Addr}{fd:FuncData}{ps:List Str}{sp:Sp}{dvs:List V}{ds:List Value}{E:XK}{x m:Str}{p pos apos:Pos}{e o:Expr}{es:List Expr}{ta:TE}{t:TA}
structure Mk (K:PySem.W.Frag)(C f:Addr): Prop where
  makes:PySem.W.makesIn K C=true
  init:PySem.W.findIn K (.ref C) "__init__" = some (some (.ref f))
  fn:PySem.W.isFn K (.ref f)=true
  kp:PySem.W.keepIn K (.ref C)=true
end
section
variable {X:Cx}{CX:CXT}{k:Nat}{f C:Addr}{fd:FuncData}{ps ks:List Str}{sp:Sp}{E:XK}{x m:Str}{p pos apos kpos:Pos}{e o:Expr}{es:List Expr}{kws:List Keyword}{te ta:TE}{t tk:TA}{nm:Option Str}
variable {g:List Value->List Value->List Value}{gV:List V->List V->List V}
end
structure aC (N P:List Str)(sc:Scope): Prop where
  kind:sc.kind=.function
  co:sc.isCoroutine=false
  gen:sc.isGenerator=false
  nd:N.Nodup
  pre:N.take P.length=P
  par:∀x∈P,sc.names.lookup x=some .local\/sc.names.lookup x=some .cell
  EZ:∀y∈sc.names,y.2≠.free
theorem tN {kindOf:Str->Option NameKind}{x:Str}: ∀{binds:List (Str×Value)} {m:Str->Option Value},(∀v,(x,v)∉binds)->bindL kindOf binds m x=m x
  | [],_,_=>rfl
  | (n,v)::r,m,h=>by
    unfold bindL
    rw[tN fun w hw=>h w (List.mem_cons_of_mem _ hw)]
    split
    · have:x≠n:=by rintro rfl;exact h v List.mem_cons_self
      simp[this]
    · rfl
theorem tO {kindOf:Str->Option NameKind}{x:Str}: ∀{binds:List (Str×Value)} {m:Str->Option Value},(∀v,(x,v)∉binds)->bindC kindOf binds m x=m x
  | [],_,_=>rfl
  | (n,v)::r,m,h=>by
    unfold bindC
    rw[tO fun w hw=>h w (List.mem_cons_of_mem _ hw)]
    split
    · rfl
    · have:x≠n:=by rintro rfl;exact h v List.mem_cons_self
      simp[this]
theorem tP {kindOf:Str->Option NameKind}{x:Str}{v:Value}: ∀{P:List Str} {vs:List Value} {i:Nat} {m:Str->Option Value},P.Nodup->P[i]?=some x->vs[i]?=some v->kindOf x=some .local ->
    bindL kindOf (P.zip vs) m x=some v
  | [],_,_,_,_,h,_,_=>by simp at h
  | _::_,[],_,_,_,_,h,_=>by simp at h
  | p::P,w::vs,0,m,nd,h1,h2,hk=>by
    simp at h1 h2;subst h1;subst h2
    show bindL kindOf ((p,w)::P.zip vs) m p=_
    unfold bindL
    rw[tN fun v hv=>(List.nodup_cons.mp nd).1 (List.of_mem_zip hv).1,if_pos hk]
    simp
  | p::P,w::vs,i+1,m,nd,h1,h2,hk=>by
    show bindL kindOf ((p,w)::P.zip vs) m x=_
    unfold bindL
    exact tP (i:=i) (List.nodup_cons.mp nd).2 (by simpa using h1) (by simpa using h2) hk
theorem tQ {kindOf:Str->Option NameKind}{x:Str}{v:Value}: ∀{P:List Str} {vs:List Value} {i:Nat} {m:Str->Option Value},P.Nodup->P[i]?=some x->vs[i]?=some v->kindOf x≠some .local ->
    bindC kindOf (P.zip vs) m x=some v
  | [],_,_,_,_,h,_,_=>by simp at h
  | _::_,[],_,_,_,_,h,_=>by simp at h
  | p::P,w::vs,0,m,nd,h1,h2,hk=>by
    simp at h1 h2;subst h1;subst h2
    show bindC kindOf ((p,w)::P.zip vs) m p=_
    unfold bindC
    rw[tO fun v hv=>(List.nodup_cons.mp nd).1 (List.of_mem_zip hv).1,if_neg hk]
    simp
  | p::P,w::vs,i+1,m,nd,h1,h2,hk=>by
    show bindC kindOf ((p,w)::P.zip vs) m x=_
    unfold bindC
    exact tQ (i:=i) (List.nodup_cons.mp nd).2 (by simpa using h1) (by simpa using h2) hk
def start (N:List Str)(vs:List V): St:=vs.map some++List.replicate (N.length-vs.length) none
def dJ (CX:CXT)(P:Program)(w:World)(K:PySem.W.Frag)(mg:Str->Option Value)(base:Heap)(N:List Str)(qual:Str)(scope:Scope)(f:Addr)(cd:Value)(A:Around)(outer:List Env)(s:Shared)(H:Hp)(E:XK): Cx where
  prog:=P
  w:=w
  K:=K
  mg:=mg
  base:=base
  A:=A.deeper (envOfC qual scope s.heap.objs.size f cd)
  N:=N
  s₀:=s
  H₀:=H
  env:=envOfC qual scope s.heap.objs.size f cd
  outer:=outer
  stack:=envOfC qual scope s.heap.objs.size f cd::outer
  ex:=[]
  calm:=true
  fn:=fun _=>true
  pn:=[]
  xe:=fun e s'=>wpAny (model P w) (A.deeper (envOfC qual scope s.heap.objs.size f cd)) (leaving (envOfC qual scope s.heap.objs.size f cd) e) (fun _ s''=>CX outer H s E e s'') (fun e' s''=>CX outer H s E e' s'') s'
theorem wj {sc:Scope}{n:Nat}{x:Str}(h:sc.names.lookup x=some .cell): ∃c,(cellsFrom n sc.names []).lookup x=some c:=by
  have q:=PySem.W.cellsFrom_some sc.names n [] (.inl h)
  exact Option.isSome_iff_exists.mp q
theorem zT {CX:CXT}{P:Program}{w:World}{K:PySem.W.Frag}{mg:Str->Option Value}{base:Heap}{N ps:List Str}{qual:Str}{scope:Scope}{f:Addr}{cd:Value}{A:Around}{outer:List Env}{s s1:Shared}{H:Hp}{E:XK}{us:List Value}{vs:List V}
    (S:aC N ps scope) (hd:A.handled=none) (e0:xZ P w K mg base A outer s H) (hl:vs.length=ps.length) (r:Vals vs us)
    (x:InCallC s s.heap.objs.size (bindL (envOfC qual scope s.heap.objs.size f cd).kindOf (ps.zip us) fun _=>none) (cellsFrom (s.heap.objs.size+1) scope.names []) (bindC (envOfC qual scope s.heap.objs.size f cd).kindOf (ps.zip us) fun _=>none) s1) :
    Inv (dJ CX P w K mg base N qual scope f cd A outer s H E) [] (start N vs) H s1:=by
  have hpl:ps.length<=N.length:=by have:=congrArg List.length S.pre;rw[List.length_take] at this;omega
  obtain⟨h1,tk,rfl,hk⟩:=x.done
  have noA:∀b:Addr,b∉(dJ CX P w K mg base N qual scope f cd A outer s H E).ex:=fun b z=>absurd (show b∈([]:List Addr) from z) (by simp)
  refine⟨⟨e0.mod,S.kind,rfl,rfl,Nat.le_refl _,fun y z c h1 h2=>?_,fun y hy=>?_,fun y c _ h=>?_,fun _=>hd,Around.frames_deeper e0.frames,.inr ⟨rfl,rfl⟩,fun b z=>absurd z (noA b),e0.bs,e0.bsz,fun b _ _=>noA b,fun b z=>absurd z (noA b),e0.pK,e0.frf⟩,
    rfl,e0.bare,Un.kept hk,⟨_,x.toInCall.ns,fun i y v h1 h2 h3=>?_⟩,fun y c h=>⟨_,x.cell y c h⟩,e0.hok.fresh (Nat.le_refl _),fun y c h=>?_,fun p hp=>absurd (show p∈([]:List (Addr×Obj)) from hp) (by simp),e0.hok.kept hk,?_⟩
  · exact name_of_addr x.apart (PySem.mem_of_lookup h1) (PySem.mem_of_lookup h2)
  · have hy:scope.names.lookup y=some .cell\/scope.names.lookup y=some .free:=hy
    rcases hy with hy | hy
    · exact wj hy
    · exact absurd rfl (S.EZ _ (PySem.mem_of_lookup hy))
  · exact Nat.le_of_lt (x.above y c (PySem.mem_of_lookup h))
  · have hi:i < vs.length:=by
      unfold start at h2
      by_cases hi:i < vs.length
      · exact hi
      · rw[List.getElem?_append_right (by simpa using hi)] at h2
        rw[List.getElem?_replicate] at h2
        split at h2<;>cases h2
    have ha:vs[i]?=some v:=by
      unfold start at h2
      rw[List.getElem?_append_left (by simpa using hi),List.getElem?_map] at h2
      cases e:vs[i]? with
      | none=>rw[e] at h2;cases h2
      | some a=>rw[e] at h2;cases h2;rfl
    obtain⟨u,hu,rv⟩:=r.get ha
    have hp:ps[i]?=some y:=by
      rw[<-S.pre,List.getElem?_take_of_lt (by omega)];exact h1
    have ndP:ps.Nodup:=by rw[<-S.pre];exact S.nd.sublist (List.take_sublist _ _)
    refine⟨u,rv,?_⟩
    rcases S.par y (List.mem_of_getElem? hp) with k | k
    · exact .inl ⟨k,tP ndP hp hu k⟩
    · obtain⟨c,e⟩:=wj (n:=s.heap.objs.size+1) k
      refine .inr ⟨.inl k,c,e,?_⟩
      have q:=x.cell y c e
      rw[tQ ndP hp hu (by show scope.names.lookup y≠_;rw[k];decide)] at q
      exact q
  · exact e0.hok.fresh (Nat.le_of_lt (x.above y c (PySem.mem_of_lookup h)))
  · unfold start
    show _=N.length
    rw[List.length_append,List.length_map,List.length_replicate]
    omega
theorem pf {CX:CXT}{P:Program}{w:World}{K:PySem.W.Frag}{mg:Str->Option Value}{base:Heap}{k:Nat}{f:Addr}{name qual:Str}{params:Arguments}{body:List Stmt}{scope:Scope}{dV kV doc pm cdv ct oc:Value}{an od:Option Addr}
    {osl:Array (Option Value)} {N ps:List Str} {sp:Sp} (lk:K.lookup f=some ⟨oc,od,.func (PySem.W.fnOf name qual params body scope dV kV doc pm an cdv ct),osl⟩) (hcd:PySem.W.codeIn K cdv qual=true) (S:aC N ps scope)
    (len:∀vs H Q E,sp vs H Q E->vs.length=ps.length)
    (hbody:∀(A:Around) (outer:List Env) (s:Shared) (H:Hp) (vs:List V) (Q:VK) (E:XK),dC k (A.deeper (envOfC qual scope s.heap.objs.size f cdv))->sp vs H Q E ->
      ∃t,PSs (dJ CX P w K mg base N qual scope f cdv A outer s H E) body t/\t { nx:=fun _ H'=>Q .non H',rt:=Q } (start N vs) H) :
    fY P w K mg base CX (k+1) f (PySem.W.fnOf name qual params body scope dV kV doc pm an cdv ct) ps sp:=by
  refine⟨len,fun A outer s H args us vs Q E hr e0 hb r hsp=>?_⟩
  have hl:=len _ _ _ _ hsp
  have KX:K.In s.heap:=e0.mod.kin.keeps fun b o e=>(e0.bs b o e).1
  have lim:s.heap.NoLimit:=e0.mod.nolimit.keeps fun b o e=>(e0.bs b o e).1
  have hkind:∀y∈ps.zip us,scope.names.lookup y.1=some .local\/(scope.names.lookup y.1=some .cell/\((cellsFrom (s.heap.objs.size+1) scope.names []).lookup y.1).isSome=true):=fun ⟨n,v⟩ hy=>by
    rcases S.par n (List.of_mem_zip hy).1 with q | q
    · exact .inl q
    · exact .inr ⟨q,PySem.W.cellsFrom_some _ _ _ (.inl q)⟩
  refine codeAny_call_function hr.depth (KX _ _ lk) rfl S.co S.gen rfl (PySem.W.codeRec_of KX hcd) (hb _ _ _ _ ?_)
  refine wpAny_newFunctionEnv_cells S.kind hkind fun env he s1 x=>?_
  subst he
  refine⟨lim.keeps x.toInCall.keep,codeAny_func ?_⟩
  obtain⟨t,ht,hq⟩:=hbody A outer s H vs Q E (hr.deeper _) hsp
  have I:Inv (dJ CX P w K mg base N qual scope f cdv A outer s H E) [] (start N vs) H s1:=zT S hr.hd e0 hl r x
  refine wpAny_mono (ht [] s1 (start N vs) H _ I hq) (fun fl s' hs=>?_) fun e s' hs=>hs
  have fin:∀{σ':St} {H':Hp} {v:V} {u:Value},Inv (dJ CX P w K mg base N qual scope f cdv A outer s H E) [] σ' H' s'->RelV v u->Q v H'->CE outer P w H s Q u s' :=
    fun {σ' H' v u} J rv q=>⟨v,H',J.os,J.bare,J.base,J.hok,rv,q⟩
  cases fl with
  | ret u =>
    obtain⟨v,σ',H',J,rv,q⟩:=hs
    exact fin J rv q
  | next =>
    obtain⟨σ',H',J,q⟩:=hs
    exact fin (v:=V.non) (u:=Value.none) J rfl q
  | brk =>
    obtain⟨_,_,_,q⟩:=hs
    exact False.elim q
  | cont =>
    obtain⟨_,_,_,q⟩:=hs
    exact False.elim q
end L2
namespace L2
open PySem PySem.Spec PyProof.Rows
section
variable {X:Cx}{x:Str}{p pos:Pos}{e:Expr}{es:List Expr}{t:TA}{id T:String}{r:List V->Hp->VK->Prop}
def tCB (r:List V->Hp->VK->Prop)(t:TA): TE:=fun σ H Q=>t σ H fun vs H1=>r vs H1 Q
theorem aH (hc:eZ X (.builtin id) r) (hg:Gl X x) (hm:X.mg x=none) (hv:bootBuiltins x=some (.builtin id)) (ha:PA X (e::es) t) (hn:x ≠ "__name__" := by decide) (hdb:(x==("__debug__" : Str))=false:=by decide)
    (he:starEach (e::es) X.env=(false,eval e X.env)::starEach es X.env:=by rfl) (hpl:(backTo pos (starEach es X.env)).any (·.1)=false:=by rfl):PE X (.Call (.Name x p) (e::es) [] pos) (tCB r t):=by
  intro pins s σ H Q I h
  refine wpAny_Call_Name_kw (gm I hg hm hv ?_ hn hdb)
  exact PyProof.Rows.callWith_builtin1 (thn (ha pos pins s σ H _ I h) fun us s1 ⟨vs,H1,I1,r1,q1⟩=>hc pins s1 σ H1 vs us Q I1 r1 q1) he hpl
theorem jt (hc:eZ X (.type T) r) (hg:Gl X x) (hm:X.mg x=none) (hv:bootBuiltins x=some (.type T)) (ha:PA X (e::es) t) (hn:x ≠ "__name__" := by decide) (hdb:(x==("__debug__" : Str))=false:=by decide)
    (he:starEach (e::es) X.env=(false,eval e X.env)::starEach es X.env:=by rfl) (hpl:(backTo pos (starEach es X.env)).any (·.1)=false:=by rfl):PE X (.Call (.Name x p) (e::es) [] pos) (tCB r t):=by
  intro pins s σ H Q I h
  refine wpAny_Call_Name_kw (gm I hg hm hv ?_ hn hdb)
  exact PyProof.Rows.callWith_type1 (thn (ha pos pins s σ H _ I h) fun us s1 ⟨vs,H1,I1,r1,q1⟩=>hc pins s1 σ H1 vs us Q I1 r1 q1) he hpl
end
end L2
namespace HT
open PySem PyProof.Rows
section
open PySem.SeqAt
open PySem.AutoSeq1 (wpAny_loadPart')
open PySem.MeetsSeq PySem.MeetsSeq2 PySem.MeetsSeq3
end
section
variable {prog:Program}{w:World}{A:Around}{E:Value->Shared->Prop}{s:Shared}
theorem Dk {t b:Addr}{vs ws:List Value}{Q:Value->Shared->Prop}(ht:IsTup s.heap t vs.toArray)(hb:IsTup s.heap b ws.toArray)(hv:vs≠[])
    (h1:ws=[]->Q (.ref t) s) (h2:ws≠[]->Q (.ref s.heap.objs.size) { s with heap:=s.heap.push { cls:=.type "tuple",data:=.seq (vs++ws).toArray } })
    (hsz:vs.length+ws.length<=sizeLine):wpAny (model prog w) A (binaryOp .Add (.ref t) (.ref b)) Q E s:=by
  obtain⟨⟨cls,dd,data,sl⟩,ho,hc,n,hd⟩:=id ht
  obtain⟨⟨cls2,dd2,data2,sl2⟩,ho2,hc2,n2,hd2⟩:=id hb
  simp only at hc hd hc2 hd2
  subst hc hd hc2 hd2
  have e:vs.toArray++ws.toArray=(vs++ws).toArray:=by simp
  by_cases hw:ws=[]
  · exact concat_meets ⟨_,ho,rfl⟩ ⟨_,ho2,rfl⟩ noFill_tuple_add seq_tuple_add PySem.F.slot_tuple_add PySem.F.entry_tuple_add (PySem.F.args_tuple_add_2 _ _)
      (tuple_addW1 t b vs.toArray ws.toArray n n2 dd dd2 sl sl2 (by simpa using hv) (by simp[hw])) ⟨ho,ho2,h1 hw⟩
  · refine concat_meets ⟨_,ho,rfl⟩ ⟨_,ho2,rfl⟩ noFill_tuple_add seq_tuple_add PySem.F.slot_tuple_add PySem.F.entry_tuple_add (PySem.F.args_tuple_add_2 _ _)
      (tuple_addW2 t b vs.toArray ws.toArray n n2 dd dd2 sl sl2 (by simpa using hv) (by simpa using hw) (by rw[List.size_toArray,List.size_toArray];exact hsz)) ⟨ho,ho2,?_⟩
    rw[e]
    exact h2 hw
def sIx (n d:Nat): Option Int->Nat
  | none=>d
  | some v=>if v < 0 then (v+(n:Int)).toNat else min v.toNat n
theorem wk (n d:Nat): sIx n d none=d:=rfl
theorem Dl (n d k:Nat): sIx n d (some (k:Int))=min k n:=by
  show (if (k:Int) < 0 then ((k:Int)+(n:Int)).toNat else min (k:Int).toNat n)=min k n
  rw[if_neg (by omega),Int.toNat_natCast]
theorem E1 (n d:Nat)(hd:d<=n)(o:Option Int): sIx n d o<=n:=by
  cases o with
  | none=>exact hd
  | some v =>
    show (if v < 0 then (v+(n:Int)).toNat else min v.toNat n)<=n
    by_cases hv:v < 0
    · rw[if_pos hv];omega
    · rw[if_neg hv];exact Nat.min_le_right _ _
theorem yO (v:Int)(n d:Nat): (if v < 0 then max (v+(n:Int)) 0 else min v (n:Int))=((sIx n d (some v):Nat):Int):=by
  show (if v < 0 then max (v+(n:Int)) 0 else min v (n:Int))=(((if v < 0 then (v+(n:Int)).toNat else min v.toNat n):Nat):Int)
  by_cases hv:v < 0
  · simp only [if_pos hv];omega
  · simp only [if_neg hv];omega
theorem x0 (lo hi:Option Int)(n:Nat): Builtin.Slice.sliceAdjust lo hi 1 (n:Int)=(((sIx n 0 lo:Nat):Int),((sIx n n hi:Nat):Int)):=by
  have h1:¬((1:Int) < 0):=by omega
  unfold Builtin.Slice.sliceAdjust
  simp only [h1,if_false]
  refine Prod.ext ?_ ?_
  · cases lo with
    | none=>rfl
    | some v=>exact yO v n 0
  · cases hi with
    | none=>rfl
    | some v=>exact yO v n n
theorem x4 (i j:Nat): Builtin.Slice.slicePlaces (i:Int) (j:Int) 1=j-i:=by
  unfold Builtin.Slice.slicePlaces
  have h1:(1:Int) > 0:=by omega
  simp only [h1,if_true,Int.ediv_one]
  split<;>omega
theorem qD {v:Value}{o:Option Int}{Q:Option Int->Shared->Prop}(p:IsPart v o)(h:Q o s): wpAny (model prog w) A (Builtin.Slice.slicePartIndex v) Q E s:=by
  cases p with
  | none=>exact slicePart_none h
  | int i t=>exact slicePart_int h
theorem og {sl:Addr}{vl vu:Value}{lo hi:Option Int}{n:Nat}{Q:Int×Int×Nat->Shared->Prop}(hs:s.heap.IsSliceOf sl vl vu .none)(pl:IsPart vl lo)(pu:IsPart vu hi)
    (h:Q (((sIx n 0 lo:Nat):Int),1,sIx n n hi-sIx n 0 lo) s):wpAny (model prog w) A (Builtin.Slice.sliceApplied (.ref sl) (pure (n:Int))) Q E s:=by
  obtain⟨os,hos,hcs,hds⟩:=id hs
  unfold Builtin.Slice.sliceApplied Builtin.Slice.sliceFields
  refine wpAny_bind (wpAny_bind (wpAny_field hos hds (x:=vl) rfl (wpAny_bind (wpAny_field hos hds (x:=vu) rfl (wpAny_bind (wpAny_field hos hds (x:=.none) rfl (wpAny_pure ?_)))))))
  refine wpAny_bind (slicePart_none ?_)
  show wpAny _ _ (if ((1:Int)==0)=true then _ else _) _ _ s
  rw[if_neg (by decide)]
  refine wpAny_bind (qD pl (wpAny_bind (qD pu (wpAny_bind (wpAny_pure ?_)))))
  show wpAny _ _ (match Builtin.Slice.sliceAdjust lo hi 1 (n:Int) with | (lo,hi)=>pure (lo,(1:Int),Builtin.Slice.slicePlaces lo hi 1)) _ _ s
  rw[x0 lo hi n]
  show wpAny _ _ (pure (((sIx n 0 lo:Nat):Int),(1:Int),Builtin.Slice.slicePlaces ((sIx n 0 lo:Nat):Int) ((sIx n n hi:Nat):Int) 1)) _ _ s
  rw[x4]
  exact wpAny_pure h
theorem Bq (xs:Array Value)(i k:Nat): ((List.range k).filterMap fun (m:Nat)=>xs[((i:Int)+(m:Int)*1).toNat]?).toArray=((xs.toList.drop i).take k).toArray:=by
  have e:(fun (m:Nat)=>xs[((i:Int)+(m:Int)*1).toNat]?)=fun m=>xs[i+m]?:=by
    funext m
    have:((i:Int)+(m:Int)*1).toNat=i+m:=by omega
    rw[this]
  rw[e]
  have:=pick_run xs i k
  rw[List.filterMap_map] at this
  have e2:((fun x=>xs[x]?) ∘ fun x=>i+x)=fun m=>xs[i+m]?:=rfl
  rw[e2] at this
  rw[this]
theorem mR {t sl:Addr}{items:Array Value}{vl vu:Value}{lo hi:Option Int}{Q:Value->Shared->Prop}(ht:IsTup s.heap t items)(hs:s.heap.IsSliceOf sl vl vu .none)(pl:IsPart vl lo)(pu:IsPart vu hi)
    (hw:¬(sIx items.size 0 lo=0/\sIx items.size items.size hi=items.size))
    (h:Q (.ref s.heap.objs.size) { s with heap:=s.heap.push { cls:=.type "tuple",data:=.seq ((items.toList.drop (sIx items.size 0 lo)).take (sIx items.size items.size hi-sIx items.size 0 lo)).toArray } })
    (hsz:items.size<=sizeLine):wpAny (model prog w) A (getItem (.ref t) (.ref sl)) Q E s:=by
  have yP:sizeOk (.seq ((items.toList.drop (sIx items.size 0 lo)).take (sIx items.size items.size hi-sIx items.size 0 lo)).toArray):=by
    show ((items.toList.drop (sIx items.size 0 lo)).take (sIx items.size items.size hi-sIx items.size 0 lo)).toArray.size<=sizeLine
    rw[List.size_toArray,List.length_take,List.length_drop,Array.length_toList]
    omega
  have hj:sIx items.size items.size hi<=items.size:=E1 _ _ (Nat.le_refl _) hi
  obtain⟨os,hos,hcs,hds⟩:=id hs
  have hTs:s.TypeIs (.ref sl) "slice" := ⟨os,hos,hcs⟩
  unfold getItem
  try with_reducible refine wpAny_holding ?_
  first | refine wpAny_bind (wpAny_pure ?_) | skip
  refine wpAny_bind (wpAny_sequenceKey ht.typeIs (by decide) ?_)
  refine wpAny_bind (wpAny_callSpecial?_slot (name:=Str.ofString "__getitem__") ht.typeIs PyProof.Rows.slot_tuple_getitem
    (wpAny_call_entry PyProof.Rows.slot_tuple_getitem ht.typeIs entry_tuple_getitem ?_ (args_tuple_getitem _ _)))
  show wpAny _ _ (Builtin.Tuple.tupleItemsOf (.ref t) >>= _) _ _ s
  refine wpAny_bind (tupleItemsOf_ ht ?_)
  refine wpAny_bind (wpAny_typeOf hTs ?_)
  rw[if_pos (by decide)]
  refine wpAny_bind (og hs pl pu ?_)
  have hno:¬((((sIx items.size 0 lo:Nat):Int)==0&&(1:Int)==1&&(sIx items.size items.size hi-sIx items.size 0 lo)==items.size)=true):=by
    intro q
    rw[Bool.and_eq_true,Bool.and_eq_true] at q
    have q1:((sIx items.size 0 lo:Nat):Int)=0:=eq_of_beq q.1.1
    have q2:sIx items.size items.size hi-sIx items.size 0 lo=items.size:=eq_of_beq q.2
    exact hw ⟨by omega,by omega⟩
  show wpAny _ _ (if (((sIx items.size 0 lo:Nat):Int)==0&&(1:Int)==1&&(sIx items.size items.size hi-sIx items.size 0 lo)==items.size)=true then _ else _) _ _ s
  rw[if_neg hno,Bq]
  first
    | exact wpAny_bind (m:=Builtin.Tuple.tupleExact _) (wpAny_newObj_type (wpAny_pure ⟨_,rfl,wpAny_pure h⟩) yP)
    | exact wpAny_bind (m:=Builtin.Tuple.tupleExact _) (wpAny_newObj_type (wpAny_bind (wpAny_pure (wpAny_pure ⟨_,rfl,wpAny_pure h⟩))) yP)
    | exact wpAny_bind (wpAny_bind (m:=Builtin.Tuple.tupleExact _) (wpAny_newObj_type (wpAny_pure (wpAny_pure ⟨_,rfl,wpAny_pure h⟩)) yP))
    | exact wpAny_bind (wpAny_bind (m:=Builtin.Tuple.tupleExact _) (wpAny_newObj_type (wpAny_pure ⟨_,rfl,wpAny_pure h⟩) yP))
end
end HT
namespace L2
open PySem PySem.Spec PyProof.Rows
abbrev TO:=St->Hp->(Option Int->Hp->Prop)->Prop
def PO (X:Cx)(e:Option Expr)(t:TO): Prop :=
  ∀(pins:List (Addr×Obj)) (s:Shared) (σ:St) (H:Hp) (Q:Option Int->Hp->Prop),Inv X pins σ H s->t σ H Q ->
    wpAny (model X.prog X.w) X.A (evalPart e X.env) (fun u s'=>∃o H',Inv X pins σ H' s'/\IsPart u o/\Q o H') X.xe s
def Dm:TO:=fun _ H Q=>Q none H
def F1 (t:TE): TO:=fun σ H Q=>t σ H fun x H1=>∃i,x=.int i/\Q (some i) H1
section
variable {X:Cx}{e:Expr}{te:TE}{lo hi:Option Expr}{tl th:TO}{pos p2:Pos}
theorem jE:PO X none Dm:=by
  intro pins s σ H Q I h
  rw[evalPart_none]
  exact wpAny_pure ⟨none,H,I,.none,h⟩
theorem gR (h:PE X e te): PO X (some e) (F1 te):=by
  intro pins s σ H Q I hw
  rw[evalPart_some]
  refine thn (h pins s σ H _ I hw) fun u s1 ⟨x,H1,I1,r1,q1⟩=>?_
  obtain⟨i,rfl,q⟩:=q1
  obtain⟨t,rfl⟩:=r1
  exact⟨some i,H1,I1,.int i t,q⟩
def SlR (X:Cx)(r:V->Option Int->Option Int->Hp->VK->Prop): Prop :=
  ∀(pins:List (Addr×Obj)) (s:Shared) (σ:St) (H:Hp) (x:V) (v vl vu:Value) (lo hi:Option Int) (sl:Addr) (Q:VK),Inv X pins σ H s->RelV x v->s.heap.IsSliceOf sl vl vu .none->IsPart vl lo->IsPart vu hi->r x lo hi H Q ->
    ∃T id,typeLookup (.type T) "__getitem__" = pure (some (.builtin id))/\s.TypeIs v T/\wpAny (model X.prog X.w) X.A (getItem v (.ref sl)) (EP X pins σ Q) X.xe s
def tSl (r:V->Option Int->Option Int->Hp->VK->Prop)(te:TE)(tl th:TO): TE:=fun σ H Q=>te σ H fun x H1=>tl σ H1 fun l H2=>th σ H2 fun u H3=>r x l u H3 Q
theorem fZ {r:V->Option Int->Option Int->Hp->VK->Prop}(hr:SlR X r)(he:PE X e te)(hl:PO X lo tl)(hu:PO X hi th): PE X (.Subscript e (.Slice lo hi none p2) pos) (tSl r te tl th):=by
  intro pins s σ H Q I h
  refine Subscript_ (thn (he pins s σ H _ I h) fun v s1 ⟨x,H1,I1,r1,q1⟩=>?_)
  refine wpAny_Slice (thn (hl pins s1 σ H1 _ I1 q1) fun vl s2 ⟨l,H2,I2,pl,q2⟩=>thn (hu pins s2 σ H2 _ I2 q2) fun vu s3 ⟨u,H3,I3,pu,q3⟩=>?_)
  rw[evalPart_none]
  refine wpAny_pure ?_
  have I4:Inv X pins σ H3 { s3 with heap:=s3.heap.push { cls:=.type "slice",data:=.fields #[vl,vu,.none] } }:=I3.kept (t':=s3.toks) fun b ob q=>Heap.get?_push_of_some _ q
  obtain⟨T,id,hT,ht,hg⟩:=hr pins { s3 with heap:=s3.heap.push { cls:=.type "slice",data:=.fields #[vl,vu,.none] } } σ H3 x v vl vu l u s3.heap.objs.size Q I4 r1 (Heap.IsSliceOf.new ..) pl pu q3
  show wpAny (model X.prog X.w) X.A (subscriptTail e (.Slice lo hi none p2) v (.ref s3.heap.objs.size)) (EP X pins σ Q) X.xe { s3 with heap:=s3.heap.push { cls:=.type "slice",data:=.fields #[vl,vu,.none] } }
  exact tail_any (ops:=[.ref s3.heap.objs.size,v]) ht hT hg (by with_unfolding_all rfl)
def lK (xs:List V)(lo hi:Option Int): List V:=(xs.drop (HT.sIx xs.length 0 lo)).take (HT.sIx xs.length xs.length hi-HT.sIx xs.length 0 lo)
theorem ph (xs:List V)(lo hi:Option Int): (lK xs lo hi).length<=xs.length:=by
  unfold lK
  rw[List.length_take,List.length_drop]
  omega
def Hb (K:PySem.W.Frag): V->Option Int->Option Int->Hp->VK->Prop:=fun x lo hi H Q=>∃a xs,x=.ref a/\SqT K H a xs ∧
  ¬(HT.sIx xs.length 0 lo=0/\HT.sIx xs.length xs.length hi=xs.length)/\∀p,H p=none->Q (.ref p) (upd H p (.tup (lK xs lo hi)))
theorem oh:SlR X (Hb X.K):=by
  intro pins s σ H x v vl vu lo hi sl Q I rx hs pl pu h
  obtain⟨a,xs,rfl,hx,hw,q⟩:=h
  cases rx
  obtain⟨its,r,ht,hz⟩:=I.tuple hx
  have hlen:its.toArray.size=xs.length:=by rw[List.size_toArray];exact r.length.symm
  refine⟨"tuple",_,PyProof.Rows.slot_tuple_getitem.lookup,ht.typeIs,?_⟩
  refine HT.mR ht hs pl pu (by rw[hlen];exact hw) ?_ (by rw[hlen];exact hz)
  rw[hlen]
  refine⟨.ref s.heap.objs.size,_,I.laid (t':=s.toks) (o:=.tup (lK xs lo hi)) (fun b ob q=>Heap.get?_push_of_some _ q) (Nat.le_refl _) ?_,rfl,q _ (I.hok.fresh (Nat.le_refl _))⟩
  exact⟨Nat.le_trans (ph xs lo hi) hz,_,(r.drop (HT.sIx xs.length 0 lo)).take (HT.sIx xs.length xs.length hi-HT.sIx xs.length 0 lo),IsTup.new _ _⟩
def F2 (K:PySem.W.Frag): R2:=fun x y H Q=>∃a b xs ys,x=.ref a/\y=.ref b/\SqT K H a xs/\SqT K H b ys/\xs≠[]/\xs.length+ys.length<=sizeLine ∧
  (ys=[]->Q (.ref a) H)/\(ys≠[]->∀p,H p=none->Q (.ref p) (upd H p (.tup (xs++ys))))
theorem Vals.uJ {xs:List V}{us:List Value}(r:Vals xs us): us=[]↔xs=[]:=by
  cases r with
  | nil=>simp
  | cons _ _=>simp
theorem yQ:OpR X (binaryOp .Add) (F2 X.K):=by
  intro pins s σ H x y v u Q I rx ry h
  obtain⟨a,b,xs,ys,rfl,rfl,ha,hb,hx,hz,q1,q2⟩:=h
  cases rx
  cases ry
  obtain⟨its,r1,p1,_⟩:=I.tuple ha
  obtain⟨its2,r2,p2,_⟩:=I.tuple hb
  refine HT.Dk p1 p2 (fun z=>hx (r1.uJ.mp z)) (fun z=>⟨.ref a,H,I,rfl,q1 (r2.uJ.mp z)⟩) (fun z=>?_) (by rw[<-r1.length,<-r2.length];exact hz)
  refine⟨.ref s.heap.objs.size,_,I.laid (t':=s.toks) (o:=.tup (xs++ys)) (fun b ob q=>Heap.get?_push_of_some _ q) (Nat.le_refl _) ?_,rfl,q2 (fun w=>z (r2.uJ.mpr w)) _ (I.hok.fresh (Nat.le_refl _))⟩
  exact⟨by rw[List.length_append];exact hz,_,r1.append r2,IsTup.new _ _⟩
end
end L2
namespace L2
open PySem PySem.Spec PyProof.Rows
def ixN (n:Nat)(i:Int): Option Nat:=if 0<=i then (if i < n then some i.toNat else none) else if -(n:Int)<=i then some (i+n).toNat else none
def atI {α:Type}(xs:List α)(i:Int): Option α:=(ixN xs.length i).bind fun j=>xs[j]?
theorem Dp {n:Nat}{i:Int}{j:Nat}(h:ixN n i=some j): seqIndex? i n=some j/\j < n/\-(n:Int)<=i/\i < n:=by
  unfold ixN at h
  by_cases h0:0<=i
  · rw[if_pos h0] at h
    by_cases h1:i < n
    · rw[if_pos h1] at h
      have e:i.toNat=j:=Option.some.inj h
      exact⟨by rw[seqIndex_of h0 h1,e],by omega,by omega,h1⟩
    · rw[if_neg h1] at h;cases h
  · rw[if_neg h0] at h
    by_cases h1:-(n:Int)<=i
    · rw[if_pos h1] at h
      have e:(i+n).toNat=j:=Option.some.inj h
      exact⟨by rw[seqIndex_neg (by omega) h1,e],by omega,h1,by omega⟩
    · rw[if_neg h1] at h;cases h
theorem uK {α:Type}{xs:List α}{i:Int}{v:α}(h:atI xs i=some v): ∃j,seqIndex? i xs.length=some j/\xs[j]?=some v/\j < xs.length/\-(xs.length:Int)<=i/\i < xs.length:=by
  unfold atI at h
  cases e:ixN xs.length i with
  | none=>rw[e] at h;cases h
  | some j =>
    rw[e] at h
    obtain⟨h1,h2,h3,h4⟩:=Dp e
    exact⟨j,h1,h,h2,h3,h4⟩
theorem dN {α:Type}{xs:List α}{j:Nat}{v:α}(h:xs[j]?=some v): atI xs (j:Int)=some v:=by
  have hj:j < xs.length:=(List.getElem?_eq_some_iff.mp h).1
  have e:ixN xs.length (j:Int)=some j:=by
    unfold ixN
    rw[if_pos (by omega),if_pos (by omega)];simp
  unfold atI;rw[e];exact h
def Dq (b:Expr): Prop:=∀o i,subscripted b false o i=operate [o,i] (getItem o i)
def IxR (X:Cx)(r:R2): Prop :=
  ∀(value slice:Expr) (pins:List (Addr×Obj)) (s:Shared) (σ:St) (H:Hp) (x y:V) (v u:Value) (Q:VK),Inv X pins σ H s->RelV x v->RelV y u->r x y H Q ->
    subscripted slice false v u=operate [v,u] (getItem v u)->wpAny (model X.prog X.w) X.A (subscriptTail value slice v u) (EP X pins σ Q) X.xe s
def MtR (X:Cx)(id:String)(r:V->List V->Hp->VK->Prop): Prop :=
  ∀(pins:List (Addr×Obj)) (s:Shared) (σ:St) (H:Hp) (x:V) (xs:List V) (v:Value) (us:List Value) (Q:VK),Inv X pins σ H s->RelV x v->Vals xs us->r x xs H Q ->
    wpAny (model X.prog X.w) X.A (call (.builtin id) (v::us)) (EP X pins σ Q) X.xe s
section
variable {X:Cx}{a b:Expr}{ta tb:TE}{pos:Pos}
theorem aX {r:R2}(hr:IxR X r)(ha:PE X a ta)(hb:PE X b tb)(hs:Dq b): PE X (.Subscript a b pos) (tOp r ta tb):=by
  intro pins s σ H Q I h
  exact Subscript_ (ER ha hb I h fun v u s2 x y H2 I2 rx ry q=>hr a b pins s2 σ H2 x y v u Q I2 rx ry q (hs _ _))
def Hc (K:PySem.W.Frag): R2:=fun x y H Q=>∃p xs i v,x=.ref p/\y=.int i/\SqL K H p xs/\atI xs i=some v/\Q v H
def Hg (K:PySem.W.Frag): R2:=fun x y H Q=>∃p xs i v,x=.ref p/\y=.int i/\SqT K H p xs/\atI xs i=some v/\Q v H
def Hh:R2:=fun x y H Q=>∃z i c,x=.str z/\y=.int i/\z.length<=sizeLine/\atI z.cps.toList i=some c/\Q (.str ⟨#[c]⟩) H
theorem aV:IxR X (Hc X.K):=by
  intro value slice pins s σ H x y v u Q I rx ry h hs
  obtain⟨p,xs,i,z,rfl,rfl,hq,he,q⟩:=h
  cases rx
  obtain⟨t,rfl⟩:=ry
  obtain⟨its,r,pl,hz⟩:=I.list hq
  obtain⟨j,h1,h2,h3,h4,h5⟩:=uK he
  obtain⟨w,ew,rw'⟩:=r.get h2
  have hl:=r.length
  have hn:=uI
  have fin:EP X pins σ Q w s:=⟨z,H,I,rw',q⟩
  by_cases h0:0<=i
  · have hj:i.toNat=j:=by
      rw[seqIndex_of h0 h5] at h1
      exact Option.some.inj h1
    exact item_listR pl.isList h0 (by omega) (by rw[hj];simpa using ew) fin hs
  · have hj:(i+(its.toArray.size:Int)).toNat=j:=by
      rw[seqIndex_neg (by omega) h4] at h1
      rw[List.size_toArray,<-hl]
      exact Option.some.inj h1
    exact subscriptTail_builtinR (x:=w) pl.isList.typeIs slot_list_getitem.lookup
      (wpAny_getItem_list_neg (Q:=fun r s'=>r=w/\EP X pins σ Q r s') pl.isList (by omega) (by rw[List.size_toArray]<;>omega) (by omega) (by rw[hj];simpa using ew) ⟨rfl,fin⟩) hs
theorem ck:IxR X (Hg X.K):=by
  intro value slice pins s σ H x y v u Q I rx ry h hs
  obtain⟨p,xs,i,z,rfl,rfl,hq,he,q⟩:=h
  cases rx
  obtain⟨t,rfl⟩:=ry
  obtain⟨its,r,pl,hz⟩:=I.tuple hq
  obtain⟨j,h1,h2,h3,h4,h5⟩:=uK he
  obtain⟨w,ew,rw'⟩:=r.get h2
  have hl:=r.length
  have hn:=uI
  have fin:EP X pins σ Q w s:=⟨z,H,I,rw',q⟩
  exact subscriptTail_builtinR (x:=w) pl.typeIs slot_tuple_getitem.lookup
    (getItem_tuple (j:=j) (Q:=fun r s'=>r=w/\EP X pins σ Q r s') pl (by omega) (by omega) (by rw[List.size_toArray,<-hl];exact h1) (by simpa using ew) ⟨rfl,fin⟩) hs
theorem E2:IxR X Hh:=by
  intro value slice pins s σ H x y v u Q I rx ry h hs
  obtain⟨z,i,c,rfl,rfl,hz,he,q⟩:=h
  obtain⟨t,rfl⟩:=rx
  obtain⟨t',rfl⟩:=ry
  obtain⟨j,h1,h2,h3,h4,h5⟩:=uK he
  have hl:z.cps.toList.length=z.length:=by simp[Str.length]
  rw[hl] at h1 h4 h5
  have hn:=uI
  exact tail_any (typeIs_str s z t) slot_str_getitem.lookup (getItem_str (c:=c) (by
    have e1:decide (i < -(2^63:Int))=false:=decide_eq_false (by omega)
    have e2:decide (i>=2^63)=false:=decide_eq_false (by omega)
    rw[e1,e2,Bool.or_false]) (by rw[h1];simpa using h2) ⟨.str ⟨#[c]⟩,H,I.tok _,⟨_,rfl⟩,q⟩) hs
theorem uL (lo hi:Option Int)(n:Nat): (sliceBounds lo hi none n).1=((HT.sIx n 0 lo:Nat):Int)/\(sliceBounds lo hi none n).2.1=((HT.sIx n n hi:Nat):Int)/\(sliceBounds lo hi none n).2.2=1:=by
  refine⟨?_,?_,rfl⟩
  · cases lo with
    | none=>simp[sliceBounds,HT.sIx]
    | some i =>
      simp only [sliceBounds,HT.sIx,Option.getD_none,show (1:Int) > 0 by decide,if_true]
      by_cases h:i < 0
      · simp only [h,if_true]<;>omega
      · simp only [h,if_false]<;>omega
  · cases hi with
    | none=>simp[sliceBounds,HT.sIx]
    | some i =>
      simp only [sliceBounds,HT.sIx,Option.getD_none,show (1:Int) > 0 by decide,if_true]
      by_cases h:i < 0
      · simp only [h,if_true]<;>omega
      · simp only [h,if_false]<;>omega
theorem sC (its:List Value)(lo hi:Option Int): slicePick its.toArray lo hi none=((its.drop (HT.sIx its.length 0 lo)).take (HT.sIx its.length its.length hi-HT.sIx its.length 0 lo)).toArray:=by
  obtain⟨h1,h2,h3⟩:=uL lo hi its.toArray.size
  unfold slicePick
  rw[h1,h2,h3]
  simp only [sliceRange_one,pick_run,List.size_toArray]<;>rfl
def Hi (K:PySem.W.Frag): V->Option Int->Option Int->Hp->VK->Prop:=fun x lo hi H Q=>∃a xs,x=.ref a/\SqL K H a xs/\∀p,H p=none->Q (.ref p) (upd H p (.lst (lK xs lo hi)))
theorem yR:SlR X (Hi X.K):=by
  intro pins s σ H x v vl vu lo hi sl Q I rx hs pl pu h
  obtain⟨a,xs,rfl,hx,q⟩:=h
  cases rx
  obtain⟨its,r,ht,hz⟩:=I.list hx
  have hlen:=r.length
  refine⟨"list",_,slot_list_getitem.lookup,ht.isList.typeIs,?_⟩
  refine wpAny_getItem_list_slice ht.isList hs pl pu .none (by simp) ?_ (by rw[List.size_toArray]<;>omega)
  rw[sC,<-hlen]
  refine⟨.ref s.heap.objs.size,_,I.laid (t':=s.toks) (o:=.lst (lK xs lo hi)) (fun b ob q=>Heap.get?_push_of_some _ q) (Nat.le_refl _) ?_,rfl,q _ (I.hok.fresh (Nat.le_refl _))⟩
  exact⟨Nat.le_trans (ph xs lo hi) hz,_,0,(r.drop (HT.sIx xs.length 0 lo)).take (HT.sIx xs.length xs.length hi-HT.sIx xs.length 0 lo),Heap.get?_push_size _ rfl⟩
def pj:V->Bool
  | .non=>true
  | .bl _=>true
  | .int _=>true
  | .str _=>true
  | _=>false
def eqV:V->V->Bool
  | .non,.non=>true
  | .bl a,.bl b=>a==b
  | .bl a,.int b=>(if a then 1 else 0)==b
  | .int a,.bl b=>a==(if b then 1 else 0)
  | .int a,.int b=>a==b
  | .str a,.str b=>a==b
  | _,_=>false
theorem E3 {A:Around}{s:Shared}{y x:V}{u v:Value}(ry:RelV y u)(rx:RelV x v)(fy:pj y=true)(fx:pj x=true): SeqAt.EqAt A s u v (eqV y x):=by
  cases y with
  | non =>
    cases ry
    cases x with
    | non=>cases rx;exact SeqAt.EqAt.same _
    | bl b=>cases rx;exact SeqAt.EqAt.none_bool b
    | int b=>obtain⟨t,rfl⟩:=rx;exact SeqAt.EqAt.none_int b t
    | str b=>obtain⟨t,rfl⟩:=rx;exact SeqAt.EqAt.none_str b t
    | _=>exact absurd (show false=true from fx) Bool.false_ne_true
  | bl a =>
    cases ry
    cases x with
    | non=>cases rx;exact SeqAt.EqAt.bool_none a
    | bl b=>cases rx;exact SeqAt.EqAt.bool_bool a b
    | int b=>obtain⟨t,rfl⟩:=rx;exact SeqAt.EqAt.bool_int a b t
    | str b=>obtain⟨t,rfl⟩:=rx;exact SeqAt.EqAt.bool_str a b t
    | _=>exact absurd (show false=true from fx) Bool.false_ne_true
  | int a =>
    obtain⟨t',rfl⟩:=ry
    cases x with
    | non=>cases rx;exact SeqAt.EqAt.int_none a t'
    | bl b=>cases rx;exact SeqAt.EqAt.int_bool a t' b
    | int b=>obtain⟨t,rfl⟩:=rx;exact SeqAt.EqAt.int_int a t' b t
    | str b=>obtain⟨t,rfl⟩:=rx;exact SeqAt.EqAt.int_str a t' b t
    | _=>exact absurd (show false=true from fx) Bool.false_ne_true
  | str a =>
    obtain⟨t',rfl⟩:=ry
    cases x with
    | non=>cases rx;exact SeqAt.EqAt.str_none a t'
    | bl b=>cases rx;exact SeqAt.EqAt.str_bool a t' b
    | int b=>obtain⟨t,rfl⟩:=rx;exact SeqAt.EqAt.str_int a t' b t
    | str b=>obtain⟨t,rfl⟩:=rx;exact SeqAt.EqAt.str_str a t' b t
    | _=>exact absurd (show false=true from fx) Bool.false_ne_true
  | _=>exact absurd (show false=true from fy) Bool.false_ne_true
def eqU (x:V)(u:Value): Bool:=match u with
  | .none=>eqV .non x
  | .bool b=>eqV (.bl b) x
  | .int i _=>eqV (.int i) x
  | .str z _=>eqV (.str z) x
  | _=>false
theorem Br {x y:V}{u:Value}(r:RelV y u)(f:pj y=true): eqU x u=eqV y x:=by
  cases y with
  | non=>cases r;rfl
  | bl b=>cases r;rfl
  | int i=>obtain⟨t,rfl⟩:=r;rfl
  | str z=>obtain⟨t,rfl⟩:=r;rfl
  | _=>exact absurd (show false=true from f) Bool.false_ne_true
theorem uM {x:V}: ∀{xs:List V} {us:List Value},Vals xs us->xs.all pj=true->us.any (eqU x)=xs.any fun y=>eqV y x
  | _,_,.nil,_=>rfl
  | y::xs,u::us,.cons r t,f=>by
    rw[List.all_cons,Bool.and_eq_true] at f
    rw[List.any_cons,List.any_cons,Br r f.1,uM t f.2]
theorem qF {A:Around}{s:Shared}{x:V}{v:Value}(rx:RelV x v)(fx:pj x=true): ∀{xs:List V} {us:List Value},Vals xs us->xs.all pj=true->∀u∈us,SeqAt.EqAt A s u v (eqU x u)
  | _,_,.nil,_=>fun u hu=>by cases hu
  | y::xs,u::us,.cons r t,f=>fun u' hu=>by
    rw[List.all_cons,Bool.and_eq_true] at f
    rcases List.mem_cons.mp hu with rfl | hu
    · rw[Br r f.1];exact E3 r rx f.1 fx
    · exact qF rx fx t f.2 u' hu
def inV (x:V)(xs:List V): Bool:=xs.any fun y=>eqV y x
def rIn (K:PySem.W.Frag)(neg:Bool): R2:=fun x y H Q=>∃p xs,y=.ref p/\(SqL K H p xs\/SqT K H p xs)/\pj x=true/\xs.all pj=true/\Q (.bl (if neg then !inV x xs else inV x xs)) H
theorem uN:OpR X (compareOp .NotIn) (rIn X.K true):=by
  intro pins s σ H x y v u Q I rx ry h
  obtain⟨p,xs,rfl,hq,fx,fs,q⟩:=h
  cases ry
  rcases hq with hq | hq
  · obtain⟨its,r,pl,hz⟩:=I.list hq
    refine SeqAt.notIn_listAt (eqU x) pl.isList (fun w hw=>qF rx fx r fs w (by simpa using hw)) ⟨.bl _,H,I,rfl,?_⟩
    rw[show its.toArray.any (eqU x)=its.any (eqU x) by simp,uM r fs]
    exact q
  · obtain⟨its,r,pl,hz⟩:=I.tuple hq
    refine SeqAt.notIn_tupleAt (eqU x) pl (fun w hw=>qF rx fx r fs w (by simpa using hw)) ⟨.bl _,H,I,rfl,?_⟩
    rw[show its.toArray.any (eqU x)=its.any (eqU x) by simp,uM r fs]
    exact q
theorem aJ:eZ X (.builtin "len") (fun xs H Q=>∃p ys,xs=[.ref p]/\(SqL X.K H p ys\/SqT X.K H p ys)/\Q (.int ys.length) H):=by
  intro pins s σ H xs us Q I r h
  obtain⟨p,ys,rfl,hq,q⟩:=h
  obtain⟨u,rfl,rx⟩:=vals1 r
  cases rx
  have hn:=uI
  rcases hq with hq | hq
  · obtain⟨its,r',pl,hz⟩:=I.list hq
    have hlen:=r'.length
    exact Calls.call_len_list pl.isList (by simp only [List.size_toArray]<;>omega) ⟨.int ys.length,H,I.tok _,⟨s.toks+1,by rw[List.size_toArray,hlen]⟩,q⟩
  · obtain⟨its,r',pl,hz⟩:=I.tuple hq
    have hlen:=r'.length
    exact len_tuple pl (by simp only [List.size_toArray]<;>omega) ⟨.int ys.length,H,I.tok _,⟨s.toks+1,by rw[List.size_toArray,hlen]⟩,q⟩
theorem uO:eZ X (.type "list") (fun xs H Q=>∃p ys,xs=[.ref p]/\(SqL X.K H p ys\/SqT X.K H p ys)/\∀l,H l=none->Q (.ref l) (upd H l (.lst ys))):=by
  intro pins s σ H xs us Q I r h
  obtain⟨p,ys,rfl,hq,q⟩:=h
  obtain⟨u,rfl,rx⟩:=vals1 r
  cases rx
  have fin:∀(its:List Value),Vals ys its->ys.length<=sizeLine->∀(h':Heap) (c':Nat),(∀b o',s.heap.get? b=some o'->h'.get? b=some o') ->
      h'.get? s.heap.objs.size=some { cls:=.type "list",dict:=none,data:=.seq its.toArray c',slots:=#[] }->EP X pins σ Q (.ref s.heap.objs.size) { s with heap:=h' }:=fun its r' hz h' c' kp e =>
    ⟨.ref s.heap.objs.size,_,I.laid (t':=s.toks) kp (Nat.le_refl _) (show bJ X.prog X.w _ h' _ (.lst ys) from ⟨hz,its,c',r',e⟩),rfl,q _ (I.hok.fresh (Nat.le_refl _))⟩
  rcases hq with hq | hq
  · obtain⟨its,r',pl,hz⟩:=I.list hq
    have hlen:=r'.length
    obtain⟨o,ho,hc,n,hd⟩:=pl.isList
    exact call_list_seq p (.inl rfl) ho hc hd (fun h' c' kp e=>fin its r' hz h' c' kp e) (by simp only [List.size_toArray]<;>omega)
  · obtain⟨its,r',pl,hz⟩:=I.tuple hq
    have hlen:=r'.length
    obtain⟨o,ho,hc,n,hd⟩:=pl
    exact call_list_seq p (.inr rfl) ho hc hd (fun h' c' kp e=>fin its r' hz h' c' kp e) (by simp only [List.size_toArray]<;>omega)
theorem sD:eZ X (.type "tuple") (fun xs H Q=>∃p ys,xs=[.ref p]/\((SqL X.K H p ys/\∀l,H l=none->Q (.ref l) (upd H l (.tup ys)))\/(SqT X.K H p ys/\Q (.ref p) H))):=by
  intro pins s σ H xs us Q I r h
  obtain⟨p,ys,rfl,h⟩:=h
  obtain⟨u,rfl,rx⟩:=vals1 r
  cases rx
  rcases h with ⟨hq,q⟩ | ⟨hq,q⟩
  · obtain⟨its,r',pl,hz⟩:=I.list hq
    have hlen:=r'.length
    refine call_tuple_list pl.isList (fun h' kp=>?_) (by simp only [List.size_toArray]<;>omega)
    have I1:Inv X pins σ H { s with heap:=h' }:=I.kept (t':=s.toks) kp
    have I2:Inv X pins σ (upd H h'.objs.size (.tup ys)) { s with heap:=h'.push { cls:=.type "tuple",data:=.seq its.toArray } } :=
      I1.laid (t':=s.toks) (fun b o e=>Heap.get?_push_of_some _ e) (Nat.le_refl _) (show bJ X.prog X.w _ _ _ (.tup ys) from ⟨hz,its,r',IsTup.new _ _⟩)
    exact⟨.ref h'.objs.size,_,I2,rfl,q _ (I1.hok.fresh (Nat.le_refl _))⟩
  · obtain⟨its,r',pl,hz⟩:=I.tuple hq
    exact call_tuple_same pl ⟨.ref p,H,I,rfl,q⟩
def tyV (K:PySem.W.Frag)(T:String)(x:V)(H:Hp): Prop:=match x with
  | .str _=>T = "str"
  | .int _=>T = "int"
  | .ref p=>(T = "list" ∧ ∃xs,SqL K H p xs)\/(T = "tuple" ∧ ∃o,K.lookup p=some o/\o.cls=.type "tuple" ∧ o.dict=none) ∨
      (T = "dict" ∧ ((∃kvs,H p=some (.dK kvs))\/∃kvs,H p=some (.dT kvs)))\/(T = "set" ∧ ∃S n,H p=some (.set S n))
  | _=>False
theorem E4 {pins:List (Addr×Obj)}{σ:St}{H:Hp}{s:Shared}{T:String}{x:V}{v:Value}(I:Inv X pins σ H s)(r:RelV x v)(ty:tyV X.K T x H):
    s.TypeIs v T/\∀a,v=.ref a->∃ob,s.heap.get? a=some ob/\ob.dict=none:=by
  cases x with
  | str z =>
    obtain⟨t,rfl⟩:=r
    cases (show T = "str" from ty)
    exact⟨typeIs_str s z t,fun _ e=>nomatch e⟩
  | int i =>
    obtain⟨t,rfl⟩:=r
    cases (show T = "int" from ty)
    exact⟨typeIs_int s i t,fun _ e=>nomatch e⟩
  | ref p =>
    cases r
    rcases ty with ⟨rfl,xs,hq⟩ | ⟨rfl,o,hk,hc,hd⟩ | ⟨rfl,hk⟩ | ⟨rfl,S,n,hk⟩
    · obtain⟨its,_,pl,_⟩:=I.list hq
      refine⟨pl.isList.typeIs,fun a e=>?_⟩
      cases e
      obtain⟨o,n,e,c,hd,_⟩:=pl
      exact⟨o,e,hd⟩
    · refine⟨⟨o,I.kIn p o hk,hc⟩,fun a e=>?_⟩
      cases e
      exact⟨o,I.kIn _ o hk,hd⟩
    · have z:∃o,s.heap.get? p=some o/\o.ExactDict:=by
        rcases hk with ⟨kvs,hk⟩ | ⟨kvs,hk⟩
        · obtain⟨_,_,_,_,o,_,_,e,ex,_⟩:=I.hok p _ hk
          exact⟨o,e,ex⟩
        · obtain⟨_,_,_,_,o,_,_,e,ex,_⟩:=I.hok p _ hk
          exact⟨o,e,ex⟩
      obtain⟨o,e,ex⟩:=z
      refine⟨⟨o,e,ex.1⟩,fun a e2=>?_⟩
      cases e2
      exact⟨o,e,ex.2.1⟩
    · obtain⟨o,_,_,_,e,ex,_⟩:=I.hok p _ hk
      refine⟨⟨o,e,ex.1⟩,fun a e2=>?_⟩
      cases e2
      exact⟨o,e,ex.2.1⟩
  | _=>exact False.elim ty
def tBM (K:PySem.W.Frag)(T:String)(r:V->List V->Hp->VK->Prop)(to:TE)(t:TA): TE:=fun σ H Q=>to σ H fun x H1=>tyV K T x H1/\t σ H1 fun xs H2=>r x xs H2 Q
variable {o e:Expr}{es:List Expr}{to:TE}{t:TA}{name:Str}{apos cpos:Pos}{T id:String}{r:V->List V->Hp->VK->Prop}
theorem tR (pa:PlainAttrs T) (slot:Slot T name id) (hty:typeOf (.builtin id)=pure (.type "method_descriptor")) (hm:MtR X id r) (ho:PE X o to) (ha:PA X (e::es) t)
    (hbase:attributeBase o name X.env (eval o X.env)=eval o X.env:=by rfl)
    (hfew:((backTo cpos (starEach (e::es) X.env)).all (fun x=>!x.1)&&(backToKw cpos (keywordEach [] X.env)).all (fun x=>x.1.isSome)
      && decide ((e::es).length+([]:List Keyword).length+(if ([]:List Keyword).isEmpty then 0 else 1) < 30))=true:=by rfl)
    (hline:(apos.endLine==cpos.line)=true:=by rfl) (hs:starEach (e::es) X.env=(false,eval e X.env)::starEach es X.env:=by rfl) (hplain:(backTo cpos (starEach es X.env)).any (·.1)=false:=by rfl) :
    PE X (.Call (.Attribute o name apos) (e::es) [] cpos) (tBM X.K T r to t):=by
  intro pins s σ H Q I h
  refine wpAny_Call_method_late hbase hfew hline rfl (thn (ho pins s σ H _ I h) fun v s1 ⟨x,H1,I1,r1,ty,q1⟩=>?_)
  obtain⟨h1,h2⟩:=E4 I1 r1 ty
  refine⟨T,id,pa,slot,hty,h1,h2,?_⟩
  have hA:=ha cpos pins s1 σ H1 _ I1 q1
  rw[hs] at hA ⊢
  refine Calls.callWith_builtin (by show (false || (backTo cpos (starEach es X.env)).any (·.1))=false;rw[hplain]<;>rfl) (Calls.evalArgs_plain ?_)
  exact thn hA fun us s2 ⟨vs,H2,I2,r2,q2⟩=>hm pins s2 σ H2 x vs v us Q I2 r1 r2 q2
end
end L2
namespace L2
open PySem PySem.Spec PyProof.Rows
def MtM (X:Cx)(id:String)(r:V->List V->Hp->VK->Prop): Prop :=
  ∀(pins:List (Addr×Obj)) (s:Shared) (σ:St) (H:Hp) (x:V) (xs:List V) (v:Value) (us:List Value) (Q:VK),Inv X pins σ H s->RelV x v->Vals xs us->r x xs H Q ->
    wpAny (model X.prog X.w) X.A (call (.builtin id) (v::us)) (EP X pins σ Q) X.xe s
theorem Vals.one:∀{x:V} {us:List Value},Vals [x] us->∃u,us=[u]/\RelV x u
  | _,_,.cons r .nil=>⟨_,rfl,r⟩
section
variable {X:Cx}{pins:List (Addr×Obj)}{σ:St}{H:Hp}{s:Shared}{l b:Addr}{xs ys zs:List V}
theorem Inv.Hj {its its':List Value}{n:Nat}{f:Array Value->Array Value}{t':Nat}(I:Inv X pins σ H s)(hH:H l=some (.lst xs))
    (e:s.heap.get? l=some { cls:=.type "list",data:=.seq its.toArray n }) (hf:f its.toArray=its'.toArray) (hv:Vals ys its') (hz:ys.length<=sizeLine) :
    Inv X pins σ (upd H l (.lst ys)) { s with heap:=s.heap.update l (Obj.mapSeq f),toks:=t' }:=by
  have q:=PySem.IsL.update e f
  rw[hf] at q
  refine I.write (x:=l) (e:=l) (by rw[hH];exact trivial) (.inl rfl) (fun b' u hb hu=>(Heap.get?_update_other s.heap (Obj.mapSeq f) (Ne.symm hb)).trans hu) ⟨_,q⟩ ?_
  exact⟨hz,its',_,hv,q⟩
theorem Inv.Hk {its:List Value}{t':Nat}(I:Inv X pins σ H s)(hv:Vals ys its)(hz:ys.length<=sizeLine):
    Inv X pins σ (upd H s.heap.objs.size (.lst ys)) { s with heap:=s.heap.push { cls:=.type "list",data:=.seq its.toArray },toks:=t' } :=
  I.laid (fun _ _ q=>Heap.get?_push_of_some _ q) (Nat.le_refl _) ⟨hz,its,0,hv,Heap.get?_push_size _ rfl⟩
theorem Inv.fresh (I:Inv X pins σ H s): H s.heap.objs.size=none:=I.hok.fresh (Nat.le_refl _)
theorem Inv.Hl (I:Inv X pins σ H s)(hH:H l=some (.lst xs)): xs.length<=sizeLine/\∃(its:List Value) (n:Nat),Vals xs its/\xs.length=its.length/\s.heap.get? l=some { cls:=.type "list",data:=.seq its.toArray n }:=by
  obtain⟨z,its,n,r,e⟩:=I.hok l _ hH
  exact⟨z,its,n,r,r.length,e⟩
end
section
variable {X:Cx}
def yS:V->List V->Hp->VK->Prop:=fun x vs H Q=>∃l xs y,x=.ref l/\vs=[y]/\H l=some (.lst xs)/\xs.length < sizeLine/\Q .non (upd H l (.lst (xs++[y])))
theorem fH:MtM X "list.append" yS:=by
  intro pins s σ H x vs v us Q I rx rv h
  obtain⟨l,xs,y,rfl,rfl,hH,hz,q⟩:=h
  cases rx
  obtain⟨u,rfl,ru⟩:=rv.one
  obtain⟨z,its,n,r,hl,e⟩:=I.Hl hH
  refine call_meets F.slot_list_append ⟨_,e,rfl⟩ F.entry_list_append (F.args_list_append_2 _ _) (PySem.list_append l its.toArray n u (by rw[List.size_toArray];omega)) ⟨e,?_⟩
  refine⟨.non,_,I.Hj (its':=its++[u]) hH e (by simp) (r.append (.cons ru .nil)) ?_,rfl,q⟩
  rw[List.length_append,List.length_singleton]
  omega
end
section
variable {prog:Program}{w:World}{A:Around}{E:Value->Shared->Prop}{s:Shared}
end
section
variable {X:Cx}
end
end L2
namespace Att
open PySem PySem.W PySem.Calls PyProof.Rows
theorem pM {P:Params}{h:Heap}: ∀(ns:List Int) (vs:List Value),WellAll P h vs (ns.map WData.int)->IntsAre vs ns:=by
  intro ns
  induction ns with
  | nil =>
    intro vs w
    rw[List.map_nil] at w
    cases w
    exact .nil
  | cons n ns ih =>
    intro vs w
    rw[List.map_cons] at w
    cases w with
    | cons a b =>
      cases a
      exact .cons _ _ (ih _ b)
theorem zU {l:OpenLaw}{n:Nat}(hn:l.most=some n){P:Params}{h:Heap}{args:List WData}{vals:List Value}
    (hpre:l.row.toRowW.claim.pre args=true) (hwl:WellAll P h vals args) :
    ∃a vs ns,vals=[Value.ref a]/\args=[WData.list (ns.map WData.int)]/\h.get? a=some { cls:=.type "list",data:=.seq vs.toArray }/\IntsAre vs ns/\ns.length<=n:=by
  have hsh:WShape.hasAll [] args [.list .int]=true:=(pre_splitW hpre).1
  have hc:l.pre.holds [] { args:=args }=true:=(pre_splitW hpre).2
  obtain⟨d,r,rfl,h1,h2⟩:=hasAllW_cons hsh
  obtain rfl:=hasAllW_nil h2
  obtain⟨xs,rfl,h3⟩:=hasW_list h1
  obtain⟨ns,rfl⟩:=items_int h3
  have hlen:ns.length<=n:=by
    unfold OpenLaw.pre at hc
    have h4:(WTm.not (.lt (.lit (.int (n:Int))) (.len (.arg 0)))).holds [] { args:=[.list (ns.map .int)] }=true:=by
      have h4:=(holds_andW hc).1
      rw[hn] at h4
      exact h4
    have h5:=condW_of h4 (w_not (w_lt w_lit (w_len_list (w_arg rfl))))
    rw[List.length_map] at h5
    refine Nat.le_of_not_lt fun q=>?_
    have q':(n:Int) < ((ns.length:Nat):Int):=by omega
    first
      | (rw[decide_eq_true q'] at h5;exact absurd h5 (by decide))
      | (simp at h5;omega)
  cases hwl with
  | cons w1 w2 =>
    cases w2
    cases w1 with
    | list ho hall=>exact⟨_,_,ns,rfl,rfl,ho,pM ns _ hall,hlen⟩
theorem zV (l:OpenLaw)(args:List WData): l.row.toRowW.claim.post args (.bool true) args=true :=
  postW_of (r:=l.row.toRowW) (X:=(true==true))
    (show WShape.has [] (.bool true) .bool=true by first | rfl | decide | simp[WShape.has,WShape.arms,WShape.armsAll])
    (show (WTm.eq .res (.lit (.bool true))).value [] { args:=args,res:=some (.bool true),after:=args }=some (.bool (true==true)) from w_eq_bool (w_res rfl) w_lit) rfl
theorem wn {l:OpenLaw}{n:Nat}{q:Program}{loose:List Str}{XP:(Str->Option Value)->Heap->Prop}{YP:World->Heap->Prop}{d:DefRec}
    (hn:l.most=some n) (hdf:d.params.defaults=[])
    (call:∀(w:World) (s₀ s₁:Shared) (mg mb:Str->Option Value) (fa:Addr) (o:Obj) (pm cd doc:Value) (a:Addr) (vs:List Value) (ns:List Int),
      Ground q loose [] XP w s₀ mg mb s₁.heap->YP w s₁.heap ->
      s₁.heap.get? fa=some o->o.data=.func (docDef d.name d.params d.body d.scope pm cd doc)->s₁.heap.CodeRec cd d.name->mg d.name=some (.ref fa) ->
      s₁.heap.get? a=some { cls:=.type "list",data:=.seq vs.toArray }->IntsAre vs ns->ns.length<=n->s₁.gens=#[] ->
      codeAny (model l.prog w) callerA (.call (.ref fa) ⟨[.ref a],[]⟩) (fun r s'=>r=.ok (.ret (.bool true))/\OldK s₁.heap s'.heap/\s'.os=s₁.os/\AllBare s'.gens) s₁) :
    WalkO q loose XP YP l.row.toRowW d [] (fun f vs=>PySem.call f vs):=by
  intro w s₀ s₁ mg mb G Y fa o pm cd doc dV kV ho hd hcd hD hmg hg args vals as hpre hlay hrd hwl hlo
  obtain rfl:dV=.none:=Dflts.none hD hdf
  obtain rfl:kV=.none:=Dflts.noKw hD
  obtain⟨a,vs,ns,rfl,rfl,hobj,hints,hlen⟩:=zU hn hpre hwl
  refine enter_call (codeAny_mono (call w s₀ s₁ mg mb fa o pm cd doc a vs ns G Y ho (fd_plain hd) hcd hmg hobj hints hlen hg) fun r s' hq=>?_)
  obtain⟨rfl,h2,h3,h4⟩:=hq
  exact⟨.inl ⟨.bool true,.bool true,[],rfl,fun _=>rfl,.bool true,zV l _,fun _=>⟨List.Pairwise.nil,fun _ hm=>(nomatch hm)⟩⟩,h2,h3,h4⟩
section
variable {prog:Program}{w:World}{A:Around}{E:Value->Shared->Prop}{s:Shared}{K:Frag}
end
end Att
namespace L2
open PySem PySem.Spec PyProof.Rows
theorem tS:∀{vs:List Value} {ns:List Int},IntsAre vs ns->Vals (ns.map V.int) vs
  | _,_,.nil=>.nil
  | _,_,.cons n t h=>.cons ⟨t,rfl⟩ (tS h)
def Only (H:Hp): Prop:=∀b,H b=none\/∃o xs,H b=some (.frz o (.lst xs))
theorem Bs {P:Program}{w:World}{K:PySem.W.Frag}{mg mb:Str->Option Value}{CX:CXT}{k:Nat}{fa a:Addr}{fd:FuncData}{x:Str}{sp:Sp}{s₁:Shared}{vs:List Value}{ns:List Int}
    (KX:K.In s₁.heap) (hns:s₁.heap.Ns mainGlobals mg) (hb:s₁.heap.Ns builtinsNs mb) (hbb:∀x:Str,x ≠ "__name__" -> mb x=bootBuiltins x) (hlim:s₁.heap.NoLimit) (hg:s₁.gens=#[])
    (ha:s₁.heap.get? a=some { cls:=.type "list",data:=.seq vs.toArray }) (hi:IntsAre vs ns) (hl:ns.length<=sizeLine) (hr:dC k callerA)
    (F:∀base:Heap,K.In base->base.Ns mainGlobals mg->fY P w K mg base CX k fa fd [x] sp) (hbind:∀(s:Shared) (u:Value),BindsTo s fd ⟨[u],[]⟩ [(x,u)])
    (hsp:∀H:Hp,Only H->SqL K H a (ns.map V.int)->sp [.ref a] H (fun v _=>v=.bl true) fun _ _ _=>False)
    (hCX:∀H e s',CX [] H s₁ (fun _ _ _=>False) e s'->False) :
    codeAny (model P w) callerA (.call (.ref fa) ⟨[.ref a],[]⟩) (fun r s'=>r=.ok (.ret (.bool true))/\OldK s₁.heap s'.heap/\s'.os=s₁.os/\AllBare s'.gens) s₁:=by
  have rv:=tS hi
  have lenV:=hi.length
  have core:∀H:Hp,Only H->SqL K H a (ns.map V.int)->HOk P w H s₁.heap->(∀b,H b≠none->b=a)->(H a≠none->K.lookup a=none) ->
      codeAny (model P w) callerA (.call (.ref fa) ⟨[.ref a],[]⟩) (fun r s'=>r=.ok (.ret (.bool true))/\OldK s₁.heap s'.heap/\s'.os=s₁.os/\AllBare s'.gens) s₁:=by
    intro H hO hS hok hA hK
    have yT:∀{b:Addr} {o:Obj},s₁.heap.get? b=some o->H b=none->(uD s₁.heap H).get? b=some o:=fun e n=>Bh e n
    have noA:∀{b:Addr} {o:Obj} {es:Array DictEntry} {ep:Nat},s₁.heap.get? b=some o->o.data=.dict es ep->H b=none:=fun {b o es ep} e d=>by
      cases q:H b with
      | none=>rfl
      | some u =>
        have e':b=a:=hA b (by rw[q];simp)
        subst e'
        rw[ha] at e;cases e
        have d':Data.seq vs.toArray _=Data.dict es ep:=d
        cases d'
    have nsK:∀{b:Addr} {m:Str->Option Value},s₁.heap.Ns b m->(uD s₁.heap H).Ns b m:=fun {b m} ⟨o,es,ep,e,d,r⟩=>⟨o,es,ep,yT e (noA e d),d,r⟩
    have hKb:K.In (uD s₁.heap H):=fun b o e=>yT (KX b o e) (by
      cases q:H b with
      | none=>rfl
      | some u =>
        have e':b=a:=hA b (by rw[q];simp)
        subst e'
        rw[hK (by rw[q];simp)] at e;cases e)
    have hM:Mod K mg (uD s₁.heap H):=⟨hKb,nsK hns,⟨mb,nsK hb,hbb⟩,let ⟨mc,h1,h2⟩:=hlim;⟨mc,nsK h1,h2⟩⟩
    have e0:xZ P w K mg (uD s₁.heap H) callerA [] s₁ H:=⟨rfl,hM,fun b o e=>Dg e,Nat.le_of_eq (zK _ _),trivial,fun b hb=>absurd (show b∈([]:List Addr) from hb) (by simp),hok,.of_eq hg⟩
    refine codeAny_mono ((F _ hKb (nsK hns)).run callerA [] s₁ H ⟨[.ref a],[]⟩ [.ref a] [.ref a] _ _ hr e0 (hbind s₁ (.ref a)) (.cons rfl .nil) (hsp H hO hS)) fun r s' h=>?_
    cases r with
    | error e=>exact(hCX H e s' h).elim
    | ok fl =>
      cases fl with
      | next=>exact False.elim h
      | brk=>exact False.elim h
      | cont=>exact False.elim h
      | ret u =>
        obtain⟨v,H',os,bare,un,hok',r',q⟩:=h
        have q':v=.bl true:=q
        subst q'
        obtain rfl:u=Value.bool true:=r'
        refine⟨rfl,OldK.of_keep fun b o e=>?_,os,bare⟩
        cases q:H b with
        | none=>exact un.keep b o e q (by intro z;exact absurd (show b∈([]:List Addr) from z) (by simp)) (by simp)
        | some u =>
          rcases hO b with z | ⟨ob,xs,z⟩
          · rw[q] at z;cases z
          · have z2:=un.lJ b ob _ z
            obtain⟨e1,_⟩:=hok b _ z
            obtain⟨e2,_⟩:=hok' b _ z2
            rw[e] at e1;cases e1
            exact e2
  cases hk:K.lookup a with
  | some o =>
    have e:=KX a o hk
    rw[ha] at e
    cases e
    refine core (fun _=>none) (fun _=>.inl rfl) (.inr ⟨_,vs.toArray,_,hk,rfl,rfl,rfl,by rw[List.size_toArray,lenV];exact hl,by simpa using rv⟩) (fun b u z=>by have z':(none:Option HO)=some u:=z;cases z') (fun b z=>absurd rfl z) fun z=>absurd rfl z
  | none =>
    refine core (fun b=>if b=a then some (.frz { cls:=.type "list",data:=.seq vs.toArray } (.lst (ns.map V.int))) else none) (fun b=>?_) (.inl (.inr ⟨{ cls:=.type "list",data:=.seq vs.toArray },if_pos rfl⟩)) (fun b u z=>?_) (fun b z=>?_) fun _=>hk
    · by_cases hb:b=a
      · exact .inr ⟨_,_,if_pos hb⟩
      · exact .inl (if_neg hb)
    · by_cases hb:b=a
      · have z':=(if_pos hb).symm.trans z
        cases z'
        subst hb
        exact⟨ha,by rw[List.length_map];exact hl,vs,_,rv,ha⟩
      · have z':=(if_neg hb).symm.trans z
        cases z'
    · by_cases hb:b=a
      · exact hb
      · exact absurd (if_neg hb) z
end L2
namespace L2
open PySem PySem.Spec PyProof.Rows
theorem Dr {l:PySem.W.OpenLaw}{n k:Nat}{q:Program}{loose:List Str}{XP:(Str->Option Value)->Heap->Prop}{YP:World->Heap->Prop}{d:DefRec}{K:Params->PySem.W.Frag}{CX:World->CXT}{sp:World->Sp}{x:Str}
    (hn:l.most=some n) (hn2:n<=sizeLine) (hdf:d.params.defaults=[]) (hr:dC k callerA)
    (hY:∀(w:World) (h:Heap),YP w h->(K w.params).In h)
    (F:∀(w:World) (mg:Str->Option Value) (fa:Addr) (h:Heap),(K w.params).In h->h.Ns mainGlobals mg->mg d.name=some (.ref fa) ->
      ∃fd:FuncData,(∀(s:Shared) (u:Value),BindsTo s fd ⟨[u],[]⟩ [(x,u)]) ∧
        ∀base:Heap,(K w.params).In base->base.Ns mainGlobals mg->fY l.prog w (K w.params) mg base (CX w) k fa fd [x] (sp w))
    (hsp:∀(w:World) (H:Hp) (a:Addr) (ns:List Int),ns.length<=n->Only H->SqL (K w.params) H a (ns.map V.int)->sp w [.ref a] H (fun v _=>v=.bl true) fun _ _ _=>False)
    (hCX:∀(w:World) (H:Hp) (s:Shared) (e:Value) (s':Shared),CX w [] H s (fun _ _ _=>False) e s'->False) :
    PySem.W.WalkO q loose XP YP l.row.toRowW d [] (fun f vs=>PySem.call f vs):=by
  refine Att.wn hn hdf fun w s₀ s₁ mg mb fa o pm cd doc a vs ns G Y ho hd hcd hmg hobj hints hlen hg=>?_
  have KX:=hY w _ Y
  obtain⟨fd,hb,hF⟩:=F w mg fa _ KX G.T.g hmg
  exact Bs KX G.T.g G.T.b G.T.builtins G.T.nolimit hg hobj hints (Nat.le_trans hlen hn2) hr hF hb (fun H hO hS=>hsp w H a ns hlen hO hS) fun H e s'=>hCX w H s₁ e s'
end L2
namespace L2
open PySem PySem.Spec PyProof.Rows
def inClass (s:Stmt)(j:Nat): Stmt:=match s with
  | .ClassDef _ _ _ body _ _ _ _ _ _ _=>body.getD j (.Pass ⟨0,0,0,0⟩)
  | _=>.Pass ⟨0,0,0,0⟩
def bK (s:Stmt): Arguments:=match s with
  | .FunctionDef _ a _ _ _ _ _ _ _ _=>a
  | _=>{ posonlyargs:=[],args:=[],vararg:=none,kwonlyargs:=[],kw_defaults:=[],kwarg:=none,defaults:=[] }
def aO (s:Stmt): List Stmt:=match s with
  | .FunctionDef _ _ b _ _ _ _ _ _ _=>b
  | _=>[]
def au (s:Stmt): Scope:=match s with
  | .FunctionDef _ _ _ _ _ _ sc _ _ _=>sc
  | _=>{ kind:=.function,names:=[],isGenerator:=false,isCoroutine:=false }
abbrev E0:XK:=fun _ _ _=>False
section
variable {P:Program}{w:World}{K:PySem.W.Frag}{mg:Str->Option Value}{base:Heap}
end
section
variable {X:Cx}
theorem pv (i:Nat) {x:Str} {pos:Pos} (hN:X.N[i]?=some x:=by rfl) (hv:Vis X.env.scope x:=by first | exact Or.inl rfl | exact Or.inr (Or.inl rfl) | exact Or.inr (Or.inr rfl)) (hd:(x==("__debug__" : Str))=false:=by decide)
    (hcd:(x==("__classdict__" : Str))=false:=by decide):PE X (.Name x pos) (FQ i):=EG hN hv hd hcd
end
theorem Bt {A B:Prop}(h:B): if false=true then A else B:=by
  rw[if_neg Bool.false_ne_true]
  exact h
theorem sE {A B:Prop}(h:A): if true=true then A else B:=by
  rw[if_pos rfl]
  exact h
theorem Ej {c A B:Prop}[Decidable c](hc:c)(h:B): if (!decide c)=true then A else B:=by
  rw[decide_eq_true hc]
  exact Bt h
def Same (H H':Hp): Prop:=∀b o,H b=some o->H' b=some o
theorem Same.refl (H:Hp): Same H H:=fun _ _ h=>h
theorem Same.trans {H H1 H2:Hp}(a:Same H H1)(b:Same H1 H2): Same H H2:=fun c o h=>b c o (a c o h)
theorem Same.free {H H':Hp}(e:Same H H'){l:Addr}(h:H' l=Option.none): H l=Option.none:=by
  cases q:H l with
  | none=>rfl
  | some o =>
    rw[e l o q] at h
    cases h
theorem Same.seq {K:PySem.W.Frag}{H H':Hp}{a:Addr}{xs:List V}(e:Same H H')(h:SqL K H a xs): SqL K H' a xs:=by
  rcases h with (h | ⟨o,h⟩) | h
  · exact .inl (.inl (e _ _ h))
  · exact .inl (.inr ⟨o,e _ _ h⟩)
  · exact .inr h
end L2

namespace L2
open PySem PySem.Spec PyProof.Rows
section
variable {κ:Type}[DecidableEq κ]
def bq (kvs:List (κ×V))(k:κ): Option V:=(kvs.find? fun kv=>decide (kv.1=k)).map (·.2)
def putK (kvs:List (κ×V))(k:κ)(v:V): List (κ×V) :=
  if (kvs.any fun kv=>decide (kv.1=k))=true then kvs.map (fun kv=>if kv.1=k then (kv.1,v) else kv) else kvs++[(k,v)]
def dA (kvs:List (κ×V))(k:κ): List (κ×V):=kvs.filter fun kv=>decide (kv.1≠k)
theorem dP {p:κ×V}{r:List (κ×V)}{k:κ}(e:p.1=k): bq (p::r) k=some p.2:=by simp[bq,List.find?_cons,e]
theorem dQ {p:κ×V}{r:List (κ×V)}{k:κ}(e:¬p.1=k): bq (p::r) k=bq r k:=by simp[bq,List.find?_cons,e]
theorem fc (k:κ): ∀kvs:List (κ×V),(kvs.any fun kv=>decide (kv.1=k))=(bq kvs k).isSome
  | []=>rfl
  | p::r=>by
    rw[List.any_cons]
    by_cases e:p.1=k
    · simp only [dP e,decide_eq_true e,Bool.true_or,Option.isSome_some]
    · rw[dQ e,decide_eq_false e,Bool.false_or];exact fc k r
theorem wo (k j:κ)(y:V): ∀kvs:List (κ×V),bq (kvs.map fun kv=>if kv.1=k then (kv.1,y) else kv) j=(bq kvs j).map fun x=>if j=k then y else x
  | []=>rfl
  | p::r=>by
    have ih:=wo k j y r
    rw[List.map_cons]
    by_cases h:p.1=k
    · rw[if_pos h]
      by_cases e:p.1=j
      · rw[dP (p:=(p.1,y)) e,dP e,Option.map_some,if_pos (e.symm.trans h)]
      · rw[dQ (p:=(p.1,y)) e,dQ e,ih]
    · rw[if_neg h]
      by_cases e:p.1=j
      · rw[dP (p:=p) e,dP e,Option.map_some,if_neg (fun z=>h (e.trans z))]
      · rw[dQ (p:=p) e,dQ e,ih]
theorem tT (k j:κ)(y:V): ∀kvs:List (κ×V),bq kvs k=none->bq (kvs++[(k,y)]) j=if j=k then some y else bq kvs j
  | [],_=>by
    by_cases e:k=j
    · rw[if_pos e.symm];exact dP (p:=(k,y)) e
    · rw[if_neg (fun z=>e z.symm)];exact dQ (p:=(k,y)) e
  | p::r,hn=>by
    rw[List.cons_append]
    have hk:¬p.1=k:=fun z=>by rw[dP z] at hn;cases hn
    rw[dQ hk] at hn
    have ih:=tT k j y r hn
    by_cases e:p.1=j
    · rw[dP e,dP e,if_neg (fun z=>hk (e.trans z))]
    · rw[dQ e,dQ e,ih]
theorem g_ (kvs:List (κ×V))(k j:κ)(y:V): bq (putK kvs k y) j=if j=k then some y else bq kvs j:=by
  unfold putK
  by_cases a:(kvs.any fun kv=>decide (kv.1=k))=true
  · rw[if_pos a,wo]
    rw[fc] at a
    by_cases e:j=k
    · obtain⟨x,hx⟩:=Option.isSome_iff_exists.mp a
      rw[if_pos e,e,hx,Option.map_some,if_pos rfl]
    · rw[if_neg e]
      cases bq kvs j with
      | none=>rfl
      | some x=>rw[Option.map_some,if_neg e]
  · rw[if_neg a]
    refine tT k j y kvs ?_
    rw[fc] at a
    cases q:bq kvs k with
    | none=>rfl
    | some x=>rw[q] at a;exact(a rfl).elim
theorem eS (kvs:List (κ×V))(k:κ)(v:V): (putK kvs k v).length<=kvs.length+1:=by
  unfold putK
  split
  · rw[List.length_map];omega
  · rw[List.length_append,List.length_cons,List.length_nil];omega
theorem qG {kvs:List (κ×V)}{k:κ}(v:V)(h:bq kvs k=none): putK kvs k v=kvs++[(k,v)]:=by
  unfold putK
  rw[fc,h]
  exact if_neg (by decide)
theorem fX.ju {o:Option V}{u:Option Value}(r:fX o u): o.isSome=u.isSome:=by
  cases o with
  | none=>cases u with
    | none=>rfl
    | some _=>exact(show False from r).elim
  | some _=>cases u with
    | none=>exact(show False from r).elim
    | some _=>rfl
theorem KV.val {kvs:List (κ×V)}{vs:List (κ×Value)}(r:KV kvs vs)(k:κ): fX (bq kvs k) (valueAt vs k):=by
  unfold KV at r
  induction r with
  | nil=>exact True.intro
  | @cons p q ps qs h t ih =>
    obtain⟨h1,h2⟩:=h
    by_cases e:p.1=k
    · have e':q.1=k:=h1.symm.trans e
      have b:valueAt (q::qs) k=some q.2:=by simp[valueAt,List.find?_cons,e']
      rw[dP e,b];exact h2
    · have e':¬q.1=k:=fun z=>e (h1.trans z)
      have b:valueAt (q::qs) k=valueAt qs k:=by simp[valueAt,List.find?_cons,e']
      rw[dQ e,b];exact ih
theorem KV.any {kvs:List (κ×V)}{vs:List (κ×Value)}(r:KV kvs vs)(k:κ): (kvs.any fun kv=>decide (kv.1=k))=vs.any fun kv=>decide (kv.1=k):=by
  unfold KV at r
  induction r with
  | nil=>rfl
  | cons h t ih=>rw[List.any_cons,List.any_cons,ih,h.1]
theorem KV.repl {kvs:List (κ×V)}{vs:List (κ×Value)}(r:KV kvs vs)(k:κ){y:V}{u:Value}(ry:RelV y u):
    KV (kvs.map fun kv=>if kv.1=k then (kv.1,y) else kv) (vs.map fun kv=>if kv.1=k then (kv.1,u) else kv):=by
  unfold KV at r ⊢
  induction r with
  | nil=>exact .nil
  | @cons p q ps qs h t ih =>
    rw[List.map_cons,List.map_cons]
    refine .cons ?_ ih
    obtain⟨h1,h2⟩:=h
    by_cases e:p.1=k
    · rw[if_pos e,if_pos (h1.symm.trans e)];exact⟨h1,ry⟩
    · rw[if_neg e,if_neg (fun z=>e (h1.trans z))];exact⟨h1,h2⟩
theorem KV.put {kvs:List (κ×V)}{vs:List (κ×Value)}(r:KV kvs vs)(k:κ){y:V}{u:Value}(ry:RelV y u): KV (putK kvs k y) (stored vs k u):=by
  unfold putK stored
  rw[r.any k]
  by_cases e:(vs.any fun kv=>decide (kv.1=k))=true
  · rw[if_pos e,if_pos e];exact r.repl k ry
  · rw[if_neg e,if_neg e];exact Paired.snoc r ⟨rfl,ry⟩
theorem KV.drop {kvs:List (κ×V)}{vs:List (κ×Value)}(r:KV kvs vs)(k:κ): KV (dA kvs k) (without vs k):=by
  unfold KV at r ⊢
  unfold dA without
  induction r with
  | nil=>exact .nil
  | @cons p q ps qs h t ih =>
    obtain⟨h1,h2⟩:=h
    rw[List.filter_cons,List.filter_cons]
    by_cases e:p.1=k
    · have a:¬decide (p.1≠k)=true:=by simp[e]
      have b:¬decide (q.1≠k)=true:=by simp[h1.symm.trans e]
      rw[if_neg a,if_neg b];exact ih
    · have e':¬q.1=k:=fun z=>e (h1.trans z)
      have a:decide (p.1≠k)=true:=by simp[e]
      have b:decide (q.1≠k)=true:=by simp[e']
      rw[if_pos a,if_pos b];exact .cons ⟨h1,h2⟩ ih
theorem KV.length {kvs:List (κ×V)}{vs:List (κ×Value)}(r:KV kvs vs): kvs.length=vs.length:=Paired.length r
theorem wq (kvs:List (κ×V))(k:κ): (dA kvs k).length<=kvs.length:=List.length_filter_le _ _
end
theorem pq {P:Program}{w:World}{k:Key}{u:Value}(r:RelV (kV k) u): (cz P w).is k u=true:=by
  cases k with
  | inl i=>obtain⟨t,e⟩:=(show ∃t,u=Value.int i t from r);subst e;exact wa P w i t
  | inr x=>obtain⟨t,e⟩:=(show ∃t,u=Value.str x t from r);subst e;exact wc P w x t
theorem tU {P:Program}{w:World}: ∀{ks:List Key} {us:List Value},Vals (ks.map kV) us->ItemsAre (cz P w) ks us
  | [],_,r=>by rw[List.map_nil] at r;cases r;exact .nil
  | k::ks,_,r=>by
    rw[List.map_cons] at r
    cases r with
    | cons h t=>exact .cons (pq h) (tU t)
abbrev KT (H:Hp): List (List Key×V)->List (List Key×Addr×Value)->Prop:=Paired fun p q=>p.1=q.1/\H q.2.1=some (.tup (p.1.map kV))/\RelV p.2 q.2.2
theorem KT.val {H:Hp}{kvs:List (List Key×V)}{xs:List (List Key×Addr×Value)}(r:KT H kvs xs)(k:List Key): fX (bq kvs k) ((atKey xs k).map (·.2)):=by
  induction r with
  | nil=>exact True.intro
  | @cons p q ps qs h t ih =>
    obtain⟨h1,_,h2⟩:=h
    by_cases e:p.1=k
    · have e':q.1=k:=h1.symm.trans e
      have b:atKey (q::qs) k=some q.2:=by simp[atKey,List.find?_cons,e']
      rw[dP e,b];exact h2
    · have e':¬q.1=k:=fun z=>e (h1.trans z)
      have b:atKey (q::qs) k=atKey qs k:=by simp[atKey,List.find?_cons,e']
      rw[dQ e,b];exact ih
theorem KT.repl {H:Hp}{kvs:List (List Key×V)}{xs:List (List Key×Addr×Value)}(r:KT H kvs xs)(k:List Key){y:V}{u:Value}(ry:RelV y u):
    KT H (kvs.map fun kv=>if kv.1=k then (kv.1,y) else kv) (xs.map (putAt k u)):=by
  induction r with
  | nil=>exact .nil
  | @cons p q ps qs h t ih =>
    rw[List.map_cons,List.map_cons]
    refine .cons ?_ ih
    obtain⟨h1,h2,h3⟩:=h
    unfold putAt
    by_cases e:p.1=k
    · rw[if_pos e,if_pos (h1.symm.trans e)];exact⟨h1,h2,ry⟩
    · rw[if_neg e,if_neg (fun z=>e (h1.trans z))];exact⟨h1,h2,h3⟩
theorem KT.put {H:Hp}{kvs:List (List Key×V)}{xs:List (List Key×Addr×Value)}(r:KT H kvs xs)(k:List Key){b:Addr}{y:V}{u:Value}(hb:H b=some (.tup (k.map kV)))(ry:RelV y u):
    KT H (putK kvs k y) (storedH xs k b u):=by
  have e:(kvs.any fun kv=>decide (kv.1=k))=(atKey xs k).isSome:=by
    rw[fc,(r.val k).ju,Option.isSome_map]
  unfold putK storedH
  rw[e]
  by_cases q:(atKey xs k).isSome=true
  · rw[if_pos q,if_pos q];exact r.repl k ry
  · rw[if_neg q,if_neg q];exact Paired.snoc r ⟨rfl,hb,ry⟩
theorem KT.keeps {H H':Hp}{kvs:List (List Key×V)}{xs:List (List Key×Addr×Value)}(r:KT H kvs xs)(ht:∀b ys,H b=some (.tup ys)->H' b=some (.tup ys)): KT H' kvs xs :=
  Paired.EF r fun _ _ z=>⟨z.1,ht _ _ z.2.1,z.2.2⟩
section
variable {P:Program}{w:World}{H:Hp}{h:Heap}{a:Addr}
theorem Ek {u:HO}(ok:HOk P w H h)(e:Rd H a u): bJ P w H h a u:=e.ok ok
theorem qH {kvs:List (Key×V)}(ok:HOk P w H h)(e:Rd H a (.dK kvs)): kvs.length<=sizeLine/\(a==sysModules)=false/\∃vs,KV kvs vs/\h.DictOf (cz P w) a vs :=
  show bJ P w H h a (.dK kvs) from Ek ok e
theorem qI {kvs:List (Key×V)}(ok:HOk P w H h)(e:H a=some (.dK kvs)): kvs.length<=sizeLine/\(a==sysModules)=false/\∃vs,KV kvs vs/\h.DictOf (cz P w) a vs:=qH ok (.inl e)
theorem qJ {ks:List Key}(ok:HOk P w H h)(e:H a=some (.tup (ks.map kV))): (tupleKind (cz P w)).is h ks a:=by
  obtain⟨_,its,r,o,h1,h2,n,h3⟩:=(show bJ P w H h a (.tup (ks.map kV)) from ok a _ e)
  exact⟨o,its.toArray,n,h1,h2,h3,by simpa using tU r⟩
theorem tV {kvs:List (List Key×V)}(ok:HOk P w H h)(e:Rd H a (.dT kvs)): kvs.length<=sizeLine/\(a==sysModules)=false ∧
    ∃xs,KT H kvs xs/\h.DictOfH (tupleKind (cz P w)) a xs:=by
  obtain⟨z,y,xs,r,o,es,ep,h1,h2,h3,h4,h5⟩:=(show bJ P w H h a (.dT kvs) from Ek ok e)
  refine⟨z,y,xs,r,o,es,ep,h1,h2,h3,h4,fun x hx=>?_,h5⟩
  have all:∀{l:List (List Key×V)} {m:List (List Key×Addr×Value)},KT H l m->∀x∈m,(tupleKind (cz P w)).is h x.1 x.2.1:=by
    intro l m q
    induction q with
    | nil=>intro x hx;exact nomatch hx
    | @cons p q ps qs hq t ih =>
      intro x hx
      rcases List.mem_cons.mp hx with e | hx
      · subst e
        exact qJ ok (by rw[<-hq.1];exact hq.2.1)
      · exact ih x hx
  exact all r x hx
theorem El {kvs:List (List Key×V)}(ok:HOk P w H h)(e:H a=some (.dT kvs)): kvs.length<=sizeLine/\(a==sysModules)=false ∧
    ∃xs,KT H kvs xs/\h.DictOfH (tupleKind (cz P w)) a xs:=tV ok (.inl e)
end
def dv (H:Hp)(a:Addr)(y:V)(r:Option V): Prop :=
  (∃kvs k,Rd H a (.dK kvs)/\y=kV k/\r=bq kvs k)\/∃kvs k b,Rd H a (.dT kvs)/\y=.ref b/\H b=some (.tup (k.map kV))/\r=bq kvs k
def pN (H:Hp)(a:Addr)(y v:V)(H':Hp): Prop :=
  (∃kvs k,H a=some (.dK kvs)/\y=kV k/\kvs.length < sizeLine/\H'=upd H a (.dK (putK kvs k v))) ∨
  ∃kvs k b,H a=some (.dT kvs)/\y=.ref b/\H b=some (.tup (k.map kV))/\kvs.length < sizeLine/\H'=upd H a (.dT (putK kvs k v))
theorem dv.k {H:Hp}{a:Addr}{kvs:List (Key×V)}{k:Key}(e:H a=some (.dK kvs)): dv H a (kV k) (bq kvs k):=.inl ⟨kvs,k,.inl e,rfl,rfl⟩
theorem pN.k {H:Hp}{a:Addr}{kvs:List (Key×V)}{k:Key}{v:V}(e:H a=some (.dK kvs))(hl:kvs.length < sizeLine): pN H a (kV k) v (upd H a (.dK (putK kvs k v))):=.inl ⟨kvs,k,e,rfl,hl,rfl⟩
theorem pN.t {H:Hp}{a b:Addr}{kvs:List (List Key×V)}{k:List Key}{v:V}(e:H a=some (.dT kvs))(eb:H b=some (.tup (k.map kV)))(hl:kvs.length < sizeLine):
    pN H a (.ref b) v (upd H a (.dT (putK kvs k v))):=.inr ⟨kvs,k,b,e,rfl,eb,hl,rfl⟩
section
variable {X:Cx}{pins:List (Addr×Obj)}{σ:St}{H:Hp}{s:Shared}{a:Addr}{y v:V}{u r:Value}{o:Option V}{A:Around}{E:Value->Shared->Prop}
theorem Inv.big (I:Inv X pins σ H s): sysModules < s.heap.objs.size:=by
  have h:mainGlobals < s.heap.objs.size:=(I.mod.glob.keeps I.bk).lt
  exact Nat.lt_trans (by decide) h
theorem zW {Q:Value->Shared->Prop}(hu:A.units+1 < cLine)(I:Inv X pins σ H s)(g:dv H a y (some v))(ry:RelV y u)(h:∀w' s',Inv X pins σ H s'->RelV v w'->Q w' s'):
    wpAny (model X.prog X.w) A (getItem (.ref a) u) Q E s:=by
  rcases g with ⟨kvs,k,e,ey,l⟩ | ⟨kvs,k,b,e,ey,eb,l⟩
  · subst ey
    obtain⟨z,hd,vs,rel,dd⟩:=qH I.hok e
    obtain⟨w',hw,rw'⟩:=fX.some_of (v:=v) (o:=valueAt vs k) (by rw[l];exact rel.val k)
    exact wpAny_getItem_of (pq ry) dd.mapOf hw (h w' _ (I.tok _) rw')
  · subst ey
    cases (show u=Value.ref b from ry)
    obtain⟨z,hd,xs,rel,dd⟩:=tV I.hok e
    obtain⟨w',hw,rw'⟩:=fX.some_of (v:=v) (o:=(atKey xs k).map (·.2)) (by rw[l];exact rel.val k)
    obtain⟨p,hp,hp2⟩:=Option.map_eq_some_iff.mp hw
    refine wpAny_getItem_heap (tupleKind_room_in1 hu) (qJ I.hok eb) dd hp ?_
    rw[hp2]
    exact h w' _ (I.tok _) rw'
theorem Hm {Q:Value->Shared->Prop}(hu:A.units+1 < cLine)(I:Inv X pins σ H s)(g:dv H a y o)(ry:RelV y u)(h:∀s',Inv X pins σ H s'->Q (.bool o.isSome) s'):
    wpAny (model X.prog X.w) A (compareOp .In u (.ref a)) Q E s:=by
  rcases g with ⟨kvs,k,e,ey,l⟩ | ⟨kvs,k,b,e,ey,eb,l⟩
  · subst ey
    obtain⟨z,hd,vs,rel,dd⟩:=qH I.hok e
    refine wpAny_in_of (pq ry) hd dd.mapOf ?_
    rw[<-(rel.val k).ju,<-l]
    exact h _ (I.tok _)
  · subst ey
    cases (show u=Value.ref b from ry)
    obtain⟨z,hd,xs,rel,dd⟩:=tV I.hok e
    refine wpAny_in_heap (tupleKind_room_in1 hu) (qJ I.hok eb) hd dd ?_
    have q:=(rel.val k).ju
    rw[Option.isSome_map] at q
    rw[<-q,<-l]
    exact h _ (I.tok _)
theorem Ds {Q:Value->Shared->Prop}(hu:A.units+1 < cLine)(I:Inv X pins σ H s)(g:dv H a y o)(ry:RelV y u)(h:∀s',Inv X pins σ H s'->Q (.bool (!o.isSome)) s'):
    wpAny (model X.prog X.w) A (compareOp .NotIn u (.ref a)) Q E s:=by
  rcases g with ⟨kvs,k,e,ey,l⟩ | ⟨kvs,k,b,e,ey,eb,l⟩
  · subst ey
    obtain⟨z,hd,vs,rel,dd⟩:=qH I.hok e
    refine wpAny_notIn_of (pq ry) hd dd.mapOf ?_
    rw[<-(rel.val k).ju,<-l]
    exact h _ (I.tok _)
  · subst ey
    cases (show u=Value.ref b from ry)
    obtain⟨z,hd,xs,rel,dd⟩:=tV I.hok e
    refine wpAny_notIn_heap (tupleKind_room_in1 hu) (qJ I.hok eb) hd dd ?_
    have q:=(rel.val k).ju
    rw[Option.isSome_map] at q
    rw[<-q,<-l]
    exact h _ (I.tok _)
theorem qp {h':Heap}{t':Nat}{ob:HO}(I:Inv X pins σ H s)(mu:Mut (H a))(hs:Heap.SameBut a s.heap h')(he:∃q,h'.get? a=some q)(new:bJ X.prog X.w (upd H a ob) h' a ob):
    Inv X pins σ (upd H a ob) { s with heap:=h',toks:=t' } :=
  I.write (x:=a) (e:=a) mu (.inl rfl) (fun b q hb z=>(hs.2 b hb).trans z) he new
theorem uP {P:Program}{w:World}{H':Hp}{h':Heap}{kvs:List (Key×V)}{vs:List (Key×Value)}(z:kvs.length<=sizeLine)(hd:(a==sysModules)=false)(rel:KV kvs vs)(dd:h'.DictOf (cz P w) a vs):
    bJ P w H' h' a (.dK kvs):=⟨z,hd,vs,rel,dd⟩
theorem zX {H':Hp}{Q:Unit->Shared->Prop}(hu:A.units+1 < cLine)(I:Inv X pins σ H s)(g:pN H a y v H')(ry:RelV y u)(rv:RelV v r)(h:∀s',Inv X pins σ H' s'->Q () s'):
    wpAny (model X.prog X.w) A (setItem (.ref a) u r) Q E s:=by
  rcases g with ⟨kvs,k,e,ey,l,eH⟩ | ⟨kvs,k,b,e,ey,eb,l,eH⟩
  · subst ey eH
    obtain⟨z,hd,vs,rel,dd⟩:=qI I.hok e
    have hz:vs.length<=sizeLine:=by rw[<-rel.length];exact z
    have hl:(putK kvs k v).length<=sizeLine:=by have:=eS kvs k v;omega
    refine wpAny_setItem_pairs (hsz:=hz) (pq ry) dd fun h' dd' hs=>h _ ?_
    have he:∃q,h'.get? a=some q:=let ⟨q,_,_,hq,_⟩:=dd';⟨q,hq⟩
    exact qp I (by rw[e];exact True.intro) hs he (uP hl hd (rel.put k rv) dd')
  · subst ey eH
    cases (show u=Value.ref b from ry)
    obtain⟨z,hd,xs,rel,dd⟩:=El I.hok e
    have hz:xs.length<=sizeLine:=by rw[<-Paired.length rel];exact z
    have hl:(putK kvs k v).length<=sizeLine:=by have:=eS kvs k v;omega
    refine wpAny_setItem_heap (hsz:=hz) (tupleKind_room_in1 hu) (qJ I.hok eb) dd fun h' dd' hs=>h _ ?_
    obtain⟨q,es,ep,hq,h2,h3,h4,_,h5⟩:=dd'
    refine qp I (by rw[e];exact True.intro) hs ⟨q,hq⟩ ⟨hl,hd,_,(rel.put k eb rv).keeps fun c ys ec=>?_,q,es,ep,hq,h2,h3,h4,h5⟩
    rw[av (tI ec e (fun z=>nomatch z))]
    exact ec
end
section
variable {X:Cx}{pins:List (Addr×Obj)}{σ:St}{H:Hp}{s:Shared}{a:Addr}{kvs:List (Key×V)}{k:Key}{u:Value}{A:Around}{E:Value->Shared->Prop}
theorem Em {v:V}{more:List Value}{Q:Value->Shared->Prop}(I:Inv X pins σ H s)(e:H a=some (.dK kvs))(ry:RelV (kV k) u)(l:bq kvs k=some v)(hm:more=[]\/∃x,more=[x])
    (h:∀w' s',Inv X pins σ (upd H a (.dK (dA kvs k))) s'->RelV v w'->Q w' s'):wpAny (model X.prog X.w) A (call (.builtin "dict.pop") (.ref a::u::more)) Q E s:=by
  obtain⟨z,hd,vs,rel,dd⟩:=qI I.hok e
  obtain⟨w',hw,rw'⟩:=fX.some_of (v:=v) (o:=valueAt vs k) (by rw[<-l];exact rel.val k)
  have hp:(keyPart u).isSome=true:=by
    cases k with
    | inl i=>obtain⟨t,q⟩:=(show ∃t,u=Value.int i t from ry);subst q;rfl
    | inr x=>obtain⟨t,q⟩:=(show ∃t,u=Value.str x t from ry);subst q;rfl
  have ha:argsOk "dict.pop" ⟨.ref a::u::more,[]⟩:=by
    rcases hm with q | ⟨x,q⟩
    · subst q;exact PySem.F.args_dict_pop_2 _ _
    · subst q;exact PySem.F.args_dict_pop_3 _ _ _
  refine call_meetsIn PySem.F.slot_dict_pop dd.typeIs PySem.F.entry_dict_pop ha (meets_dict_pop_there (cz X.prog X.w) a (pq ry) more hm hp)
    ⟨vs,w',dd,by rw[<-rel.length];exact z,hw,fun h' dd' hs=>h w' _ ?_ rw'⟩
  have he:∃q,h'.get? a=some q:=let ⟨q,_,_,hq,_⟩:=dd';⟨q,hq⟩
  exact qp I (by rw[e];exact True.intro) hs he (uP (Nat.le_trans (wq kvs k) z) hd (rel.drop k) dd')
theorem E5 {r:Value}{Q:Value->Shared->Prop}(I:Inv X pins σ H s)(e:H a=some (.dK kvs))(ry:RelV (kV k) u)(l:bq kvs k=none)(h:∀s',Inv X pins σ H s'->Q r s'):
    wpAny (model X.prog X.w) A (call (.builtin "dict.pop") [.ref a,u,r]) Q E s:=by
  obtain⟨z,hd,vs,rel,dd⟩:=qI I.hok e
  have hn:valueAt vs k=none:=fX.none_of (by rw[<-l];exact rel.val k)
  have hp:(keyPart u).isSome=true:=by
    cases k with
    | inl i=>obtain⟨t,q⟩:=(show ∃t,u=Value.int i t from ry);subst q;rfl
    | inr x=>obtain⟨t,q⟩:=(show ∃t,u=Value.str x t from ry);subst q;rfl
  exact call_meetsIn PySem.F.slot_dict_pop dd.typeIs PySem.F.entry_dict_pop (PySem.F.args_dict_pop_3 _ _ _) (meets_dict_pop_default (cz X.prog X.w) a (pq ry) hd hp r) ⟨vs,dd,hn,h _ (I.tok _)⟩
theorem F3 {Q:Value->Shared->Prop}(I:Inv X pins σ H s)(e:Rd H a (.dK kvs))(h:∀t s',Inv X pins σ H s'->Q (.int kvs.length t) s'): wpAny (model X.prog X.w) A (call (.builtin "len") [.ref a]) Q E s:=by
  obtain⟨z,hd,vs,rel,dd⟩:=qH I.hok e
  refine call_len_dict hd dd (by rw[<-rel.length];rw[sizeLine_eq] at z;omega) ?_
  rw[<-rel.length]
  exact h _ _ (I.tok _)
end
def E6 (i:Expr): Prop:=∀ov iv,subscripted i false ov iv=operate [ov,iv] (getItem ov iv)
theorem yU {prog:Program}{w:World}{A:Around}{E:Value->Shared->Prop}{s:Shared}{env:Env}{value slice:Expr}{pos:Pos}{T id:String}{Q:Value->Shared->Prop}
    (hl:typeLookup (.type T) "__getitem__" = pure (some (.builtin id))) (hs:E6 slice)
    (h:wpAny (model prog w) A (eval value env) (fun o s₁=>wpAny (model prog w) A (eval slice env) (fun i s₂=>s₂.TypeIs o T/\wpAny (model prog w) A (getItem o i) Q E s₂) E s₁) E s) :
    wpAny (model prog w) A (eval (.Subscript value slice pos) env) Q E s:=by
  refine Subscript_ (wpAny_mono h (fun o s₁ h₁=>wpAny_mono h₁ (fun i s₂ h₂=>?_) fun _ _ x=>x) fun _ _ x=>x)
  obtain⟨hT,h₂⟩:=h₂
  unfold subscriptTail
  refine wpAny_bind ?_
  rw[getitemInPython_of_ne hT.not_modules]
  refine wpAny_bind (wpAny_specialOf hT hl ?_)
  have fin:wpAny (model prog w) A (subscripted slice false o i) (fun r s₃=>wpAny (model prog w) A (letTemporaryGo value o r >>= fun _=>pure r) Q E s₃) E s₂:=by
    rw[hs o i]
    exact wpAny_operating (wpAny_mono h₂ (fun r s₃ h₃=>wpAny_bind (wpAny_letTemporaryGo (wpAny_pure h₃))) fun _ _ x=>x)
  first
    | exact wpAny_pure (wpAny_bind fin)
    | exact wpAny_bind (wpAny_pure (wpAny_bind fin))
    | exact wpAny_bind fin
theorem wt {X:Cx}{pins:List (Addr×Obj)}{σ:St}{H:Hp}{s:Shared}{a:Addr}{y:V}{o:Option V}(I:Inv X pins σ H s)(g:dv H a y o): s.TypeIs (.ref a) "dict" := by
  rcases g with ⟨kvs,k,e,_,_⟩ | ⟨kvs,k,b,e,_,_,_⟩
  · obtain⟨_,_,vs,_,dd⟩:=qH I.hok e
    exact dd.typeIs
  · obtain⟨_,_,xs,_,dd⟩:=tV I.hok e
    exact dd.typeIs
def F4 (td ty:TE): TE:=fun σ H Q=>td σ H fun x H1=>ty σ H1 fun y H2=>∃a v,x=.ref a/\dv H2 a y (some v)/\Q v H2
def F5 (td ty tv:TE): TS:=fun D σ H=>tv σ H fun v H1=>td σ H1 fun x H2=>ty σ H2 fun y H3=>∃a H4,x=.ref a/\pN H3 a y v H4/\D.nx σ H4
section
variable {X:Cx}{o i e value:Expr}{pos pos' tpos:Pos}{td ty tv:TE}
theorem gS (hu:X.A.units+1 < cLine)(ho:PE X o td)(hi:PE X i ty)(hs:E6 i): PE X (.Subscript o i pos) (F4 td ty):=by
  intro pins s σ H Q I h
  refine yU PySem.F.slot_dict_getitem.lookup hs (thn (ho pins s σ H _ I h) fun u s1 ⟨x,H1,I1,rx,q1⟩=>thn (hi pins s1 σ H1 _ I1 q1) fun iv s2 ⟨y,H2,I2,ry,a,v,ex,g,q2⟩=>?_)
  subst ex
  obtain rfl:u=Value.ref a:=rx
  exact⟨wt I2 g,zW hu I2 g ry fun w' s3 I3 rw'=>⟨v,H2,I3,rw',q2⟩⟩
theorem mS (hu:X.A.units+1 < cLine)(ho:PE X o td)(hi:PE X i ty)(hv:PE X value tv)(hs:swapsWith value (some (.Subscript o i pos')) pos.line X.env=pure false):
    PS X (.Assign [.Subscript o i pos'] value pos) (F5 td ty tv):=by
  intro pins s σ H D I h
  refine wpAny_Assign_Subscript (thn (hv pins s σ H _ I h) fun r s1 ⟨v,H1,I1,rv,q1⟩=>thn (ho pins s1 σ H1 _ I1 q1) fun u s2 ⟨x,H2,I2,rx,q2⟩=>thn (hi pins s2 σ H2 _ I2 q2) fun iv s3 ⟨y,H3,I3,ry,a,H4,ex,g,q3⟩=>?_) hs
  subst ex
  obtain rfl:u=Value.ref a:=rx
  exact zX hu I3 g ry rv fun s4 I4=>⟨σ,H4,I4,q3⟩
end
theorem Bu {P:Program}{w:World}{H:Hp}(h:Heap)(hb:sysModules < h.objs.size): bJ P w H (h.push { cls:=.type "dict",data:=.dict #[] }) h.objs.size (.dK []) :=
  ⟨Nat.zero_le _,beq_eq_false_iff_ne.mpr (Ne.symm (Nat.ne_of_lt hb)),[],.nil,Heap.DictOf.new h⟩
theorem Bv {P:Program}{w:World}{H:Hp}(h:Heap)(hb:sysModules < h.objs.size): bJ P w H (h.push { cls:=.type "dict",data:=.dict #[] }) h.objs.size (.dT []) :=
  ⟨Nat.zero_le _,beq_eq_false_iff_ne.mpr (Ne.symm (Nat.ne_of_lt hb)),[],.nil,_,#[],0,Heap.get?_push_size _ rfl,⟨rfl,rfl,rfl⟩,rfl,rfl,List.nodup_nil⟩
def E7:TE:=fun _ H Q=>∀p,H p=none->Q (.ref p) (upd H p (.dK []))
def E8:TE:=fun _ H Q=>∀p,H p=none->Q (.ref p) (upd H p (.dT []))
section
variable {X:Cx}{pos:Pos}
theorem qK:PE X (.Dict [] [] pos) E7:=fun pins s σ H Q I h =>
  wpAny_Dict_empty ⟨.ref s.heap.objs.size,_,I.laid (a:=s.heap.objs.size) (o:=.dK []) (t':=s.toks) (fun _ _ q=>Heap.get?_push_of_some _ q) (Nat.le_refl _) (Bu s.heap I.big),rfl,h _ (I.hok.fresh (Nat.le_refl _))⟩
theorem Bw:PE X (.Dict [] [] pos) E8:=fun pins s σ H Q I h =>
  wpAny_Dict_empty ⟨.ref s.heap.objs.size,_,I.laid (a:=s.heap.objs.size) (o:=.dT []) (t':=s.toks) (fun _ _ q=>Heap.get?_push_of_some _ q) (Nat.le_refl _) (Bv s.heap I.big),rfl,h _ (I.hok.fresh (Nat.le_refl _))⟩
end
structure M1 (X:Cx)(o:Expr)(m:Str)(apos:Pos)(e:Expr)(cpos:Pos): Prop where
  base:attributeBase o m X.env (eval o X.env)=eval o X.env
  few:((backTo cpos (starEach [e] X.env)).all (fun x=>!x.1)&&(backToKw cpos (keywordEach [] X.env)).all (fun x=>x.1.isSome)
    && decide (([e]:List Expr).length+([]:List Keyword).length+(if ([]:List Keyword).isEmpty then 0 else 1) < 30))=true
  line:(apos.endLine==cpos.line)=true
  trees:backTo cpos (starEach [e] X.env)=[(false,eval e X.env)]
structure M2 (X:Cx)(o:Expr)(m:Str)(apos:Pos)(e f:Expr)(cpos:Pos): Prop where
  base:attributeBase o m X.env (eval o X.env)=eval o X.env
  few:((backTo cpos (starEach [e,f] X.env)).all (fun x=>!x.1)&&(backToKw cpos (keywordEach [] X.env)).all (fun x=>x.1.isSome)
    && decide (([e,f]:List Expr).length+([]:List Keyword).length+(if ([]:List Keyword).isEmpty then 0 else 1) < 30))=true
  line:(apos.endLine==cpos.line)=true
  trees:backTo cpos (starEach [e,f] X.env)=[(false,eval e X.env),(false,eval f X.env)]
def IsD (H:Hp)(a:Addr): Prop:=(∃kvs,Rd H a (.dK kvs))\/∃kvs,Rd H a (.dT kvs)
theorem x5 {X:Cx}{pins:List (Addr×Obj)}{σ:St}{H:Hp}{s:Shared}{a:Addr}(I:Inv X pins σ H s)(d:IsD H a):
    s.TypeIs (.ref a) "dict" ∧ (∀b,Value.ref a=.ref b->∃ob,s.heap.get? b=some ob/\ob.dict=none)/\(a==sysModules)=false:=by
  rcases d with ⟨kvs,e⟩ | ⟨kvs,e⟩
  · obtain⟨_,hd,vs,_,dd⟩:=qH I.hok e
    refine⟨dd.typeIs,fun b q=>?_,hd⟩
    cases q
    obtain⟨ob,_,_,h1,h2,_⟩:=dd
    exact⟨ob,h1,h2.2.1⟩
  · obtain⟨_,hd,xs,_,dd⟩:=tV I.hok e
    refine⟨dd.typeIs,fun b q=>?_,hd⟩
    cases q
    obtain⟨ob,_,_,h1,h2,_⟩:=dd
    exact⟨ob,h1,h2.2.1⟩
section
variable {X:Cx}{pins:List (Addr×Obj)}{σ:St}{H:Hp}{s:Shared}{a:Addr}{y d:V}{u r:Value}{o:Option V}{A:Around}{E:Value->Shared->Prop}
end
def E9 (td ty:TE): TE:=fun σ H Q=>td σ H fun x H1=>∃a,x=.ref a/\IsD H1 a/\ty σ H1 fun y H2=>∃kvs k v,H2 a=some (.dK kvs)/\y=kV k/\bq kvs k=some v/\Q v (upd H2 a (.dK (dA kvs k)))
def E_ (td ty tx:TE): TE:=fun σ H Q=>td σ H fun x H1=>∃a,x=.ref a/\IsD H1 a/\ty σ H1 fun y H2=>tx σ H2 fun z H3=>∃kvs k,H3 a=some (.dK kvs)/\y=kV k ∧
  (∀v,bq kvs k=some v->Q v (upd H3 a (.dK (dA kvs k))))/\(bq kvs k=none->Q z H3)
section
variable {X:Cx}{o e f:Expr}{apos cpos:Pos}{td ty tx:TE}
theorem wu (ho:PE X o td) (he:PE X e ty) (m:M1 X o "pop" apos e cpos):PE X (.Call (.Attribute o "pop" apos) [e] [] cpos) (E9 td ty):=by
  intro pins s σ H Q I h
  refine wpAny_Call_method m.base m.few m.line PySem.F.plainAttrs_dict PySem.F.slot_dict_pop PySem.F.type_dict_pop (thn (ho pins s σ H _ I h) fun u s1 ⟨x,H1,I1,rx,a,ex,d,q1⟩=>?_)
  subst ex
  obtain rfl:u=Value.ref a:=rx
  obtain⟨t1,t2,_⟩:=x5 I1 d
  refine⟨t1,t2,?_⟩
  rw[m.trees]
  refine Calls.callWith_builtin rfl (Calls.evalArgs_plain (Calls.spliced_cons (thn (he pins s1 σ H1 _ I1 q1) fun iv s2 ⟨y,H2,I2,ry,kvs,k,v,ea,ey,l,q2⟩=>Calls.spliced_nil ?_)))
  subst ey
  exact Em I2 ea ry l (.inl rfl) fun w' s3 I3 rw'=>⟨v,_,I3,rw',q2⟩
theorem By (ho:PE X o td) (he:PE X e ty) (hf:PE X f tx) (m:M2 X o "pop" apos e f cpos):PE X (.Call (.Attribute o "pop" apos) [e,f] [] cpos) (E_ td ty tx):=by
  intro pins s σ H Q I h
  refine wpAny_Call_method m.base m.few m.line PySem.F.plainAttrs_dict PySem.F.slot_dict_pop PySem.F.type_dict_pop (thn (ho pins s σ H _ I h) fun u s1 ⟨x,H1,I1,rx,a,ex,d,q1⟩=>?_)
  subst ex
  obtain rfl:u=Value.ref a:=rx
  obtain⟨t1,t2,_⟩:=x5 I1 d
  refine⟨t1,t2,?_⟩
  rw[m.trees]
  refine Calls.callWith_builtin rfl (Calls.evalArgs_plain (Calls.spliced_cons (thn (he pins s1 σ H1 _ I1 q1) fun iv s2 ⟨y,H2,I2,ry,q2⟩ =>
    Calls.spliced_cons (thn (hf pins s2 σ H2 _ I2 q2) fun fv s3 ⟨z,H3,I3,rz,kvs,k,ea,ey,q3,q4⟩=>Calls.spliced_nil ?_))))
  subst ey
  cases l:bq kvs k with
  | some v=>exact Em I3 ea ry l (.inr ⟨fv,rfl⟩) fun w' s4 I4 rw'=>⟨v,_,I4,rw',q3 v l⟩
  | none=>exact E5 I3 ea ry l fun s4 I4=>⟨z,H3,I4,rz,q4 l⟩
end
section
variable {X:Cx}{pins:List (Addr×Obj)}{σ:St}{H:Hp}{s:Shared}{a:Addr}{kvs:List (Key×V)}{A:Around}{E:Value->Shared->Prop}
end
section
variable {X:Cx}{pins:List (Addr×Obj)}{σ:St}{H:Hp}{s:Shared}{a:Addr}{y:V}{u:Value}{A:Around}{E:Value->Shared->Prop}
end
end L2
namespace L2
open PySem PySem.Spec PyProof.Rows
section
variable {X:Cx}
theorem zY:eZ X (.builtin "len") (fun xs H Q=>∃a kvs,xs=[V.ref a]/\H a=some (.dK kvs)/\Q (.int kvs.length) H):=by
  intro pins s σ H xs us Q I r h
  obtain⟨a,kvs,rfl,ha,q⟩:=h
  obtain⟨u,rfl,ru⟩:=vals1 r
  cases ru
  exact F3 I (.inl ha) fun t s' I'=>⟨.int kvs.length,H,I',⟨t,rfl⟩,q⟩
end
section
variable {κ:Type}[DecidableEq κ]
theorem Bz {kvs:List (κ×V)}{k:κ}(h:bq kvs k=none): ¬k∈kvs.map (·.1):=by
  intro m
  obtain⟨p,hp,e⟩:=List.mem_map.mp m
  have q:(kvs.any fun kv=>decide (kv.1=k))=true:=List.any_eq_true.mpr ⟨p,hp,decide_eq_true e⟩
  rw[fc,h] at q
  exact absurd q (by simp)
theorem Dt {kvs:List (κ×V)}{k:κ}{v:V}(h:bq kvs k=some v): k∈kvs.map (·.1):=by
  have q:(kvs.any fun kv=>decide (kv.1=k))=true:=by
    rw[fc,h]
    all_goals rfl
  obtain⟨p,hp,e⟩:=List.any_eq_true.mp q
  exact List.mem_map.mpr ⟨p,hp,of_decide_eq_true e⟩
theorem yV:∀{l:List κ} {k:κ},l.Nodup->¬k∈l->(l++[k]).Nodup
  | [],k,_,_=>by simp
  | a::r,k,h,hk=>by
    obtain⟨h1,h2⟩:=List.nodup_cons.mp h
    show (a::(r++[k])).Nodup
    refine List.nodup_cons.mpr ⟨fun m=>?_,yV h2 fun m=>hk (List.mem_cons.mpr (Or.inr m))⟩
    rcases List.mem_append.mp m with q | q
    · exact h1 q
    · exact hk (List.mem_cons.mpr (Or.inl (List.mem_singleton.mp q).symm))
theorem yW {kvs:List (κ×V)}{k:κ}(v:V)(hn:(kvs.map (·.1)).Nodup)(h:bq kvs k=none): ((putK kvs k v).map (·.1)).Nodup:=by
  rw[qG v h,List.map_append]
  exact yV hn (Bz h)
theorem oi {p:κ×V}{r:List (κ×V)}{k:κ}(e:p.1=k): dA (p::r) k=dA r k:=by
  unfold dA
  rw[List.filter_cons,if_neg (by simp[e])]
theorem oj {p:κ×V}{r:List (κ×V)}{k:κ}(e:¬p.1=k): dA (p::r) k=p::dA r k:=by
  unfold dA
  rw[List.filter_cons,if_pos (by simp[e])]
theorem zZ {kvs:List (κ×V)}{k:κ}{p:κ×V}(h:p∈dA kvs k): p∈kvs:=(List.mem_filter.mp h).1
theorem qL:∀{kvs:List (κ×V)} {k:κ},(kvs.map (·.1)).Nodup->((dA kvs k).map (·.1)).Nodup
  | [],_,_=>List.nodup_nil
  | p::r,k,h=>by
    have h:(p.1::r.map (·.1)).Nodup:=h
    obtain⟨h1,h2⟩:=List.nodup_cons.mp h
    by_cases e:p.1=k
    · rw[oi e]
      exact qL h2
    · rw[oj e]
      show (p.1::(dA r k).map (·.1)).Nodup
      refine List.nodup_cons.mpr ⟨fun m=>h1 ?_,qL h2⟩
      obtain⟨q,hq,eq⟩:=List.mem_map.mp m
      exact List.mem_map.mpr ⟨q,zZ hq,eq⟩
end
end L2

set_option maxHeartbeats 4000000
namespace L2
open PySem
def qM (h:Heap)(a:Addr)(cls:Value)(dct:Option Addr)(hd:Value): Prop :=
  ∃oe vs,h.get? a=some oe/\oe.cls=cls/\oe.dict=dct/\oe.data=.fields vs/\vs[1]?=some hd ∧
    (hd=.none\/∃T oT ts,hd=.ref T/\T≠a/\h.get? T=some oT/\oT.data=.fields ts/\ts[3]?=some .none)
theorem tW (o:Obj)(f:Array Value->Array Value): (o.mapFields f).dict=o.dict:=by
  obtain⟨c,d,dt,sl⟩:=o
  cases dt<;>rfl
section
variable {M:Model}{A:Around}{E:Value->Shared->Prop}{s:Shared}
theorem tX {base:Heap}{env:Env}{outer:List Env}{L a:Addr}{oe:Obj}{vs:Array Value}{hd:Value}{b:Bool}{Q:Unit->Shared->Prop}
    (hfr:A.frames=some (env::outer)) (hl:s.heap.FunFrames base (env::outer)) (hf:env.frame=some L) (he:s.heap.get? a=some oe) (hdt:oe.data=.fields vs) (h1:1 < vs.size)
    (h:∀(h':Heap) (T:Addr),s.heap.get? T=none->T≠a->(∀b o,b≠a->b∉(env::outer).filterMap (·.frame)->s.heap.get? b=some o->h'.get? b=some o) ->
      (∀b o,b≠a->s.heap.get? b=some o->∃sl,h'.get? b=some { o with slots:=sl })->qM h' a oe.cls oe.dict (.ref T)->Q () { s with heap:=h' }) :
    wpAny M A (do setField (.ref a) 1 (<-EntryCells.newEntry hd (<-frameOf env) .none (rawInt L) .none (<-entryPlaceOf L b))) (fun _ s'=>wpAny M A (setFlight (.ref a) none) Q E s') E s:=by
  have na:a∉(env::outer).filterMap (·.frame):=fun hm=>by
    obtain⟨_,o,ho,hn⟩:=hl.mem hm
    rw[he] at ho;cases ho
    exact hn vs hdt
  refine wpAny_bind (wpAny_frameOf_fun hfr hl hf fun h₁ hs=>?_)
  refine wpAny_bind (wpAny_entryPlaceOf fun pl hpl=>?_)
  unfold EntryCells.newEntry newFields
  refine wpAny_bind (wpAny_newObj_type ?_ (hpl.sizeOk5 _ _ _ _ _))
  generalize hts:([hd,Value.ref L,Value.none,rawInt L,Value.none]++(if pl.isEmpty then List.replicate 6 Value.none else pl)).toArray=ts
  have hsz:3 < ts.size:=by
    rw[<-hts]
    simp only [List.size_toArray,List.length_append,List.length_cons,List.length_nil]
    omega
  have e1:h₁.get? a=some oe:=(hs.2.1 a na).trans he
  have lt1:h₁.objs.size≠a:=Nat.ne_of_gt (Heap.lt_size e1)
  have e2:(h₁.push { cls:=.type "traceback",dict:=none,data:=.fields ts }).get? a=some oe:=Heap.get?_push_of_some _ e1
  refine wpAny_setField e2 hdt h1 ?_
  have d3:=Obj.data_mapFields hdt (·.setIfInBounds 1 (Value.ref h₁.objs.size))
  have e3:=Heap.get?_update_self (Obj.mapFields (·.setIfInBounds 1 (Value.ref h₁.objs.size))) e2 (Obj.isFreed_of_fields d3)
  have t3:((h₁.push { cls:=.type "traceback",dict:=none,data:=.fields ts }).update a (Obj.mapFields (·.setIfInBounds 1 (Value.ref h₁.objs.size)))).get? h₁.objs.size=some { cls:=.type "traceback",dict:=none,data:=.fields ts }:=by
    rw[Heap.get?_update_other _ _ (Ne.symm lt1)]
    exact Heap.get?_push_size h₁ rfl
  unfold setFlight
  refine wpAny_bind (wpAny_field e3 d3 (x:=.ref h₁.objs.size) (by simp[h1]) ?_)
  rw[if_pos (show (Value.ref h₁.objs.size != Value.none)=true by simp)]
  refine wpAny_setField t3 rfl hsz ?_
  have keep:∀b o,b≠a->h₁.get? b=some o->(((h₁.push { cls:=.type "traceback",dict:=none,data:=.fields ts }).update a (Obj.mapFields (·.setIfInBounds 1 (Value.ref h₁.objs.size)))).update h₁.objs.size
      (Obj.mapFields (·.setIfInBounds 3 ((none:Option Addr).elim Value.none fun f=>rawInt f)))).get? b=some o:=fun b o nb e=>by
    rw[Heap.get?_update_other _ _ (Nat.ne_of_gt (Heap.lt_size e)),Heap.get?_update_other _ _ (Ne.symm nb)]
    exact Heap.get?_push_of_some _ e
  refine h _ h₁.objs.size ?_ lt1 (fun b o nb nf e=>keep b o nb ((hs.2.1 b nf).trans e)) (fun b o nb e=>?_) ?_
  · rw[hs.1]
    exact Heap.get?_none_of_le (Nat.le_refl _)
  · obtain⟨sl,q⟩:=hs.2.2 b o e
    exact⟨sl,keep b _ nb q⟩
  · refine⟨_,_,?_,Obj.cls_mapFields oe (·.setIfInBounds 1 (Value.ref h₁.objs.size)),tW oe (·.setIfInBounds 1 (Value.ref h₁.objs.size)),d3,by simp[h1],.inr ⟨h₁.objs.size,_,_,rfl,lt1,
      Heap.get?_update_self _ t3 (Obj.isFreed_of_fields (Obj.data_mapFields rfl _)),Obj.data_mapFields rfl _,by simp[hsz]⟩⟩
    rw[Heap.get?_update_other _ _ lt1]
    exact e3
theorem wv {base:Heap}{env:Env}{outer:List Env}{L a:Addr}{cls hd:Value}{dct:Option Addr}{Q:Unit->Shared->Prop}
    (hfr:A.frames=some (env::outer)) (hl:s.heap.FunFrames base (env::outer)) (hf:env.frame=some L) (hx:qM s.heap a cls dct hd)
    (h:∀(h':Heap) (T:Addr),s.heap.get? T=none->T≠a->(∀b o,b≠a->hd≠.ref b->b∉(env::outer).filterMap (·.frame)->s.heap.get? b=some o->h'.get? b=some o) ->
      (∀b o,b∈(env::outer).filterMap (·.frame)->s.heap.get? b=some o->∃sl,h'.get? b=some { o with slots:=sl })->qM h' a cls dct (.ref T)->Q () { s with heap:=h' }) :
    wpAny M A (noteFrame (.ref a) env) (fun _ s'=>wpAny M A (setFlight (.ref a) none) Q E s') E s:=by
  obtain⟨oe,vs,he,rfl,rfl,hdt,h1,hc⟩:=hx
  have fr:∀b o,b∈(env::outer).filterMap (·.frame)->s.heap.get? b=some o->∀ws,o.data≠.fields ws:=fun b o hb e=>by
    obtain⟨_,o',ho,hn⟩:=hl.mem hb
    rw[e] at ho;cases ho
    exact hn
  have na:∀b o,b∈(env::outer).filterMap (·.frame)->s.heap.get? b=some o->b≠a:=fun b o hb e z=>by
    subst z
    rw[e] at he;cases he
    exact fr _ _ hb e vs hdt
  have z1:=(Array.getElem?_eq_some_iff.mp h1).1
  unfold noteFrame
  simp only [hf]
  refine wpAny_bind (wpAny_field he hdt h1 ?_)
  rcases hc with rfl | ⟨T,oT,ts,rfl,hTa,hT,hTd,h3⟩
  · rw[if_neg (by decide)]
    refine tX hfr hl hf he hdt z1 fun h' T' n1 n2 k1 k2 fl=>h h' T' n1 n2 (fun b o nb _ nf e=>k1 b o nb nf e) (fun b o hb e=>k2 b o (na b o hb e) e) fl
  · rw[if_pos (show (Value.ref T != Value.none)=true by simp)]
    refine wpAny_bind (wpAny_field hT hTd h3 ?_)
    rw[if_neg (show ¬((Value.none==rawInt L)=true) by simp[rawInt])]
    refine wpAny_bind (wpAny_setField hT hTd (Array.getElem?_eq_some_iff.mp h3).1 ?_)
    have oth:∀b,b≠T->(s.heap.update T (Obj.mapFields (·.setIfInBounds 3 Value.none))).get? b=s.heap.get? b:=fun b nb=>Heap.get?_update_other _ _ (Ne.symm nb)
    have fT:∀b o,s.heap.get? b=some o->(∀ws,o.data≠.fields ws)->b≠T:=fun b o e hn z=>by
      rw[z,hT] at e;cases e
      exact hn ts hTd
    refine tX (s:={ s with heap:=s.heap.update T (Obj.mapFields (·.setIfInBounds 3 Value.none)) }) hfr (hl.of_keeps fun b o e hn=>⟨o,(oth b (fT b o e hn)).trans e,rfl⟩) hf ((oth a (Ne.symm hTa)).trans he) hdt z1
      fun h' T' n1 n2 k1 k2 fl=>h h' T' ?_ n2 (fun b o nb nT nf e=>k1 b o nb nf ((oth b (fun z=>nT (by rw[z]))).trans e)) (fun b o hb e=>k2 b o (na b o hb e) ((oth b (fT b o e (fr b o hb e))).trans e)) fl
    cases q:s.heap.get? T' with
    | none=>rfl
    | some o =>
      by_cases z:T'=T
      · subst z
        have:=Heap.get?_update_self (Obj.mapFields (·.setIfInBounds 3 Value.none)) hT (Obj.isFreed_of_fields (Obj.data_mapFields hTd _))
        rw[this] at n1;cases n1
      · have n1':(s.heap.update T (Obj.mapFields (·.setIfInBounds 3 Value.none))).get? T'=none:=n1
        rw[oth T' z,q] at n1';cases n1'
theorem z8 {base:Heap}{env:Env}{outer:List Env}{L a:Addr}{cls hd:Value}{dct:Option Addr}{Q:Unit->Shared->Prop}
    (hfr:A.frames=some (env::outer)) (hl:s.heap.FunFrames base (env::outer)) (hf:env.frame=some L) (hx:qM s.heap a cls dct hd)
    (h:∀(h':Heap) (T:Addr),s.heap.get? T=none->T≠a->(∀b o,b≠a->hd≠.ref b->b∉(env::outer).filterMap (·.frame)->s.heap.get? b=some o->h'.get? b=some o) ->
      (∀b o,b∈(env::outer).filterMap (·.frame)->s.heap.get? b=some o->∃sl,h'.get? b=some { o with slots:=sl })->qM h' a cls dct (.ref T)->Q () { s with heap:=h' }) :
    wpAny M A (leaving env (.ref a)) Q E s:=by
  unfold leaving
  exact wpAny_bind (wv hfr hl hf hx h)
theorem BD {a T:Addr}{cls:Value}{dct:Option Addr}{Q:Unit->Shared->Prop}(hx:qM s.heap a cls dct (.ref T))
    (h:∀h',(∀b o,b≠T->s.heap.get? b=some o->h'.get? b=some o)->qM h' a cls dct (.ref T)->Q () { s with heap:=h' }):wpAny M A (setFlight (.ref a) none) Q E s:=by
  obtain⟨oe,vs,he,rfl,rfl,hdt,h1,hc⟩:=hx
  rcases hc with z | ⟨T',oT,ts,z,hTa,hT,hTd,h3⟩
  · cases z
  · cases z
    unfold setFlight
    refine wpAny_bind (wpAny_field he hdt h1 ?_)
    rw[if_pos (show (Value.ref T != Value.none)=true by simp)]
    have z3:=(Array.getElem?_eq_some_iff.mp h3).1
    have oth:∀b,b≠T->(s.heap.update T (Obj.mapFields (·.setIfInBounds 3 ((none:Option Addr).elim Value.none fun f=>rawInt f)))).get? b=s.heap.get? b:=fun b nb=>Heap.get?_update_other _ _ (Ne.symm nb)
    refine wpAny_setField hT hTd z3 (h _ (fun b o nb e=>(oth b nb).trans e) ⟨oe,vs,(oth a (Ne.symm hTa)).trans he,rfl,rfl,hdt,h1,.inr ⟨T,_,_,rfl,hTa,Heap.get?_update_self _ hT (Obj.isFreed_of_fields (Obj.data_mapFields hTd _)),Obj.data_mapFields hTd _,?_⟩⟩)
    simp[z3]
end
end L2

set_option maxHeartbeats 4000000
namespace L2
open PySem PySem.Spec PyProof.Rows
def En (h0 h:Heap)(H:Hp)(a:Addr)(cls:Value)(dct:Option Addr): Prop :=
  ∃hd,qM h a cls dct hd/\H a=none/\h0.get? a=none/\∀T,hd=.ref T->H T=none/\h0.get? T=none
def CXE (P:Program)(w:World): CXT:=fun outer H s E e s'=>∃a cls dct H',e=.ref a/\s'.os=s.os/\AllBare s'.gens/\Un (frs outer) [] H H' s.heap s'.heap/\HOk P w H' s'.heap/\En s.heap s'.heap H' a cls dct/\E cls dct H'
theorem bJ.there {P:Program}{w:World}{H:Hp}{h:Heap}{a:Addr}{o:HO}(x:bJ P w H h a o): ∃ob,h.get? a=some ob:=by
  cases o with
  | lst xs=>obtain⟨_,_,_,_,e⟩:=x;exact⟨_,e⟩
  | tup xs=>obtain⟨_,_,_,ob,e,_⟩:=x;exact⟨_,e⟩
  | dK kvs=>obtain⟨_,_,_,_,o,_,_,e,_⟩:=x;exact⟨_,e⟩
  | dT kvs=>obtain⟨_,_,_,_,o,_,_,e,_⟩:=x;exact⟨_,e⟩
  | set S n=>obtain⟨o,_,_,_,e,_⟩:=x;exact⟨_,e⟩
  | ins C dx fs=>obtain⟨_,_,_,e,_⟩:=x;exact⟨_,e⟩
  | own y=>exact x
  | xd fs=>obtain⟨_,⟨_,_,_,e,_⟩,_⟩:=x;exact⟨_,e⟩
  | rng lo hi=>obtain⟨_,_,_,e⟩:=x;exact⟨_,e⟩
  | frz ob u=>obtain⟨e,_⟩:=x;exact⟨_,e⟩
  | tbl ps=>exact⟨_,(show h.get? a=some _ from x)⟩
  | met f y=>exact⟨_,(show h.get? a=some _ from x)⟩
  | ext φ=>obtain⟨_,e,_⟩:=x;exact e
theorem yX {env:Env}{l:List Env}{b:Addr}(hb:b∈frs l): b∈frs (env::l):=by
  unfold frs at *
  rw[List.filterMap_cons]
  cases env.frame with
  | none=>exact hb
  | some L=>exact List.mem_cons_of_mem _ hb
section
variable {X:Cx}{pins:List (Addr×Obj)}{σ:St}{H H':Hp}{s:Shared}{h':Heap}{a T:Addr}{cls hd:Value}{dct:Option Addr}
theorem lB (I:Inv X pins σ H s)(hex:X.ex=[])(n:s.heap.get? a=none): X.s₀.heap.get? a=none:=by
  cases e:X.s₀.heap.get? a with
  | none=>rfl
  | some o =>
    obtain⟨o1,e1⟩:=I.base.there a o e (by rw[hex];simp)
    rw[n] at e1;cases e1
theorem yY (I:Inv X pins σ H s)(keep:∀b o,b≠a->hd≠.ref b->b∉frs X.stack->s.heap.get? b=some o->h'.get? b=some o)(ha:H a=none)(hT:∀T,hd=.ref T->H T=none): HOk X.prog X.w H h':=fun b u e=>by
  have tr:∀c v,H c=some v->c≠a/\hd≠.ref c/\c∉frs X.stack:=fun c v q=>⟨ay q ha,fun z=>(by rw[hT c z] at q;cases q),fun z=>(by rw[I.uE c z] at q;cases q)⟩
  refine(I.hok b u e).stay (fun c v hc q=>?_) (fun _ q=>q) fun _ _ q=>q
  obtain⟨z,hz⟩:∃v,H c=some v:=by
    rcases hc with rfl | hc
    · exact⟨_,e⟩
    · exact⟨_,hc⟩
  exact keep c v (tr c z hz).1 (tr c z hz).2.1 (tr c z hz).2.2 q
theorem uQ (I:Inv X pins σ H s)(n:s.heap.get? T=none): H T=none:=by
  cases q:H T with
  | none=>rfl
  | some u =>
    obtain⟨ob,e⟩:=(I.hok T u q).there
    rw[n] at e;cases e
theorem Du (I:Inv X pins σ H s)(hex:X.ex=[])(hst:X.stack=X.env::X.outer)(ha:H a=none)(na:X.s₀.heap.get? a=none)(hT:∀T,hd=.ref T->H T=none/\X.s₀.heap.get? T=none)
    (nT:s.heap.get? T=none) (keep:∀b o,b≠a->hd≠.ref b->b∉frs X.stack->s.heap.get? b=some o->h'.get? b=some o)
    (slot:∀b o,b∈frs X.stack->s.heap.get? b=some o->∃sl,h'.get? b=some { o with slots:=sl }) (fl:qM h' a cls dct (.ref T)) :
    Un (frs X.outer) [] X.H₀ H X.s₀.heap h'/\HOk X.prog X.w H h'/\En X.s₀.heap h' H a cls dct:=by
  have s0a:∀b o,X.s₀.heap.get? b=some o->b≠a/\hd≠.ref b:=fun b o e=>⟨fun z=>(by rw[z,na] at e;cases e),fun z=>(by rw[(hT b z).2] at e;cases e)⟩
  have s0L:∀b o,X.s₀.heap.get? b=some o->b∈frs X.stack->b∈frs X.outer:=fun b o e hb=>by
    rcases List.mem_cons.mp (I.ko b hb) with z | z
    · rw[z] at e
      exact absurd (Nat.lt_of_lt_of_le (Heap.lt_size e) I.ok.above) (Nat.lt_irrefl _)
    · exact z
  have sA:∀b:Addr,b∉X.ex:=fun b=>by rw[hex];simp
  refine⟨⟨fun b o e n hb _=>?_,fun b o e n hb _=>?_,fun b o e n _=>I.base.free b o e n (sA b),fun b o e _=>?_,I.base.tups,I.base.lJ,I.base.mK⟩,yY I keep ha fun T z=>(hT T z).1,?_⟩
  · exact keep b o (s0a b o e).1 (s0a b o e).2 (fun z=>hb (s0L b o e z)) (I.base.keep b o e n hb (sA b))
  · obtain⟨sl,e1⟩:=I.base.slot b o e n hb (sA b)
    obtain⟨sl',e2⟩:=slot b _ (by rw[hst];exact yX hb) e1
    exact⟨sl',e2⟩
  · obtain⟨o1,e1⟩:=I.base.there b o e (sA b)
    by_cases hb:b∈frs X.stack
    · obtain⟨sl,e2⟩:=slot b o1 hb e1
      exact⟨_,e2⟩
    · exact⟨_,keep b o1 (s0a b o e).1 (s0a b o e).2 hb e1⟩
  · exact⟨.ref T,fl,ha,na,fun T' z=>by cases z;exact⟨uQ I nT,lB I hex nT⟩⟩
def cD (CX:CXT)(X:Cx)(E:St->XK): Prop:=∀(pins:List (Addr×Obj)) (σ:St) (H:Hp) (s:Shared) (e:Value) (s':Shared),Inv X pins σ H s->CX X.stack H s (E σ) e s'->X.xe e s'
end
section
variable {P:Program}{w:World}{K:W.Frag}{mg:Str->Option Value}{base:Heap}{N:List Str}{qual:Str}{scope:Scope}{f:Addr}{cd:Value}{A:Around}{outer:List Env}{s:Shared}{H:Hp}{E:XK}
theorem ao:cD (CXE P w) (dJ (CXE P w) P w K mg base N qual scope f cd A outer s H E) (fun _=>E):=by
  intro pins σ H1 s1 e s2 I hx
  obtain⟨a,cls,dct,H2,he,hos,hg,un,hok,⟨hd,fl,ha,na,hT⟩,q⟩:=hx
  subst he
  have I2:Inv (dJ (CXE P w) P w K mg base N qual scope f cd A outer s H E) pins σ H2 s2:=I.call' hos un hok hg (fun b z=>absurd z (by simp))
  show wpAny _ _ (leaving _ (.ref a)) _ _ s2
  refine z8 (env:=envOfC qual scope s.heap.objs.size f cd) (outer:=outer) I.ok.frames I2.stack rfl fl fun h' T n1 n2 k1 k2 fl'=>?_
  obtain⟨y1,y2,y3⟩:=Du I2 rfl rfl ha (lB I rfl na) (fun T z=>⟨(hT T z).1,lB I rfl (hT T z).2⟩) n1 k1 k2 fl'
  exact⟨a,cls,dct,H2,rfl,I2.os,I2.bare,y1,y2,y3,q⟩
theorem bU:PassesOwn (model P w) (A.deeper (envOfC qual scope s.heap.objs.size f cd)) (envOfC qual scope s.heap.objs.size f cd) (dJ (CXE P w) P w K mg base N qual scope f cd A outer s H E).xe:=PassesOwn.leaving
end
section
variable {P:Program}{w:World}{K:W.Frag}{mg:Str->Option Value}{base:Heap}
end
def x6 (sp:Sp)(dvs:List V)(E:St->XK)(t:TA): TE:=fun σ H Q=>t σ H fun vs H1=>sp (vs++dvs) H1 Q (E σ)
def uR (C:Addr)(m:Str)(sp:Sp)(dvs:List V)(E:St->XK)(ta:TE)(t:TA): TE:=fun σ H Q=>ta σ H fun x H1=>∃a dx fs,x=.ref a/\H1 a=some (.ins C dx fs)/\fs.lookup m=none ∧
  t σ H1 fun vs H2=>sp (x::(vs++dvs)) H2 Q (E σ)
def BE (C:Addr)(sp:Sp)(dvs:List V)(E:St->XK)(t:TA): TE:=fun σ H Q=>t σ H fun vs H1=>∀x dx,H1 x=none->H1 dx=none->dx≠x ->
  sp (.ref x::(vs++dvs)) (upd (upd H1 dx (.own x)) x (.ins C dx [])) (fun v H2=>v=.non/\Q (.ref x) H2) (E σ)
section
variable {X:Cx}{CX:CXT}{k:Nat}{f C:Addr}{fd:FuncData}{ps:List Str}{sp:Sp}{dvs:List V}{ds:List Value}{E:St->XK}{x m:Str}{p pos apos:Pos}{e o:Expr}{es:List Expr}{ta:TE}{t:TA}
theorem lC {pins:List (Addr×Obj)}{σ:St}{H:Hp}{s:Shared}{Q:VK}{us:List Value}{vs:List V}(F:fY X.prog X.w X.K X.mg X.base CX k f fd ps sp)(hr:dC k X.A)(hb:Binds X.K fd ps ds)(hd:Vals dvs ds)(hx:cD CX X E)
    (I:Inv X pins σ H s) (r:Vals vs us) (h:sp (vs++dvs) H Q (E σ)):wpAny (model X.prog X.w) X.A (call (.ref f) us) (EP X pins σ Q) X.xe s:=by
  have r2:Vals (vs++dvs) (us++ds):=r.append hd
  have hl:(us++ds).length=ps.length:=by rw[<-r2.length];exact F.len _ _ _ _ h
  refine wpAny_call (codeAny_mono (F.run X.A X.stack s H ⟨us,[]⟩ (us++ds) (vs++dvs) Q (E σ) hr I.env0 (hb s us I.kIn hl) r2 h) fun r s' hq=>?_)
  cases r with
  | error e=>exact hx pins σ H s e s' I hq
  | ok fl =>
    cases fl with
    | ret u=>exact I.after hq
    | next=>exact False.elim hq
    | brk=>exact False.elim hq
    | cont=>exact False.elim hq
theorem BF (F:fY X.prog X.w X.K X.mg X.base CX k f fd ps sp)(hr:dC k X.A)(hg:Gl X x)(hm:X.mg x=some (.ref f))(hk:W.keepIn X.K (.ref f)=true)(hb:Binds X.K fd ps ds)(hd:Vals dvs ds)(hx:cD CX X E)
    (ha:PA X (e::es) t) (hdb:(x==("__debug__" : Str))=false:=by decide) (he:starEach (e::es) X.env=(false,eval e X.env)::starEach es X.env:=by rfl) (hpl:(backTo pos (starEach es X.env)).any (·.1)=false:=by rfl) :
    PE X (.Call (.Name x p) (e::es) [] pos) (x6 sp dvs E t):=by
  intro pins s σ H Q I h
  refine wpAny_Call_Name_kw (gP I hg hm ?_ hdb)
  refine W.callWith_K (h₀:=X.base) I.ok.mod.kin hk (thn (ha pos pins s σ H _ I h) fun us s1 ⟨vs,H1,I1,r,q⟩=>⟨I1.kIn,?_⟩) he hpl
  exact lC F hr hb hd hx I1 r q
theorem BG {pl:Sem Bool}(he:PE X o ta)(c:Cls X.K C)(hm:Meth X.K C m f)(F:fY X.prog X.w X.K X.mg X.base CX k f fd ps sp)(hr:dC k X.A)(hb:Binds X.K fd ps ds)(hd:Vals dvs ds)(hx:cD CX X E)(ha:PA X (e::es) t)
    (hst:starEach (e::es) X.env=(false,eval e X.env)::starEach es X.env:=by rfl) (hpl:(backTo pos (starEach es X.env)).any (·.1)=false:=by rfl)
    (ht:eval (.Call (.Attribute o m apos) (e::es) [] pos) X.env=(do
      let ov <-eval o X.env
      standAt apos.atName
      let (f,first) <-holding [ov] (getMethod ov m pl)
      callWith pos f first (backTo pos (starEach (e::es) X.env)) (backToKw pos (keywordEach [] X.env))):=by rfl) :
    PE X (.Call (.Attribute o m apos) (e::es) [] pos) (uR C m sp dvs E ta t):=by
  intro pins s σ H Q I h
  refine W.methodCall_KW (pl:=pl) (thn (he pins s σ H _ I h) fun u s1 ⟨x,H1,I1,rx,a,dx,fs,ex,ea,l,q⟩=>?_) ht
  subst ex
  obtain rfl:u=Value.ref a:=rx
  refine jD I1 ea c hm l ?_
  refine W.callWith_K (first:=[.ref a]) (h₀:=X.base) I.ok.mod.kin hm.kp (thn (ha pos pins s1 σ H1 _ I1 q) fun us s2 ⟨vs,H2,I2,r,q2⟩=>⟨I2.kIn,?_⟩) hst hpl
  exact lC (us:=.ref a::us) (vs:=.ref a::vs) F hr hb hd hx I2 (.cons rfl r) q2
theorem z9 {pl:Sem Bool}(he:PE X o ta)(c:Cls X.K C)(hm:Meth X.K C m f)(F:fY X.prog X.w X.K X.mg X.base CX k f fd ps sp)(hr:dC k X.A)(hb:Binds X.K fd ps ds)(hd:Vals dvs ds)(hx:cD CX X E)
    (ht:eval (.Call (.Attribute o m apos) [] [] pos) X.env=(do
      let ov <-eval o X.env
      standAt apos.atName
      let (f,first) <-holding [ov] (getMethod ov m pl)
      callWith pos f first (backTo pos (starEach [] X.env)) (backToKw pos (keywordEach [] X.env))):=by rfl) :
    PE X (.Call (.Attribute o m apos) [] [] pos) (uR C m sp dvs E ta zS):=by
  intro pins s σ H Q I h
  refine W.methodCall_KW (pl:=pl) (thn (he pins s σ H _ I h) fun u s1 ⟨x,H1,I1,rx,a,dx,fs,ex,ea,l,q⟩=>?_) ht
  subst ex
  obtain rfl:u=Value.ref a:=rx
  refine jD I1 ea c hm l ?_
  exact W.callWith_K0 (first:=[.ref a]) I1.kIn hm.kp (lC (us:=[.ref a]) (vs:=[.ref a]) F hr hb hd hx I1 (.cons rfl .nil) q)
theorem z_ {pins:List (Addr×Obj)}{σ:St}{H:Hp}{s:Shared}{Q:VK}{us:List Value}{vs:List V}(M:Mk X.K C f)(F:fY X.prog X.w X.K X.mg X.base CX k f fd ps sp)(hr:dC (k+1) X.A)(hb:Binds X.K fd ps ds)(hd:Vals dvs ds)
    (hx:∀(H2:Hp) (s2:Shared) (e:Value) (s':Shared),Inv X pins σ H2 s2->CX X.stack H2 s2 (E σ) e s'->X.xe e s') (I:Inv X pins σ H s) (r:Vals vs us)
    (h:∀x dx,H x=none->H dx=none->dx≠x->sp (.ref x::(vs++dvs)) (upd (upd H dx (.own x)) x (.ins C dx [])) (fun v H2=>v=.non/\Q (.ref x) H2) (E σ)) :
    wpAny (model X.prog X.w) X.A (call (.ref C) us) (EP X pins σ Q) X.xe s:=by
  have hq:=h (s.heap.objs.size+1) s.heap.objs.size (I.hok.fresh (Nat.le_succ _)) (I.hok.fresh (Nat.le_refl _)) (Nat.ne_of_lt (Nat.lt_succ_self _))
  have I2:=Inv.made (C:=C) I
  have r2:Vals (V.ref (s.heap.objs.size+1)::(vs++dvs)) (Value.ref (s.heap.objs.size+1)::(us++ds)):=.cons rfl (r.append hd)
  have hl:(Value.ref (s.heap.objs.size+1)::us++ds).length=ps.length:=by
    have e:=r2.length
    rw[F.len _ _ _ _ hq] at e
    exact e.symm
  refine wpAny_call (Bp (f:=f) I.kIn M.makes M.init (beq_iff_eq.mp M.fn) (codeAny_mono (F.run _ X.stack _ _ ⟨Value.ref (s.heap.objs.size+1)::us,[]⟩ (Value.ref (s.heap.objs.size+1)::(us++ds)) _ _ (E σ) (hr.make C us [])
    (I2.env0.make C us []) (hb _ (Value.ref (s.heap.objs.size+1)::us) I2.kIn hl) r2 hq) fun r s' hq'=>?_))
  cases r with
  | error e=>exact hx _ _ e s' I2 hq'
  | ok fl =>
    cases fl with
    | ret u =>
      obtain⟨v,H',I3,rv,ev,q3⟩:=I2.after hq'
      subst ev
      exact⟨rv,⟨V.ref (s.heap.objs.size+1),H',I3,rfl,q3⟩⟩
    | next=>exact False.elim hq'
    | brk=>exact False.elim hq'
    | cont=>exact False.elim hq'
theorem BH (M:Mk X.K C f)(F:fY X.prog X.w X.K X.mg X.base CX k f fd ps sp)(hr:dC (k+1) X.A)(hg:Gl X x)(hm:X.mg x=some (.ref C))(hb:Binds X.K fd ps ds)(hd:Vals dvs ds)(hx:cD CX X E)
    (ha:PA X (e::es) t) (hdb:(x==("__debug__" : Str))=false:=by decide) (he:starEach (e::es) X.env=(false,eval e X.env)::starEach es X.env:=by rfl) (hpl:(backTo pos (starEach es X.env)).any (·.1)=false:=by rfl) :
    PE X (.Call (.Name x p) (e::es) [] pos) (BE C sp dvs E t):=by
  intro pins s σ H Q I h
  refine wpAny_Call_Name_kw (gP I hg hm ?_ hdb)
  refine W.callWith_K (h₀:=X.base) I.ok.mod.kin M.kp (thn (ha pos pins s σ H _ I h) fun us s1 ⟨vs,H1,I1,r,q⟩=>⟨I1.kIn,?_⟩) he hpl
  exact z_ M F hr hb hd (fun H2 s2 e s' J z=>hx pins σ H2 s2 e s' J z) I1 r q
end
end L2

set_option maxHeartbeats 4000000
namespace L2
open PySem PySem.Spec PyProof.Rows
def bmV:List Value:=[.type "ValueError",.type "Exception",.type "BaseException",.type "object"]
def qN (K:W.Frag)(C:Addr): Prop:=W.excIn K C bmV "ValueError.__new__" = true
theorem qN.obj {K:W.Frag}{C:Addr}(q:qN K C): ∃bm N nm qn bs hdct sn sub ab col dd k0 k1 k2 k3 k5,W.nsOkIn K N=true/\W.nsIn K N "__init__" = some none/\W.tailIn K bmV bm=true ∧
    K.lookup C=some (excClassObj nm qn C N bs bm hdct sn sub ab col dd k0 k1 k2 k3 k5 "ValueError.__new__"):=by
  unfold qN W.excIn at q
  split at q
  · next dd cd sl lk =>
    split at q
    · next C' bm k0 k1 k2 k3 nid k5 em es =>
      simp only [Bool.and_eq_true,beq_iff_eq,Bool.not_eq_true'] at q
      obtain⟨⟨⟨⟨⟨e1,e2⟩,e3⟩,e4⟩,e5⟩,e6⟩:=q
      subst e1
      subst e2
      obtain⟨nm,bs,mro,ns,qn,hdct,sn,sub,ab,col,del⟩:=cd
      dsimp only at em e3 e5 e6
      subst em
      subst e3
      obtain⟨sll⟩:=sl
      dsimp only at es
      subst es
      exact⟨bm,ns,nm,qn,bs,hdct,sn,sub,ab,col,dd,k0,k1,k2,k3,k5,e5,e6,e4,lk⟩
    · cases q
  · cases q
theorem Fa {K:W.Frag}{N:Addr}{h h2:Heap}{m:Str->Option Value}(ok:W.nsOkIn K N=true)(X:K.In h)(X2:K.In h2)(n:h.Ns N m): h2.Ns N m:=by
  obtain⟨o,es,ep,ho,r⟩:=n
  unfold W.nsOkIn at ok
  split at ok
  · next lk =>
    have e:=X _ _ lk
    rw[ho] at e
    cases e
    exact⟨_,es,ep,X2 _ _ lk,r⟩
  · cases ok
section
variable {X:Cx}{E:St->XK}{x:Str}{C:Addr}{e₀:Expr}{es:List Expr}{t:TA}{np cpos pos:Pos}
def Fb (C:Addr)(E:St->XK)(t:TA): TS:=fun _ σ H=>t σ H fun vs H1=>vs.length<=sizeLine/\E σ (.ref C) none H1
theorem hJ (hC:qN X.K C) (hc:X.calm=true) (hg:Gl X x) (hm:X.mg x=some (.ref C)) (hx:cD (CXE X.prog X.w) X E) (ha:PA X (e₀::es) t) (hdb:(x==("__debug__" : Str))=false:=by decide)
    (he:starEach (e₀::es) X.env=(false,eval e₀ X.env)::starEach es X.env:=by rfl) (hpl:(backTo cpos (starEach es X.env)).any (·.1)=false:=by rfl) :
    PS X (.Raise (some (.Call (.Name x np) (e₀::es) [] cpos)) none pos) (Fb C E t):=by
  intro pins s σ H D I h
  obtain⟨bm,N,nm,qn,bs,hdct,sn,sub,ab,col,dd,k0,k1,k2,k3,k5,f1,f2,f3,f4⟩:=hC.obj
  have hN:=PySem.Heap.Ns.of_isNs (W.isNs_of_in I.kIn f1)
  refine wpAny_Raise_call_subT (C:=C) (nm:=nm) (q:=qn) (N:=N) (bs:=bs) (bm:=bm) (hdct:=hdct) (sn:=sn) (sub:=sub) (ab:=ab) (col:=col) (dd:=dd) (k0:=k0) (k1:=k1) (k2:=k2) (k3:=k3) (k5:=k5)
    PySem.F.excBase_ValueError (mN:=s.heap.nsMap N) ((W.tail_of_in I.kIn f3).hasType PySem.F.excBase_ValueError.hasBase) (I.ok.hd hc) ?_ (W.nsMap_none_of_in I.kIn f1 f2) (gP I hg hm ⟨rfl,?_⟩ hdb)
  · rw[he]
    show (false || (backTo cpos (starEach es X.env)).any (·.1))=false
    rw[hpl]
    rfl
  · have ha':=ha cpos pins s σ H _ I h
    rw[he] at ha' ⊢
    refine Calls.evalArgs_plain (thn ha' fun us s2 q=>?_)
    obtain⟨vs,H1,I1,r,z,q⟩:=q
    refine⟨rfl,by rw[<-r.length];exact z,I1.kIn _ _ f4,Fa f1 I.kIn I1.kIn hN,W.tail_of_in I1.kIn f3,fun h' e hmade=>?_⟩
    obtain⟨tp,q1,_,_⟩:=hmade.there
    exact hx pins σ H1 s2 (.ref e) _ I1 ⟨e,.ref C,none,H1,rfl,rfl,I1.bare,Un.kept hmade.keeps,I1.hok.kept hmade.keeps,⟨.none,⟨_,_,q1,rfl,rfl,rfl,rfl,.inl rfl⟩,uQ I1 hmade.new,hmade.new,fun T z=>nomatch z⟩,q⟩
end
section
variable {X:Cx}{pins lS:List (Addr×Obj)}{σ:St}{H H':Hp}{s:Shared}{h':Heap}{a T:Addr}{cls hd:Value}{dct:Option Addr}
theorem Inv.Fc {pn':List (Addr×Obj)}{A':Around}{mU:Bool}{xe':Value->Shared->Prop}(I:Inv X pins σ H s)(hA:A'.frames=X.A.frames)(hcalm:mU=true->A'.handled=none)(hp:∀p∈pn'++lS,p∈X.pn++pins):
    Inv { X with pn:=pn',A:=A',calm:=mU,xe:=xe' } lS σ H s :=
  ⟨⟨I.ok.mod,I.ok.kind,I.ok.glob,I.ok.blt,I.ok.above,I.ok.inj,I.ok.has,I.ok.cab,hcalm,hA.trans I.ok.frames,I.ok.stk,I.ok.exf,I.ok.bs,I.ok.bsz,I.ok.sA,I.ok.Dh,I.ok.pK,I.ok.frf⟩,
    I.os,I.bare,I.base,I.loc,I.cell,I.free,I.iM,fun p q=>I.pin p (hp p q),I.hok,I.len⟩
theorem Inv.F6 {pn':List (Addr×Obj)}{A':Around}{mU:Bool}{xe':Value->Shared->Prop}(I:Inv { X with pn:=pn',A:=A',calm:=mU,xe:=xe' } lS σ H s)(hA:A'.frames=X.A.frames)(hcalm:X.calm=true->X.A.handled=none)(hp:∀p∈X.pn++pins,p∈pn'++lS):
    Inv X pins σ H s :=
  ⟨⟨I.ok.mod,I.ok.kind,I.ok.glob,I.ok.blt,I.ok.above,I.ok.inj,I.ok.has,I.ok.cab,hcalm,hA.symm.trans I.ok.frames,I.ok.stk,I.ok.exf,I.ok.bs,I.ok.bsz,I.ok.sA,I.ok.Dh,I.ok.pK,I.ok.frf⟩,
    I.os,I.bare,I.base,I.loc,I.cell,I.free,I.iM,fun p q=>I.pin p (hp p q),I.hok,I.len⟩
theorem Inv.flew (I:Inv X pins σ H s)(ha:H a=none)(na:X.s₀.heap.get? a=none)(hT:∀T,hd=.ref T->H T=none/\X.s₀.heap.get? T=none)(fl:qM s.heap a cls dct hd)(hp:∀p∈X.pn++pins,p.1≠a/\hd≠.ref p.1)
    (keep:∀b o,b≠a->hd≠.ref b->b∉frs X.stack->s.heap.get? b=some o->h'.get? b=some o)
    (slot:∀b o,b∈frs X.stack->s.heap.get? b=some o->∃sl,h'.get? b=some { o with slots:=sl }) {t':Nat}:Inv X pins σ H { s with heap:=h',toks:=t' }:=by
  obtain⟨oe,vs,he,_,_,hdt,_,hc⟩:=fl
  have fT:∀T,hd=.ref T->∃o ts,s.heap.get? T=some o/\o.data=.fields ts:=fun T z=>by
    rcases hc with q | ⟨T',oT,ts,q,_,q2,q3,_⟩
    · rw[z] at q;cases q
    · rw[z] at q;cases q;exact⟨_,_,q2,q3⟩
  have off:∀b o,s.heap.get? b=some o->(∀ws,o.data≠.fields ws)->b≠a/\hd≠.ref b:=fun b o e hn=>⟨fun z=>(by rw[z,he] at e;cases e;exact hn vs hdt),fun z=>by
    obtain⟨o',ts,q1,q2⟩:=fT b z
    rw[q1] at e;cases e;exact hn ts q2⟩
  have s0:∀b o,X.s₀.heap.get? b=some o->b≠a/\hd≠.ref b:=fun b o e=>⟨fun z=>(by rw[z,na] at e;cases e),fun z=>(by rw[(hT b z).2] at e;cases e)⟩
  have s0L:∀b o,X.s₀.heap.get? b=some o->b∈frs X.stack->b∈X.fs:=fun b o e hb=>by
    rcases List.mem_cons.mp (I.ko b hb) with z | z
    · rw[z] at e
      exact absurd (Nat.lt_of_lt_of_le (Heap.lt_size e) I.ok.above) (Nat.lt_irrefl _)
    · exact z
  have any:∀b o,s.heap.get? b=some o->b≠a->hd≠.ref b->∃sl,h'.get? b=some { o with slots:=sl }:=fun b o e n1 n2=>by
    by_cases hb:b∈frs X.stack
    · exact slot b o hb e
    · exact⟨o.slots,keep b o n1 n2 hb e⟩
  have Dv:∀b,b∈X.fs->b∈frs X.stack:=fun b hb=>by
    rcases I.ok.stk with z | ⟨z,_⟩
    · rw[z];exact hb
    · rw[z];exact yX hb
  refine⟨I.ok,I.os,I.bare,⟨fun b o e n hb hx=>?_,fun b o e n hb hx=>?_,fun b o e n hx=>I.base.free b o e n hx,fun b o e hx=>?_,I.base.tups,I.base.lJ,I.base.mK⟩,?_,fun y c e=>?_,I.free,I.iM,fun p q=>?_,yY I keep ha fun T z=>(hT T z).1,I.len⟩
  · exact keep b o (s0 b o e).1 (s0 b o e).2 (fun z=>hb (s0L b o e z)) (I.base.keep b o e n hb hx)
  · obtain⟨sl,e1⟩:=I.base.slot b o e n hb hx
    obtain⟨sl',e2⟩:=slot b _ (Dv b hb) e1
    exact⟨sl',e2⟩
  · obtain⟨o1,e1⟩:=I.base.there b o e hx
    obtain⟨sl,e2⟩:=any b o1 e1 (s0 b o e).1 (s0 b o e).2
    exact⟨_,e2⟩
  · obtain⟨m,⟨o,es,ep,ho,hd',r⟩,hl⟩:=I.loc
    have nf:=off _ o ho fun ws z=>by rw[hd'] at z;cases z
    obtain⟨sl,e2⟩:=any _ o ho nf.1 nf.2
    refine⟨m,⟨_,es,ep,e2,hd',r⟩,fun i x v q1 q2 q3=>?_⟩
    obtain⟨u,r1,l⟩:=hl i x v q1 q2 q3
    refine⟨u,r1,?_⟩
    rcases l with l | ⟨k,c,e,oc,hoc,hcd⟩
    · exact .inl l
    · have nf:=off c oc hoc fun ws z=>by rw[hcd] at z;cases z
      obtain⟨sl,e3⟩:=any c oc hoc nf.1 nf.2
      exact .inr ⟨k,c,e,_,e3,hcd⟩
  · obtain⟨v,oc,hoc,hcd⟩:=I.cell y c e
    have nf:=off c oc hoc fun ws z=>by rw[hcd] at z;cases z
    obtain⟨sl,e3⟩:=any c oc hoc nf.1 nf.2
    exact⟨v,_,e3,hcd⟩
  · obtain⟨e,n,ne,nf,d⟩:=I.pin p q
    refine⟨keep p.1 p.2 (hp p q).1 (hp p q).2 (fun z=>?_) e,n,ne,nf,d⟩
    rcases List.mem_cons.mp (I.ko p.1 z) with z | z
    · exact ne z
    · exact nf z
def exO (a:Addr)(cls:Value)(dct:Option Addr): HO:=.ext fun h=>∃oe vs,h.get? a=some oe/\oe.cls=cls/\oe.dict=dct/\oe.data=.fields vs
theorem Inv.track (I:Inv X pins σ H s)(ha:H a=none)(na:X.s₀.heap.get? a=none)(hp:∀p∈X.pn++pins,p.1≠a)(fl:qM s.heap a cls dct hd): Inv X pins σ (upd H a (exO a cls dct)) s:=by
  obtain⟨oe,vs,he,f1,f2,hdt,_,_⟩:=fl
  have off:∀b o,s.heap.get? b=some o->(∀ws,o.data≠.fields ws)->b≠a:=fun b o e hn z=>by rw[z,he] at e;cases e;exact hn vs hdt
  have tr:∀b u,H b=some u->upd H a (exO a cls dct) b=some u:=fun b u q=>by rw[av (ay q ha)];exact q
  refine⟨I.ok,I.os,I.bare,⟨I.base.keep,I.base.slot,fun b o e n hx=>?_,I.base.there,fun b xs e=>tr b _ (I.base.tups b xs e),fun b o u e=>tr b _ (I.base.lJ b o u e),fun b ps e=>?_⟩,I.loc,I.cell,?_,fun y c e=>?_,fun p q=>?_,fun b u e=>?_,I.len⟩
  · rw[av (fun z=>(by rw[z,na] at e;cases e))]
    exact I.base.free b o e n hx
  · obtain⟨more,q⟩:=I.base.mK b ps e
    exact⟨more,tr b _ q⟩
  · obtain⟨m,⟨o,es,ep,ho,hd',r⟩,_⟩:=I.loc
    rw[av (off _ o ho fun ws z=>(by rw[hd'] at z;cases z))]
    exact I.free
  · obtain⟨v,oc,hoc,hcd⟩:=I.cell y c e
    rw[av (off c oc hoc fun ws z=>(by rw[hcd] at z;cases z))]
    exact I.iM y c e
  · obtain⟨e,n,r⟩:=I.pin p q
    exact⟨e,by rw[av (hp p q)];exact n,r⟩
  · by_cases hb:b=a
    · subst hb
      rw[aj] at e
      cases e
      exact⟨⟨oe,vs,he,f1,f2,hdt⟩,⟨_,he⟩,fun h1 h2 ⟨o',ws,q1,q2⟩ k=>⟨o',ws,k _ q1,q2⟩⟩
    · rw[av hb] at e
      exact(I.hok b u e).stay (fun _ _ _ q=>q) (fun c q=>tr c _ q) fun c xs q=>tr c _ q
end
theorem wx {M:Model}{A:Around}{E:Value->Shared->Prop}{s:Shared}{K:W.Frag}{e D:Addr}{oe:Obj}{C:Addr}{b:Bool}{Q:Bool->Shared->Prop}(X:K.In s.heap)(he:s.heap.get? e=some oe)(hc:oe.cls=.ref C)
    (hD:qN K D) (hsub:W.mroIn K C (.ref D)=some b) (h:Q b s):wpAny M A (excMatches (.ref e) (.ref D)) Q E s:=by
  obtain⟨bm,N,nm,qn,bs,hdct,sn,sub,ab,col,dd,k0,k1,k2,k3,k5,f1,f2,f3,f4⟩:=hD.obj
  have hD0:=X _ _ f4
  have L:=W.looks_mroIn (M:=M) X hsub
  obtain⟨hp,g,d,tk,os⟩:=s
  have hcB:(Value.ref D::bm).contains (.type "BaseException")=true:=by rw[List.contains_cons,(W.tail_of_in X f3).hasType (show bmV.contains (.type "BaseException")=true by decide +kernel),Bool.or_true]
  have ft:=tc_notTuple
  unfold excMatches
  repeat (first | (with_reducible refine wpAny_loadPart_at he ?_;rw[hc]) | with_reducible refine wpAny_loadPart_at hD0 ?_ | (with_reducible refine wpAny_isSubtype_exc hD0 ?_;rw[hcB]) | (with_reducible refine L.at ?_) | wp_step)
  cases b<;>(try wp_walk)<;>exact h
def BI (i:Nat)(D:Ends): Ends:={ nx:=fun σ H=>D.nx (σ.set i none) H,rt:=D.rt,bk:=fun σ H=>D.bk (σ.set i none) H,ct:=fun σ H=>D.ct (σ.set i none) H }
def Fd (K:W.Frag)(D:Addr)(i:Nat)(tb:(St->XK)->TS)(ts:TS): TS:=fun Dn σ H =>
  tb (fun σ' cls dct H'=>∃C,cls=.ref C/\W.mroIn K C (.ref D)=some true/\∀a,H' a=none->ts (BI i Dn) (σ'.set i (some (.ref a))) (upd H' a (exO a (.ref C) dct))) Dn σ H
theorem tY {X:Cx}{body suite:List Stmt}{b₀:Stmt}{x n:Str}{np hpos pos:Pos}{D:Addr}{i:Nat}{tb:(St->XK)->TS}{ts:TS}
    (hc:X.calm=true) (hex:X.ex=[]) (hst:X.stack=X.env::X.outer) (hfr:X.env.frame=some X.env.locals) (hD:qN X.K D) (hg:Gl X x) (hm:X.mg x=some (.ref D))
    (hN:X.N.Nodup) (hi:X.N[i]?=some n) (hl:X.env.scope.names.lookup n=some .local)
    (hb:∀(pn:List (Addr×Obj)) (xe:Value->Shared->Prop) (EX:St->XK),cD (CXE X.prog X.w) { X with pn:=pn,xe:=xe } EX->PSs { X with pn:=pn,xe:=xe } body (tb EX))
    (hs:∀(pn:List (Addr×Obj)) (A':Around) (xe:Value->Shared->Prop),PSs { X with pn:=pn,A:=A',calm:=false,xe:=xe } (b₀::suite) ts) (hdb:(x==("__debug__" : Str))=false:=by decide) :
    PS X (.Try body [.ExceptHandler (some (.Name x np)) (some n) (b₀::suite) hpos] [] [] pos) (Fd X.K D i tb ts):=by
  intro pins s σ H Dn I h
  have hh:=I.ok.hd hc
  refine wpAny_Try_except ?_
  have back:∀{xe:Value->Shared->Prop} {σ':St} {H':Hp} {s':Shared},Inv { X with pn:=X.pn++pins,xe:=xe } [] σ' H' s'->Inv X pins σ' H' s':=fun {xe σ' H' s'} J =>
    Inv.F6 (A':=X.A) (mU:=X.calm) J rfl (fun _=>hh) fun p q=>by simpa using q
  refine wpAny_mono (hb (X.pn++pins) (fun e s₁=>wpAny (model X.prog X.w) X.A (noteFrame e X.env) (fun _ s₂=>wpAny (model X.prog X.w) X.A (setFlight e none) (fun _ s₃ =>
      wpAny (model X.prog X.w) X.A (handleBy e X.env [.ExceptHandler (some (.Name x np)) (some n) (b₀::suite) hpos]) (SP X pins Dn) X.xe s₃) X.xe s₂) X.xe s₁) _ ?_ [] s σ H Dn
      (Inv.Fc (A':=X.A) (mU:=X.calm) I rfl (fun _=>hh) fun p q=>by simpa using q) h) (fun f s1 q=>?_) fun _ _ z=>z
  · intro qO σ2 H2 s2 e s3 I2 hx
    obtain⟨a,cls,dct,H3,he,hos,hgn,un,hok,⟨hd,fl,ha,na,hT⟩,C,hcls,hsub,q⟩:=hx
    subst he
    subst hcls
    have I3:=I2.call' hos un hok hgn (fun b z=>absurd z (by simp))
    have na0:=lB I2 hex na
    have hT0:∀T,hd=.ref T->H3 T=none/\X.s₀.heap.get? T=none:=fun T z=>⟨(hT T z).1,by have q:=lB I2 hex (hT T z).2;exact q⟩
    have hp3:∀p∈(X.pn++pins)++qO,p.1≠a/\hd≠.ref p.1:=fun p z=>by
      have e:=(I2.pin p z).1
      exact⟨fun w=>(by rw[w,na] at e;cases e),fun w=>(by rw[(hT _ w).2] at e;cases e)⟩
    refine wv (env:=X.env) (outer:=X.outer) (by have:=I.ok.frames;rw[hst] at this;exact this) (by have:=I3.stack;rw[show Cx.stack _=X.env::X.outer from hst] at this;exact this) hfr fl fun h4 T n1 n2 k1 k2 fl4=>?_
    have I4:Inv _ qO σ2 H3 { s3 with heap:=h4,toks:=s3.toks }:=I3.flew ha na0 hT0 fl hp3 (fun b o m1 m2 m3 e=>k1 b o m1 m2 (by rw[<-hst];exact m3) e) (fun b o m1 e=>k2 b o (by rw[<-hst];exact m1) e)
    have nT4:H3 T=none:=uQ I3 n1
    have nT0:=lB I3 hex n1
    have hp4:∀p∈(X.pn++pins)++qO,p.1≠a/\(Value.ref T:Value)≠.ref p.1:=fun p z=>⟨(hp3 p z).1,fun w=>by
      have e:=(I3.pin p z).1
      cases w
      rw[n1] at e;cases e⟩
    obtain⟨oe,vs,g1,g2,_⟩:=id fl4
    have J40:=Inv.Fc (A':=X.A.mark (some (.ref a))) (mU:=false) (pn':=X.pn++pins) (lS:=qO) (xe':=fun _ _=>True) I4 rfl (fun z=>nomatch z) (fun p q=>q)
    have J4:Inv { X with pn:=X.pn++pins,A:=X.A.mark (some (.ref a)),calm:=false,xe:=fun _ _=>True } qO σ2 H3 { s3 with heap:=h4 }:=J40
    refine wpAny_handleBy_cons (codeAny_handlers_test ?_) (by intro z;cases z)
    refine gP (X:={ X with pn:=X.pn++pins,A:=X.A.mark (some (.ref a)),calm:=false,xe:=fun _ _=>True }) J4 hg hm ?_ hdb
    refine wx J4.kIn g1 g2 hD hsub ?_
    refine codeAny_handlers_suite_as (BD fl4 fun h5 k5 fl5=>?_)
    have J5:=J4.flew (h':=h5) (t':=s3.toks) ha na0 (fun T' z=>by cases z;exact⟨nT4,nT0⟩) fl4 hp4 (fun b o _ m2 _ e=>k5 b o (fun z=>m2 (by rw[z])) e) (fun b o m1 e=>by
      refine⟨o.slots,k5 b o (fun z=>?_) e⟩
      obtain⟨_,o',ho',hn⟩:=J4.stack.mem m1
      obtain⟨oe',vs',_,_,_,_,_,hcc⟩:=id fl4
      rcases hcc with w | ⟨T',oT,ts',w,_,w2,w3,_⟩
      · cases w
      · cases w
        rw[z,w2] at ho'
        cases ho'
        exact hn _ w3)
    have J6:=J5.track ha na0 (fun p z=>(hp4 p z).1) fl5
    refine qy (X:={ X with pn:=X.pn++pins,A:=X.A.mark (some (.ref a)),calm:=false,xe:=fun _ _=>True }) (v:=.ref a) J6 hN hi (.inl hl) rfl (fun s7 J7=>?_) (.inr hl)
    refine wpAny_mono ((hs (X.pn++pins) (X.A.mark (some (.ref a))) _) qO s7 _ _ (BI i Dn) (Inv.Fc (X:={ X with pn:=X.pn++pins,A:=X.A.mark (some (.ref a)),calm:=false,xe:=fun _ _=>True }) (A':=X.A.mark (some (.ref a))) (mU:=false) (pn':=X.pn++pins) J7 rfl (fun z=>nomatch z) fun p q=>q) (q a ha)) (fun f s8 w=>?_) fun _ _ z=>z
    have fin:∀{xe:Value->Shared->Prop} {σ':St} {H':Hp} {Q':Unit->Shared->Prop},Inv { X with pn:=X.pn++pins,A:=X.A.mark (some (.ref a)),calm:=false,xe:=xe } qO σ' H' s8->(∀s9,Inv X pins (σ'.set i none) H' s9->Q' () s9) ->
        wpAny (model X.prog X.w) X.A (do bindName X.env n .none;unbindBehindTheSuite X.env n hpos) Q' X.xe s8:=fun {xe σ' H' Q'} J k=>by
      have J':Inv X pins σ' H' s8:=Inv.F6 (A':=X.A.mark (some (.ref a))) (mU:=false) J rfl (fun _=>hh) fun p q=>by simp;rcases List.mem_append.mp q with z | z<;>simp[z]
      obtain⟨m,hn,hlo⟩:=J'.loc
      refine wpAny_nameGoes_keeps hl hn (by rw[J'.ok.kind];rfl) fun h9 v hn9 sb=>k _ ?_
      have J8:Inv X pins σ' H' { s8 with toks:=s8.toks+1 }:=J'.tok _
      obtain⟨oL,_,_,hoL,_⟩:=id hn
      have cne:=J'.cne
      have oth:∀b o,b≠X.env.locals->s8.heap.get? b=some o->h9.get? b=some o:=fun b o nb e=>(sb.2 b nb).trans e
      refine⟨J'.ok,J'.os,J'.bare,⟨fun b o e n hb hx=>?_,fun b o e n hb hx=>?_,J'.base.free,fun b o e hx=>?_,J'.base.tups,J'.base.lJ,J'.base.mK⟩,⟨_,hn9,fun j y v' e1 e2 e3=>?_⟩,fun y c e=>?_,J'.free,J'.iM,fun p hp=>?_,fun b ob e=>?_,by simpa using J'.len⟩
      · exact oth b o (Nat.ne_of_lt (Nat.lt_of_lt_of_le (Heap.lt_size e) J'.ok.above)) (J'.base.keep b o e n hb hx)
      · obtain⟨sl,e1⟩:=J'.base.slot b o e n hb hx
        exact⟨sl,oth b _ (Nat.ne_of_lt (Nat.lt_of_lt_of_le (Heap.lt_size e) J'.ok.above)) e1⟩
      · obtain⟨o',e1⟩:=J'.base.there b o e hx
        exact⟨o',oth b _ (Nat.ne_of_lt (Nat.lt_of_lt_of_le (Heap.lt_size e) J'.ok.above)) e1⟩
      · by_cases hj:j=i
        · subst hj
          rw[List.getElem?_set_self (by rw[J'.len];exact(List.getElem?_eq_some_iff.mp hi).1)] at e2
          cases e2
        · rw[List.getElem?_set_ne (Ne.symm hj)] at e2
          obtain⟨u',r',w'⟩:=hlo j y v' e1 e2 e3
          refine⟨u',r',?_⟩
          rcases w' with ⟨k',e⟩ | ⟨k',c,e,z⟩
          · refine .inl ⟨k',?_⟩
            have:y≠n:=fun e=>hj (qx hN e1 (e ▸ hi))
            simp[this,e]
          · exact .inr ⟨k',c,e,z.sameBut sb (cne y c e)⟩
      · obtain⟨w',z⟩:=J'.cell y c e
        exact⟨w',z.sameBut sb (cne y c e)⟩
      · obtain⟨e,n,ne,nf,d⟩:=J'.pin p hp
        exact⟨oth p.1 _ ne e,n,ne,nf,d⟩
      · refine(J'.hok b ob e).stay (fun c w' hc q=>oth c w' ?_ q) (fun _ q=>q) fun _ _ q=>q
        rintro rfl
        rcases hc with rfl | hc
        · rw[J'.free] at e;cases e
        · rw[J'.free] at hc;cases hc
    cases f with
    | next=>obtain⟨σ',H',J,d⟩:=w;exact fin J fun s9 J9=>⟨_,H',J9,d⟩
    | brk=>obtain⟨σ',H',J,d⟩:=w;exact fin J fun s9 J9=>⟨_,H',J9,d⟩
    | cont=>obtain⟨σ',H',J,d⟩:=w;exact fin J fun s9 J9=>⟨_,H',J9,d⟩
    | ret u=>obtain⟨v,σ',H',J,r,d⟩:=w;exact fin J fun s9 J9=>⟨v,_,H',J9,r,d⟩
  · cases f with
    | next=>obtain⟨σ',H',J,d⟩:=q;exact wpAny_execs_nil ⟨σ',H',back J,d⟩
    | brk=>obtain⟨σ',H',J,d⟩:=q;exact⟨σ',H',back J,d⟩
    | cont=>obtain⟨σ',H',J,d⟩:=q;exact⟨σ',H',back J,d⟩
    | ret u=>obtain⟨v,σ',H',J,r,d⟩:=q;exact⟨v,σ',H',back J,r,d⟩
end L2

set_option maxHeartbeats 4000000
namespace L2
open PySem PySem.Spec PyProof.Rows PyProof.V PySem.SeqAt
mutual
inductive kg (K:W.Frag)(H:Hp): V->PyData->Prop
  | non:kg K H .non .none
  | bl (b:Bool):kg K H (.bl b) (.bool b)
  | int (i:Int):kg K H (.int i) (.int i)
  | str (x:Str):kg K H (.str x) (.str x)
  | lst {a:Addr} {xs:List V} {ds:List PyData}:SqL K H a xs->DatAll K H xs ds->kg K H (.ref a) (.list ds)
  | tup {a:Addr} {xs:List V} {ds:List PyData}:SqT K H a xs->DatAll K H xs ds->kg K H (.ref a) (.tuple ds)
inductive DatAll (K:W.Frag)(H:Hp): List V->List PyData->Prop
  | nil:DatAll K H [] []
  | cons {x:V} {xs:List V} {d:PyData} {ds:List PyData}:kg K H x d->DatAll K H xs ds->DatAll K H (x::xs) (d::ds)
end
section
variable {X:Cx}{pins:List (Addr×Obj)}{σ:St}{H:Hp}{s:Shared}
mutual
theorem kg.reads (I:Inv X pins σ H s){v:V}{d:PyData}(h:kg X.K H v d){u:Value}(r:RelV v u): ∃as,Reads s.heap u d as:=by
  cases h with
  | non=>cases r;exact⟨_,.none⟩
  | bl b=>cases r;exact⟨_,.bool b⟩
  | int i=>obtain⟨t,rfl⟩:=r;exact⟨_,.int i t⟩
  | str x=>obtain⟨t,rfl⟩:=r;exact⟨_,.str x t⟩
  | lst hq ha =>
    cases r
    obtain⟨its,rv,⟨o,n,e,c,_,dd⟩,_⟩:=I.list hq
    obtain⟨as,q⟩:=DatAll.reads I ha rv
    exact⟨_,.list e c dd (by simpa using q)⟩
  | tup hq ha =>
    cases r
    obtain⟨its,rv,⟨o,e,c,n,dd⟩,_⟩:=I.tuple hq
    obtain⟨as,q⟩:=DatAll.reads I ha rv
    exact⟨_,.tuple e c dd (by simpa using q)⟩
theorem DatAll.reads (I:Inv X pins σ H s){vs:List V}{ds:List PyData}(h:DatAll X.K H vs ds){us:List Value}(r:Vals vs us): ∃as,ReadsAll s.heap us ds as:=by
  cases h with
  | nil=>cases r;exact⟨_,.nil⟩
  | cons h1 h2 =>
    cases r with
    | cons r1 r2 =>
      obtain⟨a1,q1⟩:=kg.reads I h1 r1
      obtain⟨a2,q2⟩:=DatAll.reads I h2 r2
      exact⟨_,.cons q1 q2⟩
end
def F7 (K:W.Frag): R2:=fun x y H Q=>∃d d',kg K H x d/\kg K H y d'/\shaped d=true/\shaped d'=true/\noMix d d'=true/\Q (.bl (same d d')) H
def F8 (K:W.Frag): R2:=fun x y H Q=>∃d d',kg K H x d/\kg K H y d'/\shaped d=true/\shaped d'=true/\noMix d d'=true/\Q (.bl (!same d d')) H
theorem Fe (hu:X.A.units+64 < cLine): OpR X (compareOp .Eq) (F7 X.K):=by
  intro pins s σ H x y v u Q I rx ry h
  obtain⟨d,d',h1,h2,s1,s2,nm,q⟩:=h
  obtain⟨_,r1⟩:=h1.reads I rx
  obtain⟨_,r2⟩:=h2.reads I ry
  exact eq_dataH_same r1 r2 s1 s2 hu nm ⟨.bl _,H,I,rfl,q⟩
theorem Ff (hu:X.A.units+64 < cLine): OpR X (compareOp .NotEq) (F8 X.K):=by
  intro pins s σ H x y v u Q I rx ry h
  obtain⟨d,d',h1,h2,s1,s2,nm,q⟩:=h
  obtain⟨_,r1⟩:=h1.reads I rx
  obtain⟨_,r2⟩:=h2.reads I ry
  exact ne_dataH_same r1 r2 s1 s2 hu nm ⟨.bl _,H,I,rfl,q⟩
theorem jF:∀{ns:List Int} {us:List Value},Vals (ns.map V.int) us->IntsAre us ns
  | [],_,r=>by cases r;exact .nil
  | n::ns,_,r=>by
    rw[List.map_cons] at r
    cases r with
    | cons r1 r2 =>
      obtain⟨t,rfl⟩:=r1
      exact .cons n t (jF r2)
theorem Inv.listI (I:Inv X pins σ H s){a:Addr}{ns:List Int}(h:SqL X.K H a (ns.map V.int)): ∃vs:List Value,s.heap.IsList a vs.toArray/\IntsAre vs ns/\ns.length<=sizeLine:=by
  obtain⟨its,rv,p,hz⟩:=I.list h
  exact⟨its,p.isList,jF rv,by simpa using hz⟩
theorem Aa (hc:X.calm=true): eZ X (.builtin "sum") (fun xs H Q=>∃(p:Addr) (ns:List Int),xs=[.ref p]/\SqL X.K H p (ns.map V.int)/\Q (.int ns.sum) H):=by
  intro pins s σ H xs us Q I r h
  obtain⟨p,ns,rfl,hq,q⟩:=h
  obtain⟨u,rfl,ru⟩:=vals1 r
  cases ru
  obtain⟨vs,hl,hi,_⟩:=I.listI hq
  obtain⟨ys,hx⟩:=hi.allInts.items
  have hl':s.heap.IsList p (intItems ys):=hx ▸ hl
  refine sum_intListG (I.ok.hd hc) hl' fun h' tk t' hk=>⟨.int ns.sum,H,I.kept hk,⟨t',?_⟩,q⟩
  have e1:ns=ys.toList.map (·.1):=by
    rw[<-nums_intItems,<-hx]
    exact(show numsOf vs.toArray.toList=ns from hi.numsOf).symm
  rw[preSum_eq,List.take_of_length_le (by simp),e1]
end
theorem Dw {M:Model}{A:Around}{m:Sem Unit}{Q:Unit->Shared->Prop}{E:Value->Shared->Prop}{s:Shared}(h:m=pure ())(q:Q () s): wpAny M A m Q E s:=by rw[h];exact wpAny_pure q
theorem tZ {prog:Program}{w:World}{A:Around}{E:Value->Shared->Prop}{s:Shared}{K:W.Frag}{x D:Addr}{oe:Obj}{od:Option Obj}{Q:Option Value->Shared->Prop}(X:K.In s.heap)(I:W.InstAt s.heap x oe D od)
    (hga:W.findIn K (.ref D) "__getattribute__" = some (some (.builtin "BaseException.__getattribute__"))) (hno:W.findIn K (.ref D) "__getattr__" = some none) (hb:W.mroIn K D (.type "BaseException")=some true)
    (hm:W.mroIn K D (.type "object")=some true) (hf:W.findObj K D od "__class__" = some (.bind (.builtin "getset_descriptor.__get__") (.builtin "object.__class__"))) (h:Q (some (.ref D)) { s with toks:=s.toks+1 }) :
    wpAny (model prog w) A (getAttr? (.ref x) "__class__") Q E s:=by
  obtain⟨hh,g,d,t,os⟩:=s
  have L0:=I.type (M:=model prog w)
  have L1:=W.looks_findIn (M:=model prog w) X hga
  have L2:=W.looks_findIn (M:=model prog w) X hno
  have L3:=W.looks_mroIn (M:=model prog w) X hb
  have L4:=W.looks_find (M:=model prog w) X I hf
  unfold getAttr? getAttrBy? getAttrBy
  refine wpAny_bind (wpAny_mkText (wpAny_bind (wpAny_attempt (wpAny_holding (wpAny_bind (L0.at (wpAny_bind (L1.at ?_))))))))
  show wpAny _ _ (getAttrByItsOwn _ _ _ _ _ _) _ _ _
  unfold getAttrByItsOwn
  refine wpAny_bind (show wpAny _ _ (typeLookup (.ref D) "__getattr__") _ _ _ from L2.at ?_)
  refine wpAny_bind (wpAny_attempt (wpAny_holding ?_))
  show wpAny _ _ (boundAndCalled _ _ _) _ _ _
  unfold boundAndCalled
  rw[PySem.F.excAttr_ValueError.ga.bind]
  refine wpAny_bind (wpAny_pure ?_)
  show wpAny _ _ (call (.builtin "BaseException.__getattribute__") [.ref x,.str "__class__" _]) _ _ _
  have hk:builtinKind "BaseException.__getattribute__" = some .slot:=by decide +kernel
  have hsplit:splitId "BaseException.__getattribute__" = some ("BaseException", "__getattribute__"):=by decide +kernel
  refine wpAny_call (codeAny_call_builtin PySem.F.excAttr_ValueError.ga.plain PySem.F.entry_bexc_ga ?_)
  have ha:=PySem.F.args_bexc_ga (.ref x) (.str "__class__" t)
  simp only [checkBuiltinCall,hk,hsplit]
  refine wpAny_bind ?_
  unfold isInstance
  refine wpAny_bind (L0.at (L3.at ?_))
  rw[if_neg (by decide)]
  refine Dw ha ?_
  unfold Builtin.«object.__getattribute__»
  refine wpAny_bind ?_
  refine wpAny_pure ?_
  dsimp only
  refine wpAny_bind (wpAny_pure (wpAny_bind (L0.at (wpAny_bind (L4.at ?_)))))
  dsimp only
  show wpAny _ _ (holding [.builtin "object.__class__"] (call (.builtin "getset_descriptor.__get__") [.builtin "object.__class__",.ref x,.ref D]) >>= ret) _ _ _
  refine wpAny_bind (wpAny_holding (wpAny_call (W.class_get (s:=⟨hh,g,d,t+1,os⟩) (ox:=oe) (od:=od) X I hm ?_)))
  refine wpAny_pure ?_
  exact W.handed_on rfl (wpAny_pure h)
structure XIs (K:W.Frag)(C:Addr): Prop where
  hga:W.findIn K (.ref C) "__getattribute__" = some (some (.builtin "BaseException.__getattribute__"))
  hno:W.findIn K (.ref C) "__getattr__" = some none
  hb:W.mroIn K C (.type "BaseException")=some true
  hd:W.hasDictIn K C=true
  ha:W.findIn K (.ref C) "__class__" = some (some (.builtin "object.__class__"))
  hm:W.mroIn K C (.type "object")=some true
structure IsK (K:W.Frag): Prop where
  hn:W.specialIn K (.builtin "object.__class__") "__get__" = some (some (.builtin "getset_descriptor.__get__"))
  htk:W.takesIn K (.builtin "object.__class__")=some true
inductive TyE (K:W.Frag)(H:Hp): V->Value->Prop where
  | of {x:V} {t:Value} (h:aF K H x t):TyE K H x t
  | exc {a C:Addr} (e:H a=some (exO a (.ref C) none)) (x:XIs K C) (k:IsK K):TyE K H (.ref a) (.ref C)
  | Ac {a C d:Addr} {φ:Heap->Prop} (e:H a=some (exO a (.ref C) (some d))) (e2:H d=some (.ext φ)) (x:XIs K C) (k:IsK K):TyE K H (.ref a) (.ref C)
def F9:V->Value
  | .ref a=>.ref a
  | .ty n=>.type n
  | _=>.none
def BJ:V->Bool
  | .ref _=>true
  | .ty _=>true
  | _=>false
theorem Dx {c:V}{u:Value}(h:BJ c=true)(r:RelV c u): u=F9 c:=by
  cases c<;>first | exact r | exact absurd (show false=true from h) Bool.false_ne_true
theorem BL {K:W.Frag}{x D:Addr}(q:XIs K D)(k:IsK K): W.KitX K (.ref x) (.ref D) (fun h=>∃oe vs,h.get? x=some oe/\oe.cls=.ref D/\oe.dict=none/\oe.data=.fields vs) where
  ty:=fun M h _ p=>by
    obtain⟨oe,vs,h1,h2,_⟩:=p
    exact h2 ▸ (W.Looks.ld h1).andThen .now
  it:=fun _ _ X _=>by
    obtain⟨cdD,hcD,_⟩:=W.any_some q.hd
    unfold W.clsIn at hcD
    split at hcD
    · next ho =>
      intro A' Q' E' s' k q
      unfold isType loadHead
      exact wpAny_bind (wpAny_loadPart (k _ _ (X _ _ ho)) (wpAny_pure q))
    · cases hcD
  ne:=fun h tp dd its n sl X htp=>by
    obtain⟨cdD,hcD,_⟩:=W.any_some q.hd
    refine Bool.eq_false_iff.mpr fun z=>?_
    have e:D=tp:=Value.ref.inj (beq_iff_eq.mp z)
    subst e
    unfold W.clsIn at hcD
    split at hcD
    · next ho =>
      have z:=(X _ _ ho).symm.trans htp
      cases z
    · cases hcD
  ca:=fun {prog w A E Q s} X p hq=>by
    obtain⟨oe,vs,h1,h2,h3,h4⟩:=p
    have I:W.InstAt s.heap x oe D none:=⟨h1,h2,by unfold W.notCls;rw[h4],by rw[h3];trivial⟩
    have hf:W.findObj K D none "__class__" = some (.bind (.builtin "getset_descriptor.__get__") (.builtin "object.__class__")):=by
      obtain⟨cd,hc,_⟩:=W.any_some q.hd
      unfold W.findObj
      rw[hc,Option.bind_some,q.ha,Option.bind_some]
      simp[k.hn,k.htk]
    exact tZ X I q.hga q.hno q.hb q.hm hf hq
theorem Ad {K:W.Frag}{x D dx:Addr}(q:XIs K D)(k:IsK K): W.KitX K (.ref x) (.ref D) (fun h=>(∃oe vs,h.get? x=some oe/\oe.cls=.ref D/\oe.dict=some dx/\oe.data=.fields vs)/\∃od,h.get? dx=some od) where
  ty:=fun M h _ p=>by
    obtain⟨⟨oe,vs,h1,h2,_⟩,_⟩:=p
    exact h2 ▸ (W.Looks.ld h1).andThen .now
  it:=fun _ _ X _=>by
    obtain⟨cdD,hcD,_⟩:=W.any_some q.hd
    unfold W.clsIn at hcD
    split at hcD
    · next ho =>
      intro A' Q' E' s' k q
      unfold isType loadHead
      exact wpAny_bind (wpAny_loadPart (k _ _ (X _ _ ho)) (wpAny_pure q))
    · cases hcD
  ne:=fun h tp dd its n sl X htp=>by
    obtain⟨cdD,hcD,_⟩:=W.any_some q.hd
    refine Bool.eq_false_iff.mpr fun z=>?_
    have e:D=tp:=Value.ref.inj (beq_iff_eq.mp z)
    subst e
    unfold W.clsIn at hcD
    split at hcD
    · next ho =>
      have z:=(X _ _ ho).symm.trans htp
      cases z
    · cases hcD
  ca:=fun {prog w A E Q s} X p hq=>by
    obtain⟨⟨oe,vs,h1,h2,h3,h4⟩,od,h5⟩:=p
    have I:W.InstAt s.heap x oe D (some od):=⟨h1,h2,by unfold W.notCls;rw[h4],by rw[h3];exact h5⟩
    have hf:W.findObj K D (some od) "__class__" = some (.bind (.builtin "getset_descriptor.__get__") (.builtin "object.__class__")):=by
      obtain⟨cd,hc,_⟩:=W.any_some q.hd
      unfold W.findObj
      rw[hc,Option.bind_some,q.ha,Option.bind_some]
      simp[k.hn,k.htk]
    exact tZ X I q.hga q.hno q.hb q.hm hf hq
section
variable {X:Cx}
theorem Dy {pins:List (Addr×Obj)}{σ:St}{H:Hp}{s:Shared}{x:V}{u t:Value}(I:Inv X pins σ H s)(rx:RelV x u)(ty:TyE X.K H x t): ∃P:Heap->Prop,W.KitX X.K u t P/\P s.heap/\u≠.builtin "__main__.__loader__#opaque" := by
  cases ty with
  | exc e q k =>
    cases rx
    exact⟨_,BL q k,(I.hok _ _ e).1,fun z=>nomatch z⟩
  | Ac e e2 q k =>
    cases rx
    exact⟨_,Ad q k,⟨(I.hok _ _ e).1,(I.hok _ _ e2).2.1⟩,fun z=>nomatch z⟩
  | of h =>
    cases h with
    | non=>cases (show u=Value.none from rx);exact⟨_,W.kitx_none,trivial,fun z=>nomatch z⟩
    | bl y=>cases (show u=Value.bool y from rx);exact⟨_,W.kitx_bool,trivial,fun z=>nomatch z⟩
    | int i=>obtain⟨t,q⟩:=(show ∃t,u=Value.int i t from rx);cases q;exact⟨_,W.kitx_int,trivial,fun z=>nomatch z⟩
    | str y=>obtain⟨t,q⟩:=(show ∃t,u=Value.str y t from rx);cases q;exact⟨_,W.kitx_str,trivial,fun z=>nomatch z⟩
    | flt y=>obtain⟨t,q⟩:=(show ∃t,u=Value.float y t from rx);cases q;exact⟨_,W.kitx_float,trivial,fun z=>nomatch z⟩
    | @lst a xs ea =>
      cases (show u=Value.ref a from rx)
      obtain⟨_,_,n,_,h1⟩:=(show bJ X.prog X.w H s.heap a (.lst xs) from I.hok a _ ea)
      exact⟨_,W.kitx_list,⟨_,h1,rfl⟩,fun z=>nomatch z⟩
    | @frz a ob xs ea =>
      cases (show u=Value.ref a from rx)
      obtain⟨_,_,_,n,_,h1⟩:=(show bJ X.prog X.w H s.heap a (.frz ob (.lst xs)) from I.hok a _ ea)
      exact⟨_,W.kitx_list,⟨_,h1,rfl⟩,fun z=>nomatch z⟩
    | @tup a xs ea =>
      cases (show u=Value.ref a from rx)
      obtain⟨_,_,_,p⟩:=(show bJ X.prog X.w H s.heap a (.tup xs) from I.hok a _ ea)
      obtain⟨o,h1,h2,_⟩:=p
      exact⟨_,W.kitx_tuple,⟨o,h1,h2⟩,fun z=>nomatch z⟩
    | @dK a kvs ea =>
      cases (show u=Value.ref a from rx)
      obtain⟨_,_,vs,_,p⟩:=(show bJ X.prog X.w H s.heap a (.dK kvs) from I.hok a _ ea)
      obtain⟨o,es,ep,h1,h2,_⟩:=p
      exact⟨_,W.kitx_dict,⟨o,h1,h2.1⟩,fun z=>nomatch z⟩
    | @dT a kvs ea =>
      cases (show u=Value.ref a from rx)
      obtain⟨_,_,xs,_,o,es,ep,h1,h2,_⟩:=(show bJ X.prog X.w H s.heap a (.dT kvs) from I.hok a _ ea)
      exact⟨_,W.kitx_dict,⟨o,h1,h2.1⟩,fun z=>nomatch z⟩
    | @ins a C dx fs ea cl ha hn htk hm =>
      cases (show u=Value.ref a from rx)
      obtain⟨mA,O,_⟩:=qo I.hok ea
      obtain⟨od,J,_⟩:=O.look
      exact⟨_,W.kitx_own (cl.get _) cl.hd ha hn htk hm,J,fun z=>nomatch z⟩
theorem bP:eZ X (.builtin "isinstance") (fun xs H Q=>∃x c t b,xs=[x,c]/\BJ c=true/\TyE X.K H x t/\W.kitOne X.K t (F9 c)=some b/\Q (.bl b) H):=by
  intro pins s σ H xs us Q I r h
  obtain⟨x,c,t,b,rfl,hc,ty,e,q⟩:=h
  obtain⟨u,v,rfl,ru,rv⟩:=vals2 r
  have:=Dx hc rv
  subst this
  obtain⟨P,kx,p,ne⟩:=Dy I ru ty
  exact W.kia_one kx I.kIn p e ne fun tk=>⟨.bl b,H,I.tok tk,rfl,q⟩
end
end L2

set_option maxHeartbeats 4000000
namespace L2
open PySem
def ky (cells:List (Str×Addr)): List (Str×NameKind)->List (Str×Addr)->List (Str×Addr)
  | [],acc=>acc
  | (n,k)::r,acc=>ky cells r (if k==.free then (n,(cells.lookup n).getD 0)::acc else acc)
def yZ (env:Env)(x:Str×NameKind)(cs:List (Str×Addr)): Sem (ForInStep (List (Str×Addr))):=match x with
  | (name,kind)=>if (kind==.free)=true then do let a <-cellOf env name;pure (ForInStep.yield ((name,a)::cs)) else pure (ForInStep.yield cs)
theorem BM {env:Env}{n:Str}{k:NameKind}{cs:List (Str×Addr)}(h:k=.free->∃c,env.cells.lookup n=some c):
    yZ env (n,k) cs=pure (ForInStep.yield (if k==.free then (n,(env.cells.lookup n).getD 0)::cs else cs)):=by
  unfold yZ
  by_cases hk:(k==NameKind.free)=true
  · obtain⟨c,hc⟩:=h (by simpa using hk)
    simp only [hk,if_true,cellOf,hc,pure_bind,Option.getD_some]
  · simp only [hk,if_false,Bool.false_eq_true]
theorem Dz {scope:Scope}{env:Env}(h:∀y∈scope.names,y.2=.free->∃c,env.cells.lookup y.1=some c): closureFor scope env=pure (ky env.cells scope.names []):=by
  have key:∀(l:List (Str×NameKind)) (acc:List (Str×Addr)),(∀y∈l,y.2=.free->∃c,env.cells.lookup y.1=some c) ->
      forIn l acc (yZ env)=(pure (ky env.cells l acc):Sem (List (Str×Addr))):=by
    intro l
    induction l with
    | nil=>intro acc _;rfl
    | cons p r ih =>
      obtain⟨n,k⟩:=p
      intro acc hl
      rw[List.forIn_cons,BM (fun z=>hl (n,k) List.mem_cons_self z),pure_bind]
      exact ih _ fun y hy=>hl y (List.mem_cons_of_mem _ hy)
  show (forIn scope.names [] (yZ env) >>= fun cs=>pure cs)=_
  rw[key scope.names [] h,pure_bind]
theorem wy {cells:List (Str×Addr)}{y:Str}{c:Addr}: ∀{l:List (Str×NameKind)} {acc:List (Str×Addr)},(∀p∈l,p.2=.free->∃c,cells.lookup p.1=some c)->(acc.lookup y=some c->cells.lookup y=some c) ->
    (ky cells l acc).lookup y=some c->cells.lookup y=some c
  | [],acc,_,ha,h=>ha h
  | (n,k)::r,acc,hl,ha,h=>by
    refine wy (l:=r) (fun p hp=>hl p (List.mem_cons_of_mem _ hp)) ?_ h
    by_cases hk:(k==NameKind.free)=true
    · rw[if_pos hk,List.lookup_cons]
      obtain⟨d,hd⟩:=hl (n,k) List.mem_cons_self (by simpa using hk)
      have hd':cells.lookup n=some d:=hd
      cases e:y==n with
      | true =>
        have:y=n:=beq_iff_eq.mp e
        subst this
        intro q
        rw[hd'] at q ⊢
        exact q
      | false=>exact ha
    · rw[if_neg hk];exact ha
theorem t7 {cells:List (Str×Addr)}{y:Str}: ∀{l:List (Str×NameKind)} {acc:List (Str×Addr)},(∃c,acc.lookup y=some c)->∃c,(ky cells l acc).lookup y=some c
  | [],_,h=>h
  | (n,k)::r,acc,h=>by
    refine t7 (l:=r) ?_
    by_cases hk:(k==NameKind.free)=true
    · rw[if_pos hk,List.lookup_cons]
      cases e:y==n with
      | true=>exact⟨_,rfl⟩
      | false=>exact h
    · rw[if_neg hk];exact h
theorem om {cells:List (Str×Addr)}{y:Str}: ∀{l:List (Str×NameKind)} {acc:List (Str×Addr)},(y,NameKind.free)∈l->∃c,(ky cells l acc).lookup y=some c
  | [],_,h=>nomatch h
  | (n,k)::r,acc,h=>by
    rcases List.mem_cons.mp h with q | q
    · cases q
      refine t7 (l:=r) ?_
      rw[if_pos (by rfl),List.lookup_cons]
      simp
    · exact om (l:=r) q
section
variable {prog:Program}{w:World}{A:Around}{R:Result->Shared->Prop}{s:Shared}
theorem Ae {elt target iter:Expr}{ifs:List Expr}{scope:Scope}{pos:Pos}{it acc:Value}{env:Env}(I:Nat->Shared->Prop)
    (turn:∀n s,I n s->wpAny (model prog w) A (pyNext it) (fun r s₁=>match r with
      | none=>R (.ok .next) s₁
      | some v=>wpAny (model prog w) A (letOwnedTupleGo target it v) (fun _ s₂=>wpAny (model prog w) A (assign target env v) (fun _ s₃ =>
          wpAny (model prog w) A (forIn ifs true fun c r=>if r=true then do let ok <-isTrue c env (eval c env);pure (ForInStep.yield ok) else pure (ForInStep.yield r)) (fun ok s₄ =>
            if ok=true then wpAny (model prog w) A (eval elt env) (fun x s₅=>wpAny (model prog w) A (call (.builtin "list.append") [acc,x]) (fun _ s₆=>∃m,m < n/\I m s₆) (fun _ _=>False) s₅) (fun _ _=>False) s₄
            else ∃m,m < n/\I m s₄) (fun _ _=>False) s₃) (fun _ _=>False) s₂) (fun _ _=>False) s₁) (fun _ _=>False) s)
    (n:Nat) (h:I n s):codeAny (model prog w) A (.compLoop (.ListComp elt [⟨target,iter,ifs,0⟩] scope pos) 0 it acc env) R s:=by
  refine codeAny_loop rfl I (fun n s hI=>?_) n h
  show wpAny _ A ((compTurn (.ListComp elt [⟨target,iter,ifs,0⟩] scope pos) 0 it acc env).onRaise (fun x=>do noteFrame x env;theTreesLotGoes x)) _ _ s
  refine wpAny_noted ?_
  rw[compTurn_list]
  have no:∀{α:Type} {t:Sem α} {Q:α->Shared->Prop} {E:Value->Shared->Prop} {s:Shared},wpAny (model prog w) A t Q (fun _ _=>False) s->wpAny (model prog w) A t Q E s:=fun {α t Q E s} z=>wpAny_mono z (fun _ _ q=>q) fun _ _ q=>q.elim
  refine wpAny_bind (wpAny_standAt (wpAny_bind (no (wpAny_mono (turn n s hI) (fun r s₁ h₁=>?_) fun _ _ z=>z))))
  cases r with
  | none=>exact wpAny_pure h₁
  | some v =>
    refine wpAny_bind (no (wpAny_mono h₁ (fun _ s₂ h₂=>?_) fun _ _ z=>z))
    refine wpAny_bind (no (wpAny_mono h₂ (fun _ s₃ h₃=>?_) fun _ _ z=>z))
    refine wpAny_bind (no (wpAny_mono h₃ (fun ok s₄ h₄=>?_) fun _ _ z=>z))
    cases ok with
    | false=>exact wpAny_pure ⟨rfl,h₄⟩
    | true=>exact wpAny_bind (wpAny_bind (no (wpAny_mono h₄ (fun x s₅ h₅=>wpAny_bind (no (wpAny_mono h₅ (fun _ s₆ h₆=>wpAny_pure (wpAny_pure ⟨rfl,h₆⟩)) fun _ _ z=>z))) fun _ _ z=>z)))
end
end L2

set_option maxHeartbeats 4000000
namespace L2
open PySem PySem.Spec PyProof.Rows
theorem mV {scope:Scope}{env:Env}{y:Str}: (relabel scope env).names.lookup y=(scope.names.lookup y).map fun k=>if (k==.free&&env.scope.kind==.function&&env.kindOf y==some .cell) then NameKind.cell else k:=by
  unfold relabel
  show (scope.names.map _).lookup y=_
  generalize scope.names=l
  induction l with
  | nil=>rfl
  | cons p r ih =>
    obtain⟨n,k⟩:=p
    rw[List.map_cons]
    cases e:y==n with
    | true =>
      have:y=n:=beq_iff_eq.mp e
      subst this
      by_cases h:(k==NameKind.free&&env.scope.kind==.function&&env.kindOf y==some .cell)=true
      · simp only [h,if_true,List.lookup_cons,beq_self_eq_true,Option.map_some]
      · simp only [h,if_false,List.lookup_cons,beq_self_eq_true,Option.map_some,Bool.false_eq_true]
    | false =>
      by_cases h:(k==NameKind.free&&env.scope.kind==.function&&env.kindOf n==some .cell)=true
      · simp only [h,if_true,List.lookup_cons,e];exact ih
      · simp only [h,if_false,List.lookup_cons,e,Bool.false_eq_true];exact ih
theorem iO {l:List (Str×NameKind)}{y:Str}{k:NameKind}(h:l.lookup y=some k): (y,k)∈l:=PySem.mem_of_lookup h
structure jG (scope fsc:Scope)(xs N' N:List Str): Prop where
  kind:scope.kind=.function
  own:∀y∈scope.names,y.2=.local->scope.names.lookup y.1=some .local
  BO:(scope.names.all fun y=>y.2 != .cell)=true
  frees:(scope.names.all fun y=>y.2 != .free || fsc.names.lookup y.1==some .cell || fsc.names.lookup y.1==some .free)=true
  mask:(N'.all fun y=>scope.names.lookup y != some .local)=true
  same:((N'.zip N).all fun p=>p.1==p.2 || scope.names.lookup p.1==none)=true
  len:N'.length=N.length
def c9 (X:Cx)(scope:Scope)(NN:List Str)(C:Addr)(s:Shared)(H:Hp)(pins:List (Addr×Obj))(fp:List Addr): Cx :=
  { X with N:=NN,s₀:=s,H₀:=H,env:=compEnvC scope (ky X.env.cells scope.names []) C X.env,outer:=X.stack,stack:=X.stack,ex:=fp,fn:=fun _=>false,pn:=X.pn++pins,xe:=fun _ _=>False }
section
variable {X:Cx}{pins:List (Addr×Obj)}{σ:St}{H:Hp}{s:Shared}{scope:Scope}{xs N':List Str}{fp:List Addr}
theorem jG.free {fsc:Scope}{N:List Str}{y:Str}(c:jG scope fsc xs N' N)(h:scope.names.lookup y=some .free): fsc.names.lookup y=some .cell\/fsc.names.lookup y=some .free:=by
  have:=List.all_eq_true.mp c.frees _ (iO h)
  simp at this
  exact this
theorem jG.vis {fsc:Scope}{N:List Str}{y:Str}{env:Env}(c:jG scope fsc xs N' N)(h:(relabel scope env).names.lookup y=some .cell\/(relabel scope env).names.lookup y=some .free): scope.names.lookup y=some .free:=by
  rw[mV] at h
  cases e:scope.names.lookup y with
  | none=>rw[e] at h;simp at h
  | some k =>
    have nc:=List.all_eq_true.mp c.BO _ (iO e)
    rw[e] at h
    cases k<;>simp at nc h ⊢
theorem wA {env:Env}{y:Str}(h:(relabel scope env).names.lookup y=some .local): scope.names.lookup y=some .local:=by
  rw[mV] at h
  cases e:scope.names.lookup y with
  | none=>rw[e] at h;simp at h
  | some k =>
    rw[e] at h
    simp only [Option.map_some,Option.some.injEq] at h
    split at h
    · cases h
    · rw[h]
theorem x9 (I:Inv X pins σ H s)(cok:jG scope X.env.scope xs N' X.N)(hfp:∀b∈fp,pL X pins H b)(hfo:∀b∈fp,∃o,s.heap.get? b=some o){h1:Heap}{tk:Nat}(hn:h1.Ns s.heap.objs.size fun _=>none)
    (keep:∀b o,s.heap.get? b=some o->h1.get? b=some o):Inv (c9 X scope (xs++N') s.heap.objs.size s H pins fp) [] (List.replicate xs.length none++σ) H { s with heap:=h1,toks:=tk }:=by
  have has:∀y,scope.names.lookup y=some .free->∃c,X.env.cells.lookup y=some c:=fun y h=>I.ok.has y (cok.free h)
  have cells:∀y c,(ky X.env.cells scope.names []).lookup y=some c->X.env.cells.lookup y=some c:=fun y c h=>by
    refine wy (l:=scope.names) (acc:=[]) (fun p hp hk=>?_) (fun z=>nomatch z) h
    have:X.env.scope.names.lookup p.1=some .cell\/X.env.scope.names.lookup p.1=some .free:=by
      have:=List.all_eq_true.mp cok.frees p hp
      simp[hk] at this
      exact this
    exact I.ok.has p.1 this
  have clt:∀y c,X.env.cells.lookup y=some c->c < s.heap.objs.size:=fun y c h=>by
    obtain⟨v,q⟩:=I.cell y c h
    exact q.lt
  have sLs:∀b∈fp,b∉frs X.stack:=fun b hb z=>by
    rcases List.mem_cons.mp (I.ko b z) with q | q
    · exact(hfp b hb).2.1 q
    · exact(hfp b hb).2.2.1 q
  have cellK:∀c v,s.heap.IsCell c v->h1.IsCell c v:=fun c v ⟨o,ho,hd⟩=>⟨o,keep c o ho,hd⟩
  refine⟨⟨I.ok.mod,?_,I.ok.glob,I.ok.blt,Nat.le_refl _,fun y z c h1 h2=>I.ok.inj y z c (cells y c h1) (cells z c h2),fun y h=>?_,fun _ _ z=>(nomatch z),I.ok.hd,I.ok.frames,.inl rfl,fun b hb=>⟨?_,fun y c h=>?_⟩,I.bs,Nat.le_trans I.ok.bsz I.sz,fun b o e hb=>?_,sLs,I.stack,I.uE⟩,
    rfl,I.bare,Un.kept keep,⟨_,hn,fun i y v e1 e2 e3=>?_⟩,fun y c h=>?_,I.hok.fresh (Nat.le_refl _),fun y c h=>I.iM y c (cells y c h),fun p hp=>?_,I.hok.kept keep,?_⟩
  · show scope.kind=_;exact cok.kind
  · exact om (iO (cok.vis h))
  · obtain⟨o,e⟩:=hfo b hb
    exact Nat.ne_of_lt (Heap.lt_size e)
  · exact(hfp b hb).2.2.2.2.1 y c (cells y c h)
  · rcases (hfp b hb).2.2.2.1 with z | z
    · exact I.ok.sA b o e z
    · exact absurd (Nat.lt_of_lt_of_le (Heap.lt_size (I.ok.bs b o e).1) z) (Nat.lt_irrefl _)
  · have hi:xs.length<=i:=by
      refine Nat.le_of_not_lt fun z=>?_
      rw[List.getElem?_append_left (by rw[List.length_replicate];exact z),List.getElem?_replicate] at e2
      split at e2<;>simp at e2
    have e1':N'[i-xs.length]?=some y:=by
      have e1:(xs++N')[i]?=some y:=e1
      rwa [List.getElem?_append_right hi] at e1
    have e2':σ[i-xs.length]?=some (some v):=by
      rw[List.getElem?_append_right (by rw[List.length_replicate];exact hi),List.length_replicate] at e2
      exact e2
    have mem:=List.mem_of_getElem? e1'
    have hk:(relabel scope X.env).names.lookup y=some .cell\/(relabel scope X.env).names.lookup y=some .free:=by
      rcases e3 with z | z
      · have:=List.all_eq_true.mp cok.mask y mem
        rw[wA z] at this
        simp at this
      · exact z
    have hf:=cok.vis hk
    have hx:X.N[i-xs.length]?=some y:=by
      have hl:i-xs.length < X.N.length:=by rw[<-cok.len];exact(List.getElem?_eq_some_iff.mp e1').1
      have hz:(N'.zip X.N)[i-xs.length]?=some (y,X.N[i-xs.length]):=by
        rw[List.getElem?_zip_eq_some]
        exact⟨e1',List.getElem?_eq_getElem hl⟩
      have:=List.all_eq_true.mp cok.same _ (List.mem_of_getElem? hz)
      simp[hf] at this
      rw[List.getElem?_eq_getElem hl,<-this]
    obtain⟨m,hm,hl⟩:=I.loc
    have hv:Vis X.env.scope y:=.inr (cok.free hf)
    obtain⟨u,r,l⟩:=hl _ y v hx e2' hv
    refine⟨u,r,.inr ⟨hk,?_⟩⟩
    rcases l with ⟨k,_⟩ | ⟨_,c,hc,hcell⟩
    · rcases cok.free hf with z | z
      · rw[show X.env.scope.names.lookup y=some .local from k] at z;cases z
      · rw[show X.env.scope.names.lookup y=some .local from k] at z;cases z
    · obtain⟨c',hc'⟩:=om (cells:=X.env.cells) (acc:=[]) (iO hf)
      have:c=c':=by
        have:=cells y c' hc'
        rw[hc] at this
        exact Option.some.inj this
      subst this
      exact⟨c,hc',cellK c _ hcell⟩
  · obtain⟨v,q⟩:=I.cell y c (cells y c h)
    exact⟨v,cellK c v q⟩
  · have hp':p∈X.pn++pins:=by simpa [c9] using hp
    obtain⟨e,n,ne,nf,d⟩:=I.pin p hp'
    refine⟨keep p.1 p.2 e,n,Nat.ne_of_lt (Heap.lt_size e),fun z=>?_,d⟩
    rcases List.mem_cons.mp (I.ko p.1 z) with q | q
    · exact ne q
    · exact nf q
  · show (List.replicate xs.length none++σ).length=(xs++N').length
    rw[List.length_append,List.length_append,List.length_replicate,I.len,cok.len]
def qP:TT:=fun _ H Q=>Q true H
def PTs (X:Cx)(ifs:List Expr)(t:TT): Prop :=
  ∀(pins:List (Addr×Obj)) (s:Shared) (σ:St) (H:Hp) (Q:Bool->Hp->Prop),Inv X pins σ H s->t σ H Q ->
    wpAny (model X.prog X.w) X.A (forIn ifs true fun c r=>if r=true then do let ok <-isTrue c X.env (eval c X.env);pure (ForInStep.yield ok) else pure (ForInStep.yield r)) (TP X pins σ Q) X.xe s
theorem mW:PTs X [] qP:=fun _ _ _ H _ I h=>wpAny_tests_nil ⟨H,I,h⟩
def BP (k:Nat)(wi:TI)(g:TG)(tc:TT)(te:TE): TE:=fun σ H Q=>wi σ H fun J H1=>∀acc,H1 acc=none->∃(W:Nat->List V->Hp->Prop) (n:Nat),W 0 [] (upd H1 acc (.lst [])) ∧
  ∀i ys H2,W i ys H2->H2 acc=some (.lst ys)/\ys.length < sizeLine/\((i=n/\J.stop i H2/\Q (.ref acc) H2)\/(i < n/\J.go i H2/\∀x H3,J.yld i H2 x H3->∀τ:St,τ.length=k->g x (τ++σ) H3 fun τ2 H4 =>
    (∃τ':St,τ'.length=k/\τ2=τ'++σ)/\tc τ2 H4 fun b H5=>if b=true then te τ2 H5 fun v H6=>H6 acc=some (.lst ys)/\W (i+1) (ys++[v]) (upd H6 acc (.lst (ys++[v]))) else W (i+1) ys H5))
theorem comp_back (I:Inv X pins σ H s)(hfp:∀b∈fp,pL X pins H b){NN:List Str}{lS:List (Addr×Obj)}{τ:St}{H':Hp}{s':Shared}(J:Inv (c9 X scope NN s.heap.objs.size s H pins fp) lS τ H' s'): Inv X pins σ H' s' :=
  I.call' (ch:=fp) (J.os.trans rfl) J.base J.hok J.bare fun b hb=>⟨(hfp b hb).2.2.2.1,(hfp b hb).2.1,(hfp b hb).2.2.2.2.1,(hfp b hb).2.2.2.2.2⟩
end
end L2

set_option maxHeartbeats 4000000
namespace L2
open PySem PySem.Spec PyProof.Rows
section
variable {X:Cx}{scope:Scope}{xs N':List Str}{target iter elt:Expr}{ifs:List Expr}{pos:Pos}{wi:TI}{g:TG}{tc:TT}{te:TE}
theorem qQ (hc:X.calm=true)(cok:jG scope X.env.scope xs N' X.N)(hi:PI X target iter wi)
    (hg:∀C s H pins fp,PG (c9 X scope (xs++N') C s H pins fp) target g) (ht:∀C s H pins fp,PTs (c9 X scope (xs++N') C s H pins fp) ifs tc) (he:∀C s H pins fp,PE (c9 X scope (xs++N') C s H pins fp) elt te)
    {pins:List (Addr×Obj)} {s:Shared} {σ:St} {H:Hp} {Q:VK} {RR:Value->Addr->Result->Shared->Prop} (I:Inv X pins σ H s) (h:BP xs.length wi g tc te σ H Q)
    (hRR:∀a C m H' s',Inv X pins σ H' s'->pL X pins H' C->s'.heap.Ns C m->Q (.ref a) H'->RR (.ref a) C (.ok .next) s') :
    wpAny (model X.prog X.w) X.A (eval iter X.env) (fun x s₁=>wpAny (model X.prog X.w) X.A (pyIter x) (fun it s₂=>wpAny (model X.prog X.w) X.A (newList []) (fun acc s₃ =>
      wpAny (model X.prog X.w) X.A (newFunctionEnv scope X.env.globals (ky X.env.cells scope.names []) [] X.env.qual none .none (some X.env)) (fun cenv s₄ =>
        codeAny (model X.prog X.w) X.A (.compStart (.ListComp elt [⟨target,iter,ifs,0⟩] scope pos) 0 it acc { cenv with scope:=relabel scope X.env }) (RR acc cenv.locals) s₄) X.xe s₃) X.xe s₂) X.xe s₁) X.xe s:=by
  refine thn (hi pins s σ H _ I h) fun v s1 h1=>thn h1 fun itv s2 h2=>?_
  obtain⟨it,fp,tn,J,H2,e,I2,T,st2,f2,h3⟩:=h2
  subst e
  have ob2:∀b∈fp,∃o,s2.heap.get? b=some o:=fun b hb=>let ⟨o,q,_⟩:=T.obj _ _ st2 b hb;⟨o,q⟩
  have Fg:H2 s2.heap.objs.size=none:=I2.fresh
  have I3:=I2.Hk (its:=[]) (ys:=[]) (t':=s2.toks) .nil (Nat.zero_le _)
  refine wpAny_newObj_type (T := "list") ?_
  obtain⟨W,n,w0,turn⟩:=h3 s2.heap.objs.size Fg
  generalize hs3:({ s2 with heap:=s2.heap.push { cls:=.type "list",data:=.seq ([]:List Value).toArray },toks:=s2.toks }:Shared)=s3 at I3
  have F_:∀b o,s2.heap.get? b=some o->s3.heap.get? b=some o:=fun b o q=>by rw[<-hs3];exact Heap.get?_push_of_some _ q
  have f3:∀b∈fp,pL X pins (upd H2 s2.heap.objs.size (.lst [])) b:=fun b hb=>by
    obtain⟨o,q⟩:=ob2 b hb
    obtain⟨q0,q1⟩:=f2 b hb
    exact⟨by rw[av (Nat.ne_of_lt (Heap.lt_size q))];exact q0,q1⟩
  have ob3:∀b∈fp,∃o,s3.heap.get? b=some o:=fun b hb=>let ⟨o,q⟩:=ob2 b hb;⟨o,F_ b o q⟩
  have st3:tn 0 s3.heap:=T.keep _ _ _ st2 fun b _ o q=>F_ b o q
  refine wpAny_newFunctionEnv (fun y hy z=>?_) (fun y hy=>nomatch hy) (fun h4 hns hsb=>?_) cok.kind
  · have:=List.all_eq_true.mp cok.BO y hy
    rw[z] at this
    simp at this
  have Eo:∀b o,s3.heap.get? b=some o->h4.get? b=some o:=fun b o q=>(hsb.2 b (Nat.ne_of_lt (Heap.lt_size q))).trans (Heap.get?_push_of_some _ q)
  have J4:=x9 (tk:=s3.toks+([]:List (Str×Value)).length) I3 cok f3 ob3 hns Eo
  have st4:tn 0 h4:=T.keep _ _ _ st3 fun b _ o q=>Eo b o q
  generalize hY:c9 X scope (xs++N') s3.heap.objs.size s3 (upd H2 s2.heap.objs.size (.lst [])) pins fp=Y at J4
  have hP:Y.prog=X.prog:=by rw[<-hY];rfl
  have hw:Y.w=X.w:=by rw[<-hY];rfl
  have hK:Y.K=X.K:=by rw[<-hY];rfl
  have hcY:Y.calm=true:=by rw[<-hY];exact hc
  have stat:∀{H':Hp},(∀b∈fp,H' b=none)->∀b∈fp,pL Y [] H' b:=fun {H'} hn b hb=>by
    obtain⟨o,q⟩:=ob3 b hb
    rw[<-hY]
    refine⟨hn b hb,Nat.ne_of_lt (Heap.lt_size q),fun z=>?_,.inl hb,fun y c hy=>?_,fun p hp=>?_⟩
    · rcases List.mem_cons.mp (I3.ko b z) with w | w
      · exact(f3 b hb).2.1 w
      · exact(f3 b hb).2.2.1 w
    · have hx:=J4.ok.exf b (by rw[<-hY];exact hb)
      rw[<-hY] at hx
      exact hx.2 y c hy
    · have hp':p∈X.pn++pins:=by simpa [c9] using hp
      exact(f3 b hb).2.2.2.2.2 p hp'
  have loop:∀s5:Shared,Inv Y [] (List.replicate xs.length none++σ) (upd H2 s2.heap.objs.size (.lst [])) s5->tn 0 s5.heap ->
      codeAny (model X.prog X.w) X.A (.compLoop (.ListComp elt [⟨target,iter,ifs,0⟩] scope pos) 0 (.ref it) (.ref s2.heap.objs.size) Y.env) (RR (.ref s2.heap.objs.size) s3.heap.objs.size) s5:=by
    intro s5 J5 st5
    refine Ae (fun k s'=>∃(i:Nat) (ys:List V) (H':Hp) (τ:St),k+i=n/\τ.length=xs.length/\Inv Y [] (τ++σ) H' s'/\tn i s'.heap/\(∀b∈fp,H' b=none)/\W i ys H') ?_ n
      ⟨0,[],_,List.replicate xs.length none,rfl,List.length_replicate ..,J5,st5,fun b hb=>(f3 b hb).1,w0⟩
    rintro k s6 ⟨i,ys,H6,τ,hk,hτ,J6,st6,fr6,w6⟩
    obtain⟨hacc,hlen,hcase⟩:=turn i ys H6 w6
    rcases hcase with ⟨hin,stop,hq⟩ | ⟨hin,go,step⟩
    · refine thn (A:=X.A) (by have:=T.done Y hP hw hK hcY i [] s6 (τ++σ) H6 (fun _ _=>False) J6 (stat fr6) st6 stop;rw[<-hY] at this;exact this) fun r s7 q7=>?_
      obtain⟨hr,J7⟩:=q7
      subst hr
      rw[hY] at J7
      obtain⟨m7,hn7,_⟩:=J7.loc
      have e1:Y.env.locals=s3.heap.objs.size:=by rw[<-hY];rfl
      rw[e1] at hn7
      have J7':Inv X pins σ H6 s7:=comp_back I3 f3 (by rw[hY];exact J7)
      refine hRR _ _ m7 H6 s7 J7' ?_ hn7 hq
      have e2:=J7.free
      rw[e1] at e2
      exact I3.sB (Nat.le_refl _) e2
    · refine thn (A:=X.A) (by have:=T.item Y hP hw hK hcY i [] s6 (τ++σ) H6 (fun _ _=>False) J6 (stat fr6) st6 go;rw[<-hY] at this;exact this) fun r s7 q7=>?_
      obtain⟨u,hr,q7⟩:=q7
      subst hr
      have hA:Y.A=X.A:=by rw[<-hY];rfl
      rw[hY] at q7
      rw[hA] at q7
      refine thn q7 fun _ s8 q8=>?_
      obtain⟨x8,H8,J8,r8,y8,st8,fr8⟩:=q8
      have J8':=J8.pinned (stat fr8) (T.obj _ _ st8)
      have g8:=hg s3.heap.objs.size s3 (upd H2 s2.heap.objs.size (.lst [])) pins fp
      have t8:=ht s3.heap.objs.size s3 (upd H2 s2.heap.objs.size (.lst [])) pins fp
      have e8:=he s3.heap.objs.size s3 (upd H2 s2.heap.objs.size (.lst [])) pins fp
      have a8:∀{Z:Cx},Z=Y->MtM Z "list.append" yS:=fun {Z} _=>fH
      have hxe:Y.xe=fun _ _=>False:=by rw[<-hY];rfl
      rw[hY] at g8 t8 e8
      have back:∀{τ2:St} {H9:Hp} {s9:Shared},Inv Y ([]++qB fp s8.heap) τ2 H9 s9->Inv Y [] τ2 H9 s9/\tn (i+1) s9.heap/\∀b∈fp,H9 b=none:=fun {τ2 H9 s9} J9=>by
        refine⟨J9.mO,T.keep _ _ _ st8 fun b hb o q=>(J9.pin (b,o) (List.mem_append_right _ (List.mem_append_right _ (jC hb q)))).1,fun b hb=>?_⟩
        obtain⟨o,q,d⟩:=T.obj _ _ st8 b hb
        exact(J9.pin (b,o) (List.mem_append_right _ (List.mem_append_right _ (jC hb q)))).2.1
      have z1:=g8 _ s8 (τ++σ) H8 x8 u _ J8' r8 (step x8 H8 y8 τ hτ)
      rw[hP,hw,hA,hxe] at z1
      refine thn z1 fun _ s9 q9=>?_
      obtain⟨τ9,H9,J9,⟨τ',hτ',e9⟩,q9⟩:=q9
      subst e9
      have z2:=t8 _ s9 (τ'++σ) H9 _ J9 q9
      rw[hP,hw,hA,hxe] at z2
      refine thn z2 fun b s10 q10=>?_
      obtain⟨H10,J10,q10⟩:=q10
      cases b with
      | false =>
        rw[if_neg Bool.false_ne_true] at q10 ⊢
        obtain⟨b1,b2,b3⟩:=back J10
        exact⟨k-1,by omega,i+1,ys,H10,τ',by omega,hτ',b1,b2,b3,q10⟩
      | true =>
        rw[if_pos rfl] at q10 ⊢
        have z3:=e8 _ s10 (τ'++σ) H10 _ J10 q10
        rw[hP,hw,hA,hxe] at z3
        refine thn z3 fun y s11 q11=>?_
        obtain⟨v11,H11,J11,r11,Fh,w11⟩:=q11
        have z4:=a8 rfl _ s11 (τ'++σ) H11 (.ref s2.heap.objs.size) [v11] (.ref s2.heap.objs.size) [y] (fun _ H'=>W (i+1) (ys++[v11]) H') J11 rfl (.cons r11 .nil) ⟨_,ys,v11,rfl,rfl,Fh,hlen,w11⟩
        rw[hP,hw,hA,hxe] at z4
        refine thn z4 fun _ s12 q12=>?_
        obtain⟨_,H12,J12,_,w12⟩:=q12
        obtain⟨b1,b2,b3⟩:=back J12
        exact⟨k-1,by omega,i+1,ys++[v11],H12,τ',by omega,hτ',b1,b2,b3,w12⟩
  have Hn:({ newEnv scope s3.heap.objs.size X.env.globals (ky X.env.cells scope.names []) X.env.qual none .none (some X.env) X.env.builtins with scope:=relabel scope X.env }:Env)=Y.env:=by rw[<-hY];rfl
  have l4:=loop _ J4 st4
  rw[<-Hn] at l4
  exact codeAny_compStart_list l4 (T.self _ 0 _ _ _ st4 l4)
theorem y0 {pins:List (Addr×Obj)}{s:Shared}{σ:St}{H:Hp}(I:Inv X pins σ H s)(cok:jG scope X.env.scope xs N' X.N): closureFor scope X.env=pure (ky X.env.cells scope.names []):=by
  refine Dz fun p hp hk=>?_
  have:X.env.scope.names.lookup p.1=some .cell\/X.env.scope.names.lookup p.1=some .free:=by
    have:=List.all_eq_true.mp cok.frees p hp
    simp[hk] at this
    exact this
  exact I.ok.has p.1 this
theorem qt (hc:X.calm=true)(cok:jG scope X.env.scope xs N' X.N)(hi:PI X target iter wi)
    (hg:∀C s H pins fp,PG (c9 X scope (xs++N') C s H pins fp) target g) (ht:∀C s H pins fp,PTs (c9 X scope (xs++N') C s H pins fp) ifs tc) (he:∀C s H pins fp,PE (c9 X scope (xs++N') C s H pins fp) elt te)
    (hs:∀x,foldedSetIterable iter X.env x=pure x:=by intro _;rfl):PE X (.ListComp elt [⟨target,iter,ifs,0⟩] scope pos) (BP xs.length wi g tc te):=by
  intro pins s σ H Q I h
  rw[eval_ListComp]
  refine wpAny_comprehension_free (use:=none) rfl hs (y0 I cok) cok.kind cok.own (qQ hc cok hi hg ht he I h fun a C m H' s' J fC hn q=>⟨m,hn,fun h' hs'=>?_⟩)
  obtain⟨f0,f1,f2,f3,f4,f5⟩:=fC
  exact⟨.ref a,H',J.turned (t':=s'.toks) (fun b o hb e=>(hs'.2 b hb).trans e) f0 f1 f3 f4 f5,rfl,q⟩
theorem DA {j:Nat}{y:Str}{py spos:Pos}(hN:X.N.Nodup)(hj:X.N[j]?=some y)(hy:X.env.scope.names.lookup y=some .local)(hc:X.calm=true)(cok:jG scope X.env.scope xs N' X.N)(hi:PI X target iter wi)
    (hg:∀C s H pins fp,PG (c9 X scope (xs++N') C s H pins fp) target g) (ht:∀C s H pins fp,PTs (c9 X scope (xs++N') C s H pins fp) ifs tc) (he:∀C s H pins fp,PE (c9 X scope (xs++N') C s H pins fp) elt te)
    (hsw:swapsWith (.ListComp elt [⟨target,iter,ifs,0⟩] scope pos) (some (.Name y py)) spos.line X.env=pure true:=by rfl) (hs:∀x,foldedSetIterable iter X.env x=pure x:=by intro _;rfl) :
    PS X (.Assign [.Name y py] (.ListComp elt [⟨target,iter,ifs,0⟩] scope pos) spos) (EK (BP xs.length wi g tc te) (pc j)):=by
  intro pins s σ H D I h
  rw[exec_Assign_Name_used _ _ _ _ hsw]
  refine wpAny_bind (wpAny_standAt (wpAny_bind ?_))
  show wpAny _ X.A (do let _ <-comprehension (.ListComp elt [⟨target,iter,ifs,0⟩] scope pos) scope X.env _ (newList []) false (eval iter X.env) (some (assign (.Name y py) X.env))) _ _ s
  refine wpAny_bind (wpAny_mono (wpAny_comprehension_free (use:=some (assign (.Name y py) X.env)) (Q:=fun _ s'=>SP X pins D .next s') rfl hs (y0 I cok) cok.kind cok.own
    (qQ hc cok hi hg ht he I h fun a C m H' s' J fC hn q=>?_)) (fun _ s' hq=>wpAny_pure (wpAny_pure hq)) fun _ _ e=>e)
  obtain⟨f0,f1,f2,f3,f4,f5⟩:=fC
  refine wpAny_assign_Name (tJ J hN hj (.inl hy) (v:=.ref a) rfl (fun s2 J2 sb=>?_) (.inr hy))
  obtain⟨b,sb,hb⟩:=sb
  have nb:C≠b:=by
    rcases hb with z | z
    · rw[z];exact f1
    · exact Ne.symm (f4 y b z)
  refine⟨m,hn.sameBut sb nb,fun h' hs'=>⟨_,H',J2.turned (t':=s2.toks) (fun b o hb e=>(hs'.2 b hb).trans e) f0 f1 f3 f4 f5,q⟩⟩
end
end L2

set_option maxHeartbeats 4000000
namespace L2
open PySem PySem.Spec PyProof.Rows
def cE (K:W.Frag)(mg:Str->Option Value)(x:Str)(st:Stmt)(ps:List Str)(dvs:List V): Prop :=
  ∃(f:Addr) (oc:Value) (od:Option Addr) (dV kV doc pm:Value) (an:Option Addr) (cdv ct:Value) (osl:Array (Option Value)) (ds:List Value),
    K.lookup f=some ⟨oc,od,.func (W.fnOf x x (bK st) (aO st) (au st) dV kV doc pm an cdv ct),osl⟩/\W.codeIn K cdv x=true/\W.keepIn K (.ref f)=true ∧
    mg x=some (.ref f)/\Binds K (W.fnOf x x (bK st) (aO st) (au st) dV kV doc pm an cdv ct) ps ds/\Vals dvs ds
def bB (K:W.Frag)(C:Addr)(m qual:Str)(st:Stmt)(ps:List Str)(dvs:List V): Prop :=
  ∃(f:Addr) (oc:Value) (od:Option Addr) (dV kV doc pm:Value) (an:Option Addr) (cdv ct:Value) (osl:Array (Option Value)) (ds:List Value),
    K.lookup f=some ⟨oc,od,.func (W.fnOf m qual (bK st) (aO st) (au st) dV kV doc pm an cdv ct),osl⟩/\W.codeIn K cdv qual=true/\Meth K C m f ∧
    Binds K (W.fnOf m qual (bK st) (aO st) (au st) dV kV doc pm an cdv ct) ps ds/\Vals dvs ds
def kA (K:W.Frag)(C:Addr)(qual:Str)(st:Stmt)(ps:List Str)(dvs:List V): Prop :=
  ∃(f:Addr) (oc:Value) (od:Option Addr) (dV kV doc pm:Value) (an:Option Addr) (cdv ct:Value) (osl:Array (Option Value)) (ds:List Value),
    K.lookup f=some ⟨oc,od,.func (W.fnOf "__init__" qual (bK st) (aO st) (au st) dV kV doc pm an cdv ct),osl⟩/\W.codeIn K cdv qual=true/\Mk K C f ∧
    Binds K (W.fnOf "__init__" qual (bK st) (aO st) (au st) dV kV doc pm an cdv ct) ps ds/\Vals dvs ds
def HasFn (P:Program)(w:World)(K:W.Frag)(mg:Str->Option Value)(base:Heap)(k:Nat)(x:Str)(ps:List Str)(sp:Sp)(dvs:List V): Prop :=
  ∃f fd ds,fY P w K mg base (CXE P w) k f fd ps sp/\mg x=some (.ref f)/\W.keepIn K (.ref f)=true/\Binds K fd ps ds/\Vals dvs ds
def aE (P:Program)(w:World)(K:W.Frag)(mg:Str->Option Value)(base:Heap)(C:Addr)(k:Nat)(m:Str)(ps:List Str)(sp:Sp)(dvs:List V): Prop :=
  ∃f fd ds,fY P w K mg base (CXE P w) k f fd ps sp/\Meth K C m f/\Binds K fd ps ds/\Vals dvs ds
def eB (P:Program)(w:World)(K:W.Frag)(mg:Str->Option Value)(base:Heap)(C:Addr)(k:Nat)(ps:List Str)(sp:Sp)(dvs:List V): Prop :=
  ∃f fd ds,fY P w K mg base (CXE P w) k f fd ps sp/\Mk K C f/\Binds K fd ps ds/\Vals dvs ds
section
variable {P:Program}{w:World}{K:W.Frag}{mg:Str->Option Value}{base:Heap}{C:Addr}{x m qual:Str}{st:Stmt}{N ps:List Str}{dvs:List V}{k:Nat}{sp:Sp}
theorem cE.ok (R:cE K mg x st ps dvs)(S:aC N ps (au st))(len:∀vs H Q E,sp vs H Q E->vs.length=ps.length)
    (hbody:∀(f:Addr) (cdv:Value) (A:Around) (outer:List Env) (s:Shared) (H:Hp) (vs:List V) (Q:VK) (E:XK),dC k (A.deeper (envOfC x (au st) s.heap.objs.size f cdv))->sp vs H Q E ->
      ∃t,PSs (dJ (CXE P w) P w K mg base N x (au st) f cdv A outer s H E) (aO st) t/\t { nx:=fun _ H'=>Q .non H',rt:=Q } (start N vs) H):HasFn P w K mg base (k+1) x ps sp dvs:=by
  obtain⟨f,oc,od,dV,kV,doc,pm,an,cdv,ct,osl,ds,lk,hcd,kp,hm,hb,hd⟩:=R
  exact⟨f,_,ds,pf lk hcd S len fun A outer s H vs Q E hr hsp=>hbody f cdv A outer s H vs Q E hr hsp,hm,kp,hb,hd⟩
theorem bB.ok (R:bB K C m qual st ps dvs)(S:aC N ps (au st))(len:∀vs H Q E,sp vs H Q E->vs.length=ps.length)
    (hbody:∀(f:Addr) (cdv:Value) (A:Around) (outer:List Env) (s:Shared) (H:Hp) (vs:List V) (Q:VK) (E:XK),dC k (A.deeper (envOfC qual (au st) s.heap.objs.size f cdv))->sp vs H Q E ->
      ∃t,PSs (dJ (CXE P w) P w K mg base N qual (au st) f cdv A outer s H E) (aO st) t/\t { nx:=fun _ H'=>Q .non H',rt:=Q } (start N vs) H):aE P w K mg base C (k+1) m ps sp dvs:=by
  obtain⟨f,oc,od,dV,kV,doc,pm,an,cdv,ct,osl,ds,lk,hcd,hm,hb,hd⟩:=R
  exact⟨f,_,ds,pf lk hcd S len fun A outer s H vs Q E hr hsp=>hbody f cdv A outer s H vs Q E hr hsp,hm,hb,hd⟩
theorem kA.ok (R:kA K C qual st ps dvs)(S:aC N ps (au st))(len:∀vs H Q E,sp vs H Q E->vs.length=ps.length)
    (hbody:∀(f:Addr) (cdv:Value) (A:Around) (outer:List Env) (s:Shared) (H:Hp) (vs:List V) (Q:VK) (E:XK),dC k (A.deeper (envOfC qual (au st) s.heap.objs.size f cdv))->sp vs H Q E ->
      ∃t,PSs (dJ (CXE P w) P w K mg base N qual (au st) f cdv A outer s H E) (aO st) t/\t { nx:=fun _ H'=>Q .non H',rt:=Q } (start N vs) H):eB P w K mg base C (k+1) ps sp dvs:=by
  obtain⟨f,oc,od,dV,kV,doc,pm,an,cdv,ct,osl,ds,lk,hcd,hm,hb,hd⟩:=R
  exact⟨f,_,ds,pf lk hcd S len fun A outer s H vs Q E hr hsp=>hbody f cdv A outer s H vs Q E hr hsp,hm,hb,hd⟩
end
section
variable {X:Cx}{C:Addr}{k:Nat}{ps:List Str}{sp:Sp}{dvs:List V}{E:St->XK}{x m:Str}{p pos apos:Pos}{e o:Expr}{es:List Expr}{ta:TE}{t:TA}
theorem bv (h:HasFn X.prog X.w X.K X.mg X.base k x ps sp dvs)(hr:dC k X.A)(hg:Gl X x)(hx:cD (CXE X.prog X.w) X E)
    (ha:PA X (e::es) t) (hdb:(x==("__debug__" : Str))=false:=by decide) (he:starEach (e::es) X.env=(false,eval e X.env)::starEach es X.env:=by rfl) (hpl:(backTo pos (starEach es X.env)).any (·.1)=false:=by rfl) :
    PE X (.Call (.Name x p) (e::es) [] pos) (x6 sp dvs E t):=by
  obtain⟨f,fd,ds,F,hm,hk,hb,hd⟩:=h
  exact BF F hr hg hm hk hb hd hx ha hdb he hpl
theorem cq {pl:Sem Bool}(he:PE X o ta)(c:Cls X.K C)(h:aE X.prog X.w X.K X.mg X.base C k m ps sp dvs)(hr:dC k X.A)(hx:cD (CXE X.prog X.w) X E)(ha:PA X (e::es) t)
    (hst:starEach (e::es) X.env=(false,eval e X.env)::starEach es X.env:=by rfl) (hpl:(backTo pos (starEach es X.env)).any (·.1)=false:=by rfl)
    (ht:eval (.Call (.Attribute o m apos) (e::es) [] pos) X.env=(do
      let ov <-eval o X.env
      standAt apos.atName
      let (f,first) <-holding [ov] (getMethod ov m pl)
      callWith pos f first (backTo pos (starEach (e::es) X.env)) (backToKw pos (keywordEach [] X.env))):=by rfl) :
    PE X (.Call (.Attribute o m apos) (e::es) [] pos) (uR C m sp dvs E ta t):=by
  obtain⟨f,fd,ds,F,hm,hb,hd⟩:=h
  exact BG he c hm F hr hb hd hx ha hst hpl ht
theorem gq {pl:Sem Bool}(he:PE X o ta)(c:Cls X.K C)(h:aE X.prog X.w X.K X.mg X.base C k m ps sp dvs)(hr:dC k X.A)(hx:cD (CXE X.prog X.w) X E)
    (ht:eval (.Call (.Attribute o m apos) [] [] pos) X.env=(do
      let ov <-eval o X.env
      standAt apos.atName
      let (f,first) <-holding [ov] (getMethod ov m pl)
      callWith pos f first (backTo pos (starEach [] X.env)) (backToKw pos (keywordEach [] X.env))):=by rfl) :
    PE X (.Call (.Attribute o m apos) [] [] pos) (uR C m sp dvs E ta zS):=by
  obtain⟨f,fd,ds,F,hm,hb,hd⟩:=h
  exact z9 he c hm F hr hb hd hx ht
theorem j8 (h:eB X.prog X.w X.K X.mg X.base C k ps sp dvs)(hr:dC (k+1) X.A)(hg:Gl X x)(hm:X.mg x=some (.ref C))(hx:cD (CXE X.prog X.w) X E)
    (ha:PA X (e::es) t) (hdb:(x==("__debug__" : Str))=false:=by decide) (he:starEach (e::es) X.env=(false,eval e X.env)::starEach es X.env:=by rfl) (hpl:(backTo pos (starEach es X.env)).any (·.1)=false:=by rfl) :
    PE X (.Call (.Name x p) (e::es) [] pos) (BE C sp dvs E t):=by
  obtain⟨f,fd,ds,F,M,hb,hd⟩:=h
  exact BH M F hr hg hm hb hd hx ha hdb he hpl
theorem gY {P:Program}{w:World}: cD (CXE P w) X (fun _=>E0):=fun _ _ _ _ _ _ _ hx=>by
  obtain⟨_,_,_,_,_,_,_,_,_,_,q⟩:=hx
  exact q.elim
theorem qR {n:Int} (hg:Gl X x) (hm:∃t,X.mg x=some (.int n t)) (hd:(x==("__debug__" : Str))=false:=by decide):PE X (.Name x pos) (tC (.int n)):=by
  obtain⟨t,hm⟩:=hm
  exact mL hg hm ⟨t,rfl⟩ hd
end
section
variable {X:Cx}{K:W.Frag}
theorem t_ (h:X.K=K): eZ X (.builtin "len") (fun xs H Q=>∃p ys,xs=[.ref p]/\(SqL K H p ys\/SqT K H p ys)/\Q (.int ys.length) H):=by subst h;exact aJ
theorem DB {e:Expr}{ta:TE}{f:Str}{pos:Pos}(h:X.K=K)(he:PE X e ta)(hb:attributeBase e f X.env (eval e X.env)=eval e X.env): PE X (.Attribute e f pos) (F0 K ta f):=by subst h;exact bg he hb
end
def bodyOf (s:Stmt): List Stmt:=match s with
  | .If _ b _ _=>b
  | .For _ _ b _ _=>b
  | .While _ b _ _=>b
  | _=>[]
theorem pO {c A B:Prop}[Decidable c](h1:¬c->A)(h2:c->B): if (!decide c)=true then A else B:=by
  by_cases h:c
  · rw[decide_eq_true h];exact Bt (h2 h)
  · rw[decide_eq_false h];exact sE (h1 h)
theorem lL {c A B:Prop}[Decidable c](h1:c->A)(h2:¬c->B): if decide c=true then A else B:=by
  by_cases h:c
  · rw[decide_eq_true h];exact sE (h1 h)
  · rw[decide_eq_false h];exact Bt (h2 h)
theorem Ga {i j:Int}{A B:Prop}(h1:i=j->A)(h2:¬i=j->B): if decide (V.int i=V.int j)=true then A else B :=
  lL (fun z=>h1 (by injection z)) fun z=>h2 fun q=>z (by rw[q])
theorem aR:1<=sizeLine:=by rw[sizeLine_eq];decide
theorem aS {n:Nat}(h:n<=1000): n<=sizeLine:=by rw[sizeLine_eq];omega
theorem aB {H:Hp}{q:Addr}{u:HO}(h:H q=none): Same H (upd H q u):=fun b o z=>by rw[av (ay z h)];exact z
theorem bh (K:W.Frag)(v:Value): W.kitOne K v v=some true:=by
  unfold W.kitOne
  rw[if_pos (by simp)]
theorem cF (K:W.Frag): W.kitOne K (.type "int") (.type "bool")=some false:=by
  unfold W.kitOne W.kitCls
  rw[if_neg (by decide)]
  have h1:W.kitMeta "bool" = true:=by decide +kernel
  simp only [h1,if_true]
  show Option.map (fun x=>x.contains (Value.type "bool")) (fastBuiltinMro "int")=some false
  decide +kernel
theorem filter_tt {α:Type}(l:List α): l.filter (fun _=>true)=l:=List.filter_eq_self.mpr fun _ _=>rfl
theorem BQ {ns:List Int}{n:Int}(h0:0<=n)(h1:n < ns.length): atI (ns.map V.int) n=some (.int (ns.getD n.toNat 0)):=by
  have e:n=((n.toNat:Nat):Int):=by omega
  have hl:n.toNat < ns.length:=by omega
  rw[e]
  refine dN ?_
  rw[List.getElem?_map,List.getElem?_eq_getElem hl,Int.toNat_natCast,List.getD_eq_getElem?_getD,List.getElem?_eq_getElem hl]
  rfl
theorem BR {ns:List Int}{k:Nat}(h:ns.length<=k): ns.getD k 0=0:=by
  rw[List.getD_eq_getElem?_getD,List.getElem?_eq_none h]
  rfl
theorem wB (k:Int): ∀ns:List Int,inV (.int k) (ns.map V.int)=decide (k∈ns)
  | []=>rfl
  | n::r=>by
    have ih:=wB k r
    unfold inV at *
    rw[List.map_cons,List.any_cons,ih]
    show ((n==k) || decide (k∈r))=_
    rw[Bool.eq_iff_iff]
    simp only [Bool.or_eq_true,beq_iff_eq,decide_eq_true_eq,List.mem_cons]
    constructor
    · rintro(h | h)
      · exact .inl h.symm
      · exact .inr h
    · rintro(h | h)
      · exact .inl h.symm
      · exact .inr h
theorem BU (ns:List Int)(lo hi:Option Int): ∃ms:List Int,lK (ns.map V.int) lo hi=ms.map V.int/\ms.length<=ns.length:=by
  unfold lK
  refine⟨(ns.drop (HT.sIx (ns.map V.int).length 0 lo)).take (HT.sIx (ns.map V.int).length (ns.map V.int).length hi-HT.sIx (ns.map V.int).length 0 lo),?_,?_⟩
  · rw[List.map_take,List.map_drop]
  · rw[List.length_take,List.length_drop];omega
theorem cW {ms:List Int}{i:Nat}{y:V}(h:(ms.map V.int)[i]?=some y): ∃c:Int,y=.int c/\ms[i]?=some c:=by
  rw[List.getElem?_map] at h
  cases e:ms[i]? with
  | none=>rw[e] at h;cases h
  | some c=>rw[e] at h;exact⟨c,(Option.some.inj h).symm,rfl⟩
end L2

set_option maxHeartbeats 4000000
namespace L2
open PySem PySem.Spec PyProof.Rows
section
variable {tc:TT}{te:TE}{σ:St}{H1:Hp}{acc:Addr}{QH:Hp->Prop}
theorem Af {K:W.Frag}{l:Addr}{xs:List V}{k:Nat}(hacc:H1 acc=none)(f:V->V)(p:V->Bool)(hl:SqL K H1 l xs)(hn:xs.length < sizeLine)
    (hc:∀(i:Nat) (x:V) (ys:List V),xs[i]?=some x->∀R:Bool->Hp->Prop,R (p x) (upd H1 acc (.lst ys))->tc (some x::σ) (upd H1 acc (.lst ys)) R)
    (he:∀(i:Nat) (x:V) (ys:List V),xs[i]?=some x->p x=true->∀R:VK,R (f x) (upd H1 acc (.lst ys))->te (some x::σ) (upd H1 acc (.lst ys)) R)
    (q:QH (upd H1 acc (.lst ((xs.filter p).map f)))) (hk:k=1:=by rfl):∃(W:Nat->List V->Hp->Prop) (n':Nat),W 0 [] (upd H1 acc (.lst [])) ∧
  ∀i ys H2,W i ys H2->H2 acc=some (.lst ys)/\ys.length < sizeLine/\((i=n'/\(Itl K l).stop i H2/\QH H2)\/(i < n'/\(Itl K l).go i H2/\∀x H3,(Itl K l).yld i H2 x H3->∀τ:St,τ.length=k->(pc 0) x (τ++σ) H3 fun τ2 H4 =>
    (∃τ':St,τ'.length=k/\τ2=τ'++σ)/\tc τ2 H4 fun b H5=>if b=true then te τ2 H5 fun v H6=>H6 acc=some (.lst ys)/\W (i+1) (ys++[v]) (upd H6 acc (.lst (ys++[v]))) else W (i+1) ys H5)):=by
  subst hk
  refine⟨fun i ys H2=>i<=xs.length/\ys=((xs.take i).filter p).map f/\H2=upd H1 acc (.lst ys),xs.length,⟨Nat.zero_le _,rfl,rfl⟩,?_⟩
  rintro i ys H2 ⟨hi,hys,rfl⟩
  have hl2:ys.length < sizeLine:=by
    rw[hys,List.length_map]
    have:=List.length_filter_le p (xs.take i)
    rw[List.length_take] at this
    omega
  have sq:SqL K (upd H1 acc (.lst ys)) l xs:=(aB hacc).seq hl
  refine⟨aj,hl2,?_⟩
  by_cases hlt:i < xs.length
  · refine .inr ⟨hlt,⟨xs,xs[i],sq,by simp[hlt]⟩,?_⟩
    rintro x H3 ⟨rfl,hx⟩ τ hτ
    have hx:=hx xs sq
    obtain⟨t,rfl⟩:∃t,τ=[t]:=by
      match τ,hτ with
      | [t],_=>exact⟨t,rfl⟩
    refine⟨⟨[some x],rfl,rfl⟩,?_⟩
    show tc (some x::σ) _ _
    refine hc i x ys hx _ ?_
    have rs:xs.take (i+1)=xs.take i++[x]:=by
      rw[List.take_add_one,hx]
      rfl
    cases hp:p x with
    | true =>
      refine sE (he i x ys hx hp _ ⟨aj,hlt,?_,dZ⟩)
      rw[rs,List.filter_append,List.map_append,hys]
      simp[List.filter,hp]
    | false =>
      refine Bt ⟨hlt,?_,rfl⟩
      rw[rs,List.filter_append,List.map_append,hys]
      simp[List.filter,hp]
  · have e:i=xs.length:=by omega
    subst e
    refine .inl ⟨rfl,⟨xs,sq,Nat.le_refl _⟩,?_⟩
    have:=q
    rw[List.take_length] at hys
    rw[<-hys] at this
    exact this
end
section
variable {X:Cx}{pins:List (Addr×Obj)}{σ:St}{H:Hp}{s:Shared}
theorem lU:∀{bs:List Bool} {us:List Value},Vals (bs.map V.bl) us->LSm.BoolsAre us bs
  | [],_,r=>by cases r;exact .nil
  | b::bs,_,r=>by
    rw[List.map_cons] at r
    cases r with
    | cons r1 r2 =>
      cases r1
      exact .cons b (lU r2)
theorem Ag (hc:X.calm=true): eZ X (.builtin "all") (fun xs H Q=>∃(p:Addr) (bs:List Bool),xs=[.ref p]/\SqL X.K H p (bs.map V.bl)/\Q (.bl (bs.all id)) H):=by
  intro pins s σ H xs us Q I r h
  obtain⟨p,bs,rfl,hq,q⟩:=h
  obtain⟨u,rfl,ru⟩:=vals1 r
  cases ru
  obtain⟨its,rv,pp,hz⟩:=I.list hq
  have hl:=pp.isList
  have hb:=lU rv
  have hlt:p < s.heap.objs.size:=by obtain⟨_,e,_⟩:=hl;exact Heap.lt_size e
  refine call_all_walk (wpAny_pyIter_list hl ?_)
  refine⟨s.heap.objs.size,[s.heap.objs.size,p],[s.heap.objs.size],its.toArray.size,_,_,fun i=>(bs[i]?).getD true,rfl,Walks.list (A:=X.A.in1) (I.ok.hd hc) _ p (Nat.ne_of_lt hlt) its.toArray,
    ⟨⟨_,Heap.get?_push_size _ rfl,rfl,rfl⟩,hl.push _⟩,fun i v s' Q' E' hP hQ=>?_,fun h' tk hk=>?_⟩
  · obtain⟨b,e,rfl⟩:=hb.get i v (by simpa using hP)
    simp only [e,Option.getD_some] at hQ
    exact wpAny_truthy_bool hQ
  · have e:((List.range its.toArray.size).all fun i=>(bs[i]?).getD true)=bs.all id:=by
      rw[List.size_toArray,hb.length];exact LSm.range_all bs
    rw[e]
    exact⟨.bl _,H,I.kept (LSm.kept_iter hk),rfl,q⟩
end
end L2

set_option maxHeartbeats 4000000
namespace L2
open PySem PySem.Spec PyProof.Rows PyProof.V PySem.SeqAt
mutual
theorem l5:∀d:PyData,d.canLay0=true->noMix d d=true
  | .none,_=>by simp[noMix]
  | .bool _,_=>by simp[noMix]
  | .int _,_=>by simp[noMix]
  | .str _,_=>by simp[noMix]
  | .list xs,h=>by
    rw[noMix]
    exact i0 xs (by simpa [PyData.canLay0] using h)
  | .tuple xs,h=>by
    rw[noMix]
    exact i0 xs (by simpa [PyData.canLay0] using h)
  | .dict _,h=>by simp[PyData.canLay0] at h
theorem i0:∀ds:List PyData,PyData.canLayAll0 ds=true->noMixAll ds ds=true
  | [],_=>by simp[noMixAll]
  | d::ds,h=>by
    simp only [PyData.canLayAll0,Bool.and_eq_true] at h
    rw[noMixAll,l5 d h.1,i0 ds h.2]
    rfl
end
def Tid (n:Nat)(d:PyData): Prop:=d.canLay0=true/\d.depth<=n
theorem Tid.shaped {n:Nat}{d:PyData}(h:Tid n d)(hn:n<=64): shaped d=true:=by
  show (d.canLay0&&decide (d.depth<=64))=true
  rw[h.1,decide_eq_true (Nat.le_trans h.2 hn)]
  rfl
theorem Tid.int (i:Int): Tid 1 (.int i):=⟨by simp[PyData.canLay0],by simp[PyData.depth]⟩
theorem Tid.str {x:Str}(h:PyData.canLay0 (.str x)=true): Tid 1 (.str x):=⟨h,by simp[PyData.depth]⟩
theorem Tid.all {n:Nat}: ∀{ds:List PyData},(∀d∈ds,Tid n d)->PyData.canLayAll0 ds=true/\PyData.depthAll ds<=n
  | [],_=>⟨by simp[PyData.canLayAll0],by simp[PyData.depthAll]⟩
  | d::ds,h=>by
    have h1:=h d List.mem_cons_self
    have h2:=Tid.all (ds:=ds) fun x hx=>h x (List.mem_cons_of_mem _ hx)
    refine⟨by simp[PyData.canLayAll0,h1.1,h2.1],?_⟩
    have:=h1.2
    have:=h2.2
    simp only [PyData.depthAll]
    omega
theorem Tid.tuple {n:Nat}{ds:List PyData}(h:∀d∈ds,Tid n d): Tid (n+1) (.tuple ds):=by
  have q:=Tid.all h
  refine⟨by simpa [PyData.canLay0] using q.1,?_⟩
  have:=q.2
  simp only [PyData.depth]
  omega
section
variable {K:W.Frag}{H:Hp}{x y:V}{d:PyData}{Q:VK}{n:Nat}
theorem ua (h1:kg K H x d)(h2:kg K H y d)(t:Tid n d)(q:Q (.bl true) H)(hn:n<=64:=by decide): F7 K x y H Q :=
  ⟨d,d,h1,h2,t.shaped hn,t.shaped hn,l5 d t.1,by rw[PySem.Spec.same_self];exact q⟩
theorem Ah (h1:kg K H x d)(h2:kg K H y d)(t:Tid n d)(q:Q (.bl false) H)(hn:n<=64:=by decide): F8 K x y H Q :=
  ⟨d,d,h1,h2,t.shaped hn,t.shaped hn,l5 d t.1,by rw[PySem.Spec.same_self];exact q⟩
end
end L2

namespace L2
open PySem PySem.Spec PyProof.Rows
section
variable {X:Cx}
end
def notStar:Expr->Bool
  | .Starred _ _=>false
  | _=>true
theorem Ai {e:Expr}{es:List Expr}{env:Env}(h:notStar e=true): starEach (e::es) env=(false,eval e env)::starEach es env:=by
  cases e<;>first | rfl | cases h
theorem ae {X:Cx}{e:Expr}{es:List Expr}{te:TE}{t:TA}(ha:PE X e te)(hr:PA X es t)(h:notStar e=true): PA X (e::es) (Ei te t):=mQ ha hr (Ai h)
theorem exW {p:(Nat->Nat->St->Hp->Prop)->Prop}(w:Nat->Nat->St->Hp->Prop)(h:p w): ∃w,p w:=⟨w,h⟩
theorem exN {p:(St->Hp->Prop)->Prop}(w:St->Hp->Prop)(h:p w): ∃w,p w:=⟨w,h⟩
theorem exD {p:PyData->Prop}(w:PyData)(h:p w): ∃w,p w:=⟨w,h⟩
theorem hU {p:(Nat->St->Hp->Prop)->Prop}(w:Nat->St->Hp->Prop)(h:p w): ∃w,p w:=⟨w,h⟩
theorem cN {H:Hp}{q b:Addr}{u o:HO}(h:H q=none)(e:H b=some o): upd H q u b=some o:=aB h b o e
theorem dR {H:Hp}{q b:Addr}{u o:HO}(h:b≠q)(e:H b=some o): upd H q u b=some o:=by rw[av h];exact e
theorem bV {f g:Str}{v:V}{r:List (Str×V)}{o:Option V}(h:¬g=f)(e:r.lookup g=o): ((f,v)::r).lookup g=o:=by
  have hb:(g==f)=false:=beq_eq_false_iff_ne.mpr h
  simp only [List.lookup,hb]
  exact e
theorem cO {H H':Hp}{q:Addr}{u:HO}(h:H' q=none)(e:Same H H'): Same H (upd H' q u):=e.trans (aB h)
theorem dS {f:Str}{v:V}{r:List (Str×V)}: ((f,v)::r).lookup f=some v:=by
  have hb:(f==f)=true:=beq_iff_eq.mpr rfl
  simp only [List.lookup,hb]
theorem j9 {f g:Str}{v x:V}{r:List (Str×V)}(h:¬g=f): gn f v ((g,x)::r)=(g,x)::gn f v r:=if_neg h
theorem jH {f:Str}{v:V}: gn f v []=[(f,v)]:=rfl
theorem dC.u1 {k:Nat}{A:Around}(r:dC k A): A.units+1 < cLine:=by have:=r.un;omega
section
variable {X:Cx}
theorem BV (hu:X.A.units+1 < cLine): OpR X (compareOp .In) (fun x y H Q=>∃a o,y=.ref a/\dv H a x o/\Q (.bl o.isSome) H):=by
  intro pins s σ H x y v u Q I rx ry h
  obtain⟨a,o,rfl,g,q⟩:=h
  cases ry
  exact Hm hu I g rx fun s3 I3=>⟨.bl o.isSome,H,I3,rfl,q⟩
theorem gZ (hu:X.A.units+1 < cLine): OpR X (compareOp .NotIn) (fun x y H Q=>∃a o,y=.ref a/\dv H a x o/\Q (.bl (!o.isSome)) H):=by
  intro pins s σ H x y v u Q I rx ry h
  obtain⟨a,o,rfl,g,q⟩:=h
  cases ry
  exact Ds hu I g rx fun s3 I3=>⟨.bl (!o.isSome),H,I3,rfl,q⟩
end
def Fr (fp fp':List Addr)(H H':Hp): Prop:=(∀b u,H b=some u->b∉fp->H' b=some u)/\∀b,b∈fp'->b∈fp\/H b=none
theorem Fr.refl (fp:List Addr)(H:Hp): Fr fp fp H H:=⟨fun _ _ h _=>h,fun _ h=>.inl h⟩
theorem Fr.same {fp:List Addr}{H H':Hp}(h:Same H H'): Fr fp fp H H':=⟨fun b u z _=>h b u z,fun _ h=>.inl h⟩
theorem Fr.out {fp fp':List Addr}{H H':Hp}(h:Fr fp fp' H H'){b:Addr}{u:HO}(e:H b=some u)(n:b∉fp): H' b=some u/\b∉fp' :=
  ⟨h.1 b u e n,fun z=>(h.2 b z).elim (fun q=>n q) fun q=>by rw[e] at q;cases q⟩
theorem Fr.trans {fp fp' qS:List Addr}{H H' H'':Hp}(h:Fr fp fp' H H')(k:Fr fp' qS H' H''): Fr fp qS H H'':=by
  refine⟨fun b u e n=>?_,fun b hb=>?_⟩
  · obtain⟨e1,n1⟩:=h.out e n
    exact k.1 b u e1 n1
  · rcases k.2 b hb with q | q
    · exact h.2 b q
    · by_cases n:b∈fp
      · exact .inl n
      · refine .inr ?_
        cases e:H b with
        | none=>rfl
        | some u=>rw[h.1 b u e n] at q;cases q
theorem Fr.put {fp:List Addr}{H:Hp}{b:Addr}{o:HO}(h:b∈fp): Fr fp fp H (upd H b o) :=
  ⟨fun c u e n=>by rw[av fun z=>n (by rw[z];exact h)];exact e,fun _ z=>.inl z⟩
theorem Fr.new {fp:List Addr}{H:Hp}{b:Addr}{o:HO}(h:H b=none): Fr fp (b::fp) H (upd H b o) :=
  ⟨fun c u e n=>by rw[av (ay e h)];exact e,fun c z=>(List.mem_cons.mp z).elim (fun z=>.inr (by rw[z];exact h)) fun z=>.inl z⟩
theorem Fi {K:W.Frag}{s t:String}{b:Bool}(h:(Value.type s==Value.type t)=false)(hm:W.kitMeta t=true)(e:Option.map (fun x=>x.contains (Value.type t)) (fastBuiltinMro s)=some b): W.kitOne K (.type s) (.type t)=some b:=by
  unfold W.kitOne W.kitCls
  rw[if_neg (by rw[h];decide)]
  simp only [hm,if_true]
  exact e
section
variable {X:Cx}
theorem DC {K:W.Frag}{es:List Expr}{k:Nat}{t:TGs}{n:Nat}{pos:Pos}(hK:X.K=K)(hc:X.calm=true)(h:PGs X es t)
    (hn:(assignEach es X.env).length=n:=by rfl) (hst:(assignEach es X.env).findIdx? (·.1)=none:=by rfl):PG X (.Tuple es k pos) (EJ K n t):=by
  subst hK
  exact qz hc h hn hst
end
section
variable {X:Cx}
end
end L2

set_option maxHeartbeats 4000000
namespace L2
open PySem PySem.Spec PyProof.Rows
end L2

set_option maxHeartbeats 4000000
namespace L2
open PySem PySem.Spec PyProof.Rows
structure Ep (K:W.Frag)(C:Addr)(m:Str)(f:Addr): Prop where
  sp:W.specialIn K (.ref C) "__getattribute__" = some (some (.builtin "type.__getattribute__"))
  fi:∃mc,W.readsIn K C mc=true/\W.findCls K (.ref C) mc m=some (.val (.ref f))
  kp:W.keepIn K (.ref f)=true
def wC (P:Program)(w:World)(K:W.Frag)(mg:Str->Option Value)(base:Heap)(C:Addr)(k:Nat)(m:Str)(ps:List Str)(sp:Sp)(dvs:List V): Prop :=
  ∃f fd ds,fY P w K mg base (CXE P w) k f fd ps sp/\Ep K C m f/\Binds K fd ps ds/\Vals dvs ds
section
variable {P:Program}{w:World}{K:W.Frag}{mg:Str->Option Value}{base:Heap}{C:Addr}{x m qual:Str}{st:Stmt}{N ps:List Str}{dvs:List V}{k:Nat}{sp:Sp}
end
section
variable {X:Cx}{C:Addr}{k:Nat}{ps:List Str}{sp:Sp}{dvs:List V}{E:St->XK}{x m:Str}{p pos apos:Pos}{e o:Expr}{es:List Expr}{ta:TE}{t:TA}
theorem BW {pl:Sem Bool}(hg:Gl X x)(hm:X.mg x=some (.ref C))(h:wC X.prog X.w X.K X.mg X.base C k m ps sp dvs)(hr:dC k X.A)(hx:cD (CXE X.prog X.w) X E)(ha:PA X (e::es) t)
    (hdb:(x==("__debug__" : Str))=false:=by decide)
    (hst:starEach (e::es) X.env=(false,eval e X.env)::starEach es X.env:=by rfl) (hpl:(backTo pos (starEach es X.env)).any (·.1)=false:=by rfl)
    (ht:eval (.Call (.Attribute (.Name x p) m apos) (e::es) [] pos) X.env=(do
      let ov <-eval (.Name x p) X.env
      standAt apos.atName
      let (f,first) <-holding [ov] (getMethod ov m pl)
      callWith pos f first (backTo pos (starEach (e::es) X.env)) (backToKw pos (keywordEach [] X.env))):=by rfl) :
    PE X (.Call (.Attribute (.Name x p) m apos) (e::es) [] pos) (x6 sp dvs E t):=by
  obtain⟨f,fd,ds,F,hc,hb,hd⟩:=h
  obtain⟨mc,h1,h2⟩:=hc.fi
  intro pins s σ H Q I h
  refine W.methodCall_KW (pl:=pl) (gP I hg hm ?_ hdb) ht
  refine W.method_cls I.kIn hc.sp (W.cls_value I.kIn h1 h2 rfl ?_)
  have I':Inv X pins σ H { s with toks:=s.toks+1 }:=I.tok _
  refine W.callWith_K (first:=[]) (h₀:=X.base) I.ok.mod.kin hc.kp (thn (ha pos pins _ σ H _ I' h) fun us s1 ⟨vs,H1,I1,r,q⟩=>⟨I1.kIn,?_⟩) hst hpl
  exact lC F hr hb hd hx I1 r q
def Gb (X:Cx)(k:Nat)(m:Str)(dvs:List V)(E:St->XK)(ta:TE)(t:TA): TE:=fun σ H Q=>ta σ H fun x H1=>∃a C dx fs ps sp,x=.ref a/\H1 a=some (.ins C dx fs)/\Cls X.K C/\aE X.prog X.w X.K X.mg X.base C k m ps sp dvs/\fs.lookup m=none ∧
  t σ H1 fun vs H2=>sp (.ref a::(vs++dvs)) H2 Q (E σ)
theorem BX {pl:Sem Bool}(he:PE X o ta)(hr:dC k X.A)(hx:cD (CXE X.prog X.w) X E)(ha:PA X (e::es) t)
    (hst:starEach (e::es) X.env=(false,eval e X.env)::starEach es X.env:=by rfl) (hpl:(backTo pos (starEach es X.env)).any (·.1)=false:=by rfl)
    (ht:eval (.Call (.Attribute o m apos) (e::es) [] pos) X.env=(do
      let ov <-eval o X.env
      standAt apos.atName
      let (f,first) <-holding [ov] (getMethod ov m pl)
      callWith pos f first (backTo pos (starEach (e::es) X.env)) (backToKw pos (keywordEach [] X.env))):=by rfl) :
    PE X (.Call (.Attribute o m apos) (e::es) [] pos) (Gb X k m dvs E ta t):=by
  intro pins s σ H Q I h
  refine W.methodCall_KW (pl:=pl) (thn (he pins s σ H _ I h) fun u s1 ⟨x,H1,I1,rx,a,C,dx,fs,ps,sp,ex,ea,c,⟨f,fd,ds,F,hm,hb,hd⟩,l,q⟩=>?_) ht
  subst ex
  obtain rfl:u=Value.ref a:=rx
  refine jD I1 ea c hm l ?_
  refine W.callWith_K (first:=[.ref a]) (h₀:=X.base) I.ok.mod.kin hm.kp (thn (ha pos pins s1 σ H1 _ I1 q) fun us s2 ⟨vs,H2,I2,r,q2⟩=>⟨I2.kIn,?_⟩) hst hpl
  exact lC (us:=.ref a::us) (vs:=.ref a::vs) F hr hb hd hx I2 (.cons rfl r) q2
theorem mX {pl:Sem Bool}(he:PE X o ta)(hr:dC k X.A)(hx:cD (CXE X.prog X.w) X E)
    (ht:eval (.Call (.Attribute o m apos) [] [] pos) X.env=(do
      let ov <-eval o X.env
      standAt apos.atName
      let (f,first) <-holding [ov] (getMethod ov m pl)
      callWith pos f first (backTo pos (starEach [] X.env)) (backToKw pos (keywordEach [] X.env))):=by rfl) :
    PE X (.Call (.Attribute o m apos) [] [] pos) (Gb X k m dvs E ta zS):=by
  intro pins s σ H Q I h
  refine W.methodCall_KW (pl:=pl) (thn (he pins s σ H _ I h) fun u s1 ⟨x,H1,I1,rx,a,C,dx,fs,ps,sp,ex,ea,c,⟨f,fd,ds,F,hm,hb,hd⟩,l,q⟩=>?_) ht
  subst ex
  obtain rfl:u=Value.ref a:=rx
  refine jD I1 ea c hm l ?_
  exact W.callWith_K0 (first:=[.ref a]) I1.kIn hm.kp (lC (us:=[.ref a]) (vs:=[.ref a]) F hr hb hd hx I1 (.cons rfl .nil) q)
end
def Gc (P:Program)(w:World)(K:W.Frag)(mg:Str->Option Value)(base:Heap)(k:Nat)(m:Str)(dvs:List V)(E:St->XK)(ta:TE)(t:TA): TE:=fun σ H Q=>ta σ H fun x H1=>∃a C dx fs ps sp,x=.ref a/\H1 a=some (.ins C dx fs)/\Cls K C/\aE P w K mg base C k m ps sp dvs/\fs.lookup m=none ∧
  t σ H1 fun vs H2=>sp (.ref a::(vs++dvs)) H2 Q (E σ)
section
variable {X:Cx}{P:Program}{w:World}{K:W.Frag}{mg:Str->Option Value}{base:Heap}{m:Str}{dvs:List V}{k:Nat}{E:St->XK}{ta:TE}{t:TA}{o e:Expr}{es:List Expr}{pos apos:Pos}
theorem BZ {pl:Sem Bool}(eP:X.prog=P)(ew:X.w=w)(eK:X.K=K)(em:X.mg=mg)(eb:X.base=base)(he:PE X o ta)(hr:dC k X.A)(hx:cD (CXE X.prog X.w) X E)
    (ht:eval (.Call (.Attribute o m apos) [] [] pos) X.env=(do
      let ov <-eval o X.env
      standAt apos.atName
      let (f,first) <-holding [ov] (getMethod ov m pl)
      callWith pos f first (backTo pos (starEach [] X.env)) (backToKw pos (keywordEach [] X.env))):=by rfl) :
    PE X (.Call (.Attribute o m apos) [] [] pos) (Gc P w K mg base k m dvs E ta zS):=by
  subst eP;subst ew;subst eK;subst em;subst eb
  exact mX (pl:=pl) he hr hx ht
end
structure TopD (P:Params)(K:W.Frag)(a:Addr): Prop where
  lk:∃es n,K.lookup a=some ⟨.type "dict",none,.dict es n,#[]⟩/\W.KeysLit P es.toList
  sy:(a==sysModules)=false
def DE (K:W.Frag)(a:Addr)(ty:TE): TE:=fun σ H Q=>ty σ H fun y H1=>∃x v u,y=.str x/\W.nsIn K a x=some (some u)/\RelV v u/\Q v H1
section
variable {X:Cx}{a:Addr}{x:Str}{i:Expr}{ty:TE}{p pos:Pos}
theorem Aj (hg:Gl X x) (hm:X.mg x=some (.ref a)) (td:TopD X.w.params X.K a) (hi:PE X i ty) (hs:E6 i) (hdb:(x==("__debug__" : Str))=false:=by decide):PE X (.Subscript (.Name x p) i pos) (DE X.K a ty):=by
  intro pins s σ H Q I h
  obtain⟨es,n,hl,hk⟩:=td.lk
  refine yU PySem.F.slot_dict_getitem.lookup hs (gP I hg hm ?_ hdb)
  refine thn (hi pins s σ H _ I h) fun iv s2 ⟨y,H2,I2,ry,z,v,u,ey,hn,rv,q⟩=>?_
  subst ey
  obtain⟨t,rfl⟩:=ry
  have hmp:=W.mapOf_K (prog:=X.prog) (w:=X.w) I2.kIn hl hk
  exact⟨hmp.typeIs,wpAny_getItem_of (strKind_is X.prog X.w z t) hmp (W.find_K hl hn) ⟨v,H2,I2.tok _,rv,q⟩⟩
end
section
variable {P:Program}{w:World}{K:W.Frag}{mg:Str->Option Value}{base:Heap}{C f:Addr}{m:Str}{ps:List Str}{dvs:List V}{ds:List Value}{k:Nat}{sp:Sp}{fd:FuncData}
theorem y4 (F:fY P w K mg base (CXE P w) k f fd ps sp)(h:Meth K C m f)(hb:Binds K fd ps ds)(hd:Vals dvs ds): aE P w K mg base C k m ps sp dvs:=⟨f,fd,ds,F,h,hb,hd⟩
theorem Gd (F:fY P w K mg base (CXE P w) k f fd ps sp)(h:Mk K C f)(hb:Binds K fd ps ds)(hd:Vals dvs ds): eB P w K mg base C k ps sp dvs:=⟨f,fd,ds,F,h,hb,hd⟩
theorem Ge (F:fY P w K mg base (CXE P w) k f fd ps sp)(h:Ep K C m f)(hb:Binds K fd ps ds)(hd:Vals dvs ds): wC P w K mg base C k m ps sp dvs:=⟨f,fd,ds,F,h,hb,hd⟩
theorem aE.mono {j:Nat}(h:aE P w K mg base C j m ps sp dvs)(hj:j<=k): aE P w K mg base C k m ps sp dvs:=by
  obtain⟨f,fd,ds,F,hm,hb,hd⟩:=h
  exact⟨f,fd,ds,⟨F.len,fun A outer s H args us vs Q E hr=>F.run A outer s H args us vs Q E (hr.mono hj)⟩,hm,hb,hd⟩
end
section
variable {X:Cx}{x:Str}{pos:Pos}
end
end L2

set_option maxHeartbeats 4000000
namespace L2
open PySem PySem.Spec PyProof.Rows
section
variable {X:Cx}{pins:List (Addr×Obj)}{σ:St}{H:Hp}{s:Shared}
end
end L2

set_option maxHeartbeats 4000000
namespace L2
open PySem PySem.Spec PyProof.Rows
def fe (kvs:List (Key×V))(ks:List Int): Prop:=kvs.map (·.1)=ks.map Sum.inl
theorem uc {P:Program}{w:World}: ∀{kvs:List (Key×V)} {vs:List (Key×Value)} {ks:List Int} {acc:List Value},KV kvs vs->fe kvs ks->acc.length=vs.length ->
    (∀(j:Nat) (v:Value),acc[j]?=some v->∃k x,vs[j]?=some (k,x)/\(cz P w).is k v=true)->IntsAre acc ks
  | _,_,ks,acc,.nil,hk,hl,h=>by
    have e:ks=[]:=by
      cases ks with
      | nil=>rfl
      | cons a b=>cases hk
    have e2:acc=[]:=List.eq_nil_of_length_eq_zero hl
    rw[e,e2];exact .nil
  | _,_,ks,acc,.cons (a:=p) (b:=q) r t,hk,hl,h=>by
    cases ks with
    | nil=>cases hk
    | cons i ks =>
      cases acc with
      | nil=>cases hl
      | cons v acc =>
        have hk':=List.cons.inj hk
        obtain⟨k,x,e1,e2⟩:=h 0 v rfl
        have e1:q=(k,x):=Option.some.inj e1
        have ek:k=.inl i:=by
          have:p.1=q.1:=r.1
          rw[e1] at this
          exact this.symm.trans hk'.1
        subst ek
        obtain⟨tk,rfl⟩:∃t,v=.int i t:=by
          have e2:Value.isInt i v=true:=e2
          unfold Value.isInt at e2
          split at e2
          · next n _=>exact⟨n,by simp at e2;rw[e2]⟩
          · cases e2
        exact .cons i tk (uc t hk'.2 (Nat.succ.inj hl) fun j v' e=>h (j+1) v' (by simpa using e))
theorem ud:∀{vs:List Value} {ns:List Int},IntsAre vs ns->Vals (ns.map V.int) vs
  | _,_,.nil=>.nil
  | _,_,.cons n t r=>.cons ⟨t,rfl⟩ (ud r)
section
variable {X:Cx}
theorem mY (hh:X.A.handled=none): eZ X (.builtin "sorted") (fun xs H Q=>∃a kvs ks,xs=[V.ref a]/\H a=some (.dK kvs)/\fe kvs ks/\ks.length < 64/\∀(p:Addr) (ns:List Int),H p=none->ns.Perm ks->ns.Pairwise (·<=·)->Q (.ref p) (upd H p (.lst (ns.map V.int)))):=by
  intro pins s σ H xs us Q I r h
  obtain⟨a,kvs,ks,rfl,ea,hk,k64,q⟩:=h
  obtain⟨u,rfl,rx⟩:=vals1 r
  cases rx
  obtain⟨z,hd,vs,rel,dd⟩:=qI I.hok ea
  obtain⟨ep,da⟩:=dd.dictAt
  have hl:=rel.length
  have kl:kvs.length=ks.length:=by have:=congrArg List.length hk;simpa using this
  refine Calls.call_function_entry kind_sorted plain_sorted entry_sorted (args_sorted1 (Value.ref a)) ?_
  refine wpAny_bind (wpAny_pure (wpAny_bind (W.kdu_collect (W.kdl_dict hd) hh da (by omega) fun h' tk acc kp it=>?_)))
  have ia:=uc rel hk (acc:=acc.toList) (by rw[Array.length_toList];exact it.1) fun j v e=>it.2 j v (by simpa using e)
  have al:acc.toList.length=vs.length:=by rw[Array.length_toList];exact it.1
  refine wpAny_bind (wpAny_newList ?_ (by rw[sizeLine_eq];omega))
  have hoL:(h'.push (seqObj "list" acc.toList.toArray 0)).get? h'.objs.size=some (seqObj "list" acc.toList.toArray 0):=Heap.get?_push_size h' rfl
  refine wpAny_bind (wpAny_holding (wpAny_call_entry slot_list_sort ⟨_,hoL,rfl⟩ entry_list_sort (list_sort_tree hoL ia (by omega) fun out ns' a1 a2 a3=>⟨.none,rfl,wpAny_pure ⟨_,rfl,?_⟩⟩) (args_list_sort _)))
  have sz:(h'.push (seqObj "list" acc.toList.toArray 0)).objs.size=h'.objs.size+1:=size_push' _ _
  have I1:=I.kept (t':=tk) kp
  have kp':∀b o,h'.get? b=some o->(sortedHeap (h'.push (seqObj "list" acc.toList.toArray 0)) h'.objs.size acc.toList out).get? b=some o:=fun b o e=>by
    have lt:b < h'.objs.size:=Heap.lt_size e
    rw[sortedHeap_old (Nat.ne_of_lt lt) (Nat.lt_of_lt_of_le lt (by rw[sz];exact Nat.le_succ _)),Heap.get?_push_of_some _ e]
  obtain⟨ee,he⟩:=sortedHeap_at (out:=out) hoL
  have iv:=ud a1
  have hp:=a2.length_eq
  refine⟨.ref h'.objs.size,_,I1.laid (t':=tk) kp' (Nat.le_refl _) (show bJ X.prog X.w _ _ _ (.lst (ns'.map V.int)) from ⟨?_,out.toList,ee,iv,he⟩),rfl,q _ ns' (I1.hok.fresh (Nat.le_refl _)) a2 a3⟩
  rw[List.length_map,sizeLine_eq];omega
def Gf (td ty tx:TE): TE:=fun σ H Q=>td σ H fun x H1=>∃a,x=.ref a/\IsD H1 a/\ty σ H1 fun y H2=>tx σ H2 fun z H3=>∃kvs k,H3 a=some (.dK kvs)/\y=kV k/\kvs.length < sizeLine ∧
  (∀v,bq kvs k=some v->Q v H3)/\(bq kvs k=none->Q z (upd H3 a (.dK (putK kvs k z))))
variable {pins:List (Addr×Obj)}{σ:St}{H:Hp}{s:Shared}{a:Addr}{kvs:List (Key×V)}{k:Key}{A:Around}{E:Value->Shared->Prop}{u:Value}
theorem B0 {z:V}{r:Value}{Q:Value->Shared->Prop}(I:Inv X pins σ H s)(e:H a=some (.dK kvs))(ry:RelV (kV k) u)(rz:RelV z r)(hz:kvs.length < sizeLine)
    (h1:∀v w' s',bq kvs k=some v->Inv X pins σ H s'->RelV v w'->Q w' s') (h2:∀s',bq kvs k=none->Inv X pins σ (upd H a (.dK (putK kvs k z))) s'->Q r s') :
    wpAny (model X.prog X.w) A (call (.builtin "dict.setdefault") [.ref a,u,r]) Q E s:=by
  obtain⟨zl,hd,vs,rel,dd⟩:=qI I.hok e
  refine call_meetsIn PySem.F.slot_dict_setdefault dd.typeIs PySem.F.entry_dict_setdefault (PySem.F.args_dict_setdefault_3 _ _ _) (kt_meets_setdefault (cz X.prog X.w) a (pq ry) hd r)
    ⟨vs,dd,by rw[<-rel.length];exact zl,fun v hv=>?_,fun hn h' dd' hs=>?_⟩
  · cases l:bq kvs k with
    | none =>
      have hn:valueAt vs k=none:=fX.none_of (by rw[<-l];exact rel.val k)
      rw[hn] at hv;cases hv
    | some v0 =>
      obtain⟨w',hw,rw'⟩:=fX.some_of (v:=v0) (o:=valueAt vs k) (by rw[<-l];exact rel.val k)
      rw[hw] at hv
      cases hv
      exact h1 v0 _ _ l (I.tok _) rw'
  · have l:bq kvs k=none:=by
      cases l:bq kvs k with
      | none=>rfl
      | some v0 =>
        obtain⟨w',hw,_⟩:=fX.some_of (v:=v0) (o:=valueAt vs k) (by rw[<-l];exact rel.val k)
        rw[hw] at hn;cases hn
    have he:∃q,h'.get? a=some q:=let ⟨q,_,_,hq,_⟩:=dd';⟨q,hq⟩
    refine h2 _ l (qp I (by rw[e];exact True.intro) hs he (uP ?_ hd (rel.put k rz) dd'))
    have:=eS kvs k z
    omega
variable {o e' f:Expr}{apos cpos:Pos}{td ty tx:TE}
theorem pP (ho:PE X o td) (he:PE X e' ty) (hf:PE X f tx) (m:M2 X o "setdefault" apos e' f cpos):PE X (.Call (.Attribute o "setdefault" apos) [e',f] [] cpos) (Gf td ty tx):=by
  intro pins s σ H Q I h
  refine wpAny_Call_method m.base m.few m.line PySem.F.plainAttrs_dict PySem.F.slot_dict_setdefault PySem.F.type_dict_setdefault (thn (ho pins s σ H _ I h) fun u s1 ⟨x,H1,I1,rx,a,ex,d,q1⟩=>?_)
  subst ex
  obtain rfl:u=Value.ref a:=rx
  obtain⟨t1,t2,_⟩:=x5 I1 d
  refine⟨t1,t2,?_⟩
  rw[m.trees]
  refine Calls.callWith_builtin rfl (Calls.evalArgs_plain (Calls.spliced_cons (thn (he pins s1 σ H1 _ I1 q1) fun iv s2 ⟨y,H2,I2,ry,q2⟩ =>
    Calls.spliced_cons (thn (hf pins s2 σ H2 _ I2 q2) fun fv s3 ⟨z,H3,I3,rz,kvs,k,ea,ey,hz,q3,q4⟩=>Calls.spliced_nil ?_))))
  subst ey
  exact B0 I3 ea ry rz hz (fun v w' s4 l I4 rw'=>⟨v,_,I4,rw',q3 v l⟩) fun s4 l I4=>⟨z,_,I4,rz,q4 l⟩
end
end L2

set_option maxHeartbeats 4000000
namespace L2
open PySem PyProof.Rows
theorem B5 {x y:Int}(hx:0<=x)(hy:0<=y): Builtin.bitOr x y=((x.toNat ||| y.toNat:Nat):Int):=by
  unfold Builtin.bitOr Builtin.bitAnd
  have h1:¬0<=Builtin.bitNot x:=by unfold Builtin.bitNot;omega
  have h2:¬0<=Builtin.bitNot y:=by unfold Builtin.bitNot;omega
  simp only [h1,h2,decide_false]
  have e1:∀z:Int,Builtin.bitNot (Builtin.bitNot z)=z:=fun z=>by unfold Builtin.bitNot;omega
  rw[e1,e1,e1]
section
variable {x y:Int}{k:Nat}
theorem f7:(0:Int) < 2^k:=Int.pow_pos (by decide)
theorem Fj:0<=x%2^k:=Int.emod_nonneg _ (Int.ne_of_gt f7)
theorem ya (hx:0<=x): 0<=x / 2^k:=Int.ediv_nonneg hx (Int.le_of_lt f7)
end
theorem wD (k:Nat): ((2^k:Nat):Int)=(2:Int)^k:=by
  rw[Int.natCast_pow]
  rfl
theorem wF {n m:Int}{k:Nat}(h0:0<=n)(h1:0<=m)(h2:m < 2^k): Builtin.bitOr (n*2^k) m=n*2^k+m:=by
  have hp:(0:Int)<=n*2^k:=Int.mul_nonneg h0 (Int.le_of_lt (Int.pow_pos (by decide)))
  rw[B5 hp h1]
  obtain⟨a,rfl⟩:=Int.eq_ofNat_of_zero_le h0
  obtain⟨b,rfl⟩:=Int.eq_ofNat_of_zero_le h1
  have e:(a:Int)*2^k=((2^k*a:Nat):Int):=by rw[Int.natCast_mul,wD,Int.mul_comm]
  rw[e,Int.toNat_natCast,Int.toNat_natCast]
  have hb:b < 2^k:=by
    have:=wD k
    omega
  rw[<-Nat.two_pow_add_eq_or_of_lt hb a]
  exact Int.natCast_add _ _
end L2

set_option maxHeartbeats 4000000
namespace L2
open PySem PyProof.Rows
end L2

set_option maxHeartbeats 4000000
namespace L2
open PySem PySem.Spec PyProof.Rows
section
variable {X:Cx}{pins:List (Addr×Obj)}{σ:St}{H:Hp}{s:Shared}
theorem Inv.Fk (I:Inv X pins σ H s){a:Addr}{ns:List Int}(h:SqT X.K H a (ns.map V.int)): ∃vs:List Value,IsTup s.heap a vs.toArray/\IntsAre vs ns/\ns.length<=sizeLine:=by
  obtain⟨its,rv,p,hz⟩:=I.tuple h
  exact⟨its,p,jF rv,by simpa using hz⟩
theorem Ak (hc:X.calm=true): eZ X (.builtin "sum") (fun xs H Q=>∃(p:Addr) (ns:List Int),xs=[.ref p]/\SqT X.K H p (ns.map V.int)/\Q (.int ns.sum) H):=by
  intro pins s σ H xs us Q I r h
  obtain⟨p,ns,rfl,hq,q⟩:=h
  obtain⟨u,rfl,ru⟩:=vals1 r
  cases ru
  obtain⟨vs,hl,hi,_⟩:=I.Fk hq
  obtain⟨ys,hx⟩:=hi.allInts.items
  have hl':s.heap.IsTuple p (intItems ys):=hx ▸ (show s.heap.IsTuple p vs.toArray from hl)
  have hlt:p < s.heap.objs.size:=by obtain⟨_,e,_⟩:=id hl';exact Heap.lt_size e
  refine call_sum_walkG (wpAny_pyIter_tuple hl' ?_)
  refine⟨s.heap.objs.size,_,_,_,_,_,numAt ys,rfl,Walks.tuple (A:=X.A.in1) (I.ok.hd hc) s.heap.objs.size p (Nat.ne_of_lt hlt) (intItems ys),⟨⟨_,Heap.get?_push_size _ rfl,rfl,rfl⟩,hl'.push _⟩,fun b hb=>?_,(fun _ _=>intItems_at),fun h' tk t' hk=>?_⟩
  · have hz:∀o:Obj,(s.heap.push o).objs.size=s.heap.objs.size+1:=fun o=>Array.size_push _
    rcases List.mem_cons.mp hb with e | hb
    · rw[e,hz];exact Nat.lt_succ_self _
    · rw[List.mem_singleton.mp hb,hz];exact Nat.lt_succ_of_lt hlt
  · refine⟨.int ns.sum,H,I.kept (LSm.kept_iter hk),⟨t',?_⟩,q⟩
    have e1:ns=ys.toList.map (·.1):=by
      rw[<-nums_intItems,<-hx]
      exact(show numsOf vs.toArray.toList=ns from hi.numsOf).symm
    have e2:(intItems ys).size=ys.size:=by simp[intItems]
    rw[e2,preSum_eq,List.take_of_length_le (by simp),e1]
end
end L2

set_option maxHeartbeats 4000000
namespace L2
def mZ:List Int->Int->List Int
  | [],_=>[]
  | w::ws,r=>(r%2^w.toNat)::mZ ws (r / 2^w.toNat)
def parts (ws:List Int)(r:Int): List Int:=(mZ ws.reverse r).reverse
def span (ws:List Int): Int:=2^ws.sum.toNat
def glue (l:List (Int×Int)): Int:=l.foldl (fun a wp=>a*2^wp.1.toNat+wp.2) 0
theorem parts_nil (r:Int): parts [] r=[]:=rfl
theorem eN (ws:List Int)(w r:Int): parts (ws++[w]) r=parts ws (r / 2^w.toNat)++[r%2^w.toNat]:=by
  unfold parts
  rw[List.reverse_append]
  show (mZ (w::ws.reverse) r).reverse=_
  rw[mZ,List.reverse_cons]
theorem oo (l:List (Int×Int))(w p:Int): glue (l++[(w,p)])=glue l*2^w.toNat+p:=by
  unfold glue
  rw[List.foldl_append]
  rfl
theorem dB (ws:List Int): ∀r,(parts ws r).length=ws.length:=by
  have h:∀(l:List Int) (r:Int),(mZ l r).length=l.length:=fun l=>by
    induction l with
    | nil=>intro r;rfl
    | cons w l ih=>intro r;rw[mZ,List.length_cons,ih,List.length_cons]
  intro r
  unfold parts
  rw[List.length_reverse,h,List.length_reverse]
theorem snocInd {α:Type}{P:List α->Prop}(h0:P [])(h1:∀l a,P l->P (l++[a]))(l:List α): P l:=by
  have:∀l:List α,P l.reverse:=fun l=>by
    induction l with
    | nil=>exact h0
    | cons a l ih=>rw[List.reverse_cons];exact h1 _ _ ih
  have h:=this l.reverse
  rw[List.reverse_reverse] at h
  exact h
theorem oq {ws:List Int}{w:Int}(h:∀x∈ws,0<=x)(hw:0<=w): span (ws++[w])=span ws*2^w.toNat:=by
  unfold span
  have hs:0<=ws.sum:=by
    clear hw
    induction ws with
    | nil=>simp
    | cons x r ih =>
      rw[List.sum_cons]
      have:=h x List.mem_cons_self
      have:=ih fun y hy=>h y (List.mem_cons_of_mem _ hy)
      omega
  rw[List.sum_append,List.sum_cons,List.sum_nil,Int.add_zero,Int.toNat_add hs hw,Int.pow_add]
def Fit:List Int->List Int->Prop
  | [],[]=>True
  | w::ws,p::ps=>(0<=p/\p < 2^w.toNat)/\Fit ws ps
  | _,_=>False
theorem Fit.length:∀{ws ps:List Int},Fit ws ps->ws.length=ps.length
  | [],[],_=>rfl
  | _::_,_::_,h=>by rw[List.length_cons,List.length_cons,Fit.length h.2]
  | [],_::_,h=>h.elim
  | _::_,[],h=>h.elim
theorem Fit.snoc:∀{ws ps:List Int} {w p:Int},Fit ws ps->0<=p->p < 2^w.toNat->Fit (ws++[w]) (ps++[p])
  | [],[],_,_,_,h0,h1=>⟨⟨h0,h1⟩,trivial⟩
  | _::_,_::_,_,_,h,h0,h1=>⟨h.1,Fit.snoc h.2 h0 h1⟩
  | [],_::_,_,_,h,_,_=>h.elim
  | _::_,[],_,_,h,_,_=>h.elim
theorem Fit.qT:∀{ws ps:List Int} {w p:Int},Fit (ws++[w]) (ps++[p])->Fit ws ps/\0<=p/\p < 2^w.toNat
  | [],[],_,_,h=>⟨trivial,h.1⟩
  | _::_,_::_,_,_,h=>by
    have:=Fit.qT h.2
    exact⟨⟨h.1,this.1⟩,this.2⟩
  | [],_::ps,_,_,h=>by
    have:=Fit.length h.2
    simp at this
  | _::ws,[],_,_,h=>by
    have:=Fit.length h.2
    simp at this
theorem Am:∀(ws:List Int) (r:Int),Fit ws (parts ws r):=by
  intro ws
  induction ws using snocInd with
  | h0=>intro r;exact trivial
  | h1 l w ih =>
    intro r
    rw[eN]
    exact(ih _).snoc Fj (Int.emod_lt_of_pos _ f7)
theorem y6:∀{ws ps:List Int},(∀x∈ws,0<=x)->Fit ws ps->0<=glue (ws.zip ps)/\glue (ws.zip ps) < span ws:=by
  intro ws
  induction ws using snocInd with
  | h0 =>
    intro ps _ _
    simp[glue,span]
  | h1 l w ih =>
    intro ps hw hf
    have hl:=hf.length
    rw[List.length_append,List.length_singleton] at hl
    obtain⟨qs,p,rfl⟩:∃qs p,ps=qs++[p]:=by
      have hne:ps≠[]:=fun z=>by rw[z] at hl;simp at hl
      exact⟨ps.dropLast,ps.getLast hne,(List.dropLast_concat_getLast hne).symm⟩
    have u:=hf.qT
    have hl2:l.length=qs.length:=u.1.length
    rw[List.zip_append hl2,List.zip_cons_cons,List.zip_nil_right,oo,oq (fun x hx=>hw x (List.mem_append_left _ hx)) (hw w (by simp))]
    have i:=ih (ps:=qs) (fun x hx=>hw x (List.mem_append_left _ hx)) u.1
    have hp:(0:Int) < 2^w.toNat:=f7
    refine⟨?_,?_⟩
    · have:=Int.mul_nonneg i.1 (Int.le_of_lt hp)
      omega
    · have h2:(glue (l.zip qs)+1)*2^w.toNat<=span l*2^w.toNat:=Int.mul_le_mul_of_nonneg_right (by omega) (Int.le_of_lt hp)
      rw[Int.add_mul,Int.one_mul] at h2
      omega
theorem qU:∀{ws ps:List Int},Fit ws ps->parts ws (glue (ws.zip ps))=ps:=by
  intro ws
  induction ws using snocInd with
  | h0 =>
    intro ps h
    cases ps with
    | nil=>rfl
    | cons=>exact h.elim
  | h1 l w ih =>
    intro ps hf
    have hl:=hf.length
    rw[List.length_append,List.length_singleton] at hl
    obtain⟨qs,p,rfl⟩:∃qs p,ps=qs++[p]:=by
      have hne:ps≠[]:=fun z=>by rw[z] at hl;simp at hl
      exact⟨ps.dropLast,ps.getLast hne,(List.dropLast_concat_getLast hne).symm⟩
    have u:=hf.qT
    have hl2:l.length=qs.length:=u.1.length
    rw[List.zip_append hl2,List.zip_cons_cons,List.zip_nil_right,oo,eN]
    have hp:(0:Int) < 2^w.toNat:=f7
    have e1:(glue (l.zip qs)*2^w.toNat+p) / 2^w.toNat=glue (l.zip qs):=by
      rw[Int.mul_comm,Int.mul_add_ediv_left _ _ (Int.ne_of_gt hp),Int.ediv_eq_zero_of_lt u.2.1 u.2.2,Int.add_zero]
    have e2:(glue (l.zip qs)*2^w.toNat+p)%2^w.toNat=p:=by
      rw[Int.mul_comm,Int.mul_add_emod_self_left,Int.emod_eq_of_lt u.2.1 u.2.2]
    rw[e1,e2,ih u.1]
theorem B6 {r m:Int}{k:Nat}(h:r < m*2^k): r / 2^k < m:=Int.ediv_lt_of_lt_mul f7 h
theorem jI:∀(ws:List Int),(∀x∈ws,0<=x)->∀{r:Int},0<=r->r < span ws->glue (ws.zip (parts ws r))=r:=by
  intro ws
  induction ws using snocInd with
  | h0 =>
    intro _ r h0 h1
    have e:span []=1:=rfl
    rw[e] at h1
    have:r=0:=by omega
    subst this
    rfl
  | h1 l w ih =>
    intro hw r h0 h1
    have hl:∀x∈l,0<=x:=fun x hx=>hw x (List.mem_append_left _ hx)
    rw[oq hl (hw w (by simp))] at h1
    rw[eN,List.zip_append (by rw[dB]),List.zip_cons_cons,List.zip_nil_right,oo,ih hl (ya h0) (B6 h1),Int.mul_comm]
    exact Int.mul_ediv_add_emod r _
theorem uf {ws:List Int}(hw:∀x∈ws,0<=x){a b:Int}(a0:0<=a)(a1:a < span ws)(b0:0<=b)(b1:b < span ws): parts ws a=parts ws b↔a=b:=by
  constructor
  · intro h
    rw[<-jI ws hw a0 a1,<-jI ws hw b0 b1,h]
  · intro h;rw[h]
end L2

set_option maxHeartbeats 4000000
namespace PySem
open Sem (wp)
open AutoSeq1 (wpAny_loadPart')
section
variable {prog:Program}{w:World}{A:Around}{E:Value->Shared->Prop}{s:Shared}
theorem sF {R:Result->Shared->Prop}{r:Addr}{a b c:Int}{t u v:Tok}{n:Nat}{oI:Obj}{St:Nat->Heap->Prop}(hr:IsRange s.heap r a b c t u v)
    (hit:∀(E:Value->Shared->Prop) (Q:Value->Shared->Prop),Q (.ref s.heap.objs.size) { s with heap:=s.heap.push oI }->wpAny (model prog w) A.in1 (pyIter (.ref r)) Q E s)
    (W:Walks prog w A.in1 s.heap.objs.size [s.heap.objs.size] [s.heap.objs.size] n (fun i v=>∃t,v=.int (a+i*c) t) St) (st:St 0 (s.heap.push oI))
    (hn:Builtin.Range.rangeSize a b c=n) (hlen:n<=2^24) (S:Addr) (res:Value) (c₀:Nat) (hS:s.heap.get? S=some { cls:=.type "list",data:=.seq #[] c₀ })
    (hR:∀h' tk acc' c',(∀b o,b≠S->s.heap.get? b=some o->h'.get? b=some o)->h'.get? S=some { cls:=.type "list",dict:=none,data:=.seq acc' c',slots:=#[] } ->
      ItemsOf (fun i v=>∃t,v=.int (a+i*c) t) acc' n->R (.ok (.ret res)) { s with heap:=h',toks:=tk }) :
    wpAny (model prog w) A.in1 (Builtin.List.listExtendWith (.ref S) (.ref r) res)
      (fun fin s'=>match fin with | .done f=>R (.ok f) s' | .again c'=>c'.quiet=true/\codeAny (model prog w) A c' R s') (fun e s'=>R (.error e) s') s:=by
  have hSr:S≠r:=fun e=>by rw[e,hr] at hS;simp at hS
  have hSlt:S < s.heap.objs.size:=Heap.lt_size hS
  have hSI:S≠s.heap.objs.size:=Nat.ne_of_lt hSlt
  have hSf:S∉[s.heap.objs.size]:=fun hm=>hSI (List.mem_singleton.mp hm)
  have key:∀(h:Heap) (c₁ tk:Nat),St 0 h->(∀b o,b≠S->s.heap.get? b=some o->h.get? b=some o) ->
      h.get? S=some { cls:=.type "list",data:=.seq #[] c₁ }->codeAny (model prog w) A (.builtin "list.extend.loop" ⟨[.ref S,.ref s.heap.objs.size,res],[]⟩) R { s with heap:=h,toks:=tk }:=by
    intro h c₁ tk hst hk hS₁
    refine codeAny_extend_loopS W.toS (by rw[sizeLine_eq];omega) S hSf res n 0 _ #[] c₁ rfl (Nat.zero_le _) hst hS₁ (ItemsOf.nil _) fun s' acc' c' hm hS' hacc=>?_
    rw[Moved.eq_with hm]
    refine hR s'.heap s'.toks acc' c' (fun b o hb e=>hm.heap b o (fun hmem=>?_) (hk b o hb e)) hS' hacc
    rcases List.mem_cons.mp hmem with e' | hmem
    · exact hb e'
    · exact absurd (Heap.lt_size e) (by rw[List.mem_singleton.mp hmem];exact Nat.lt_irrefl _)
  unfold Builtin.List.listExtendWith
  refine wpAny_bind (wpAny_typeOf (T := "range") ⟨_,hr,rfl⟩ ?_)
  have h1:Builtin.List.listSameRef (.ref S) (.ref r)=false:=by simp[Builtin.List.listSameRef,hSr]
  have h2:(Value.type "range" == Value.type "list")=false:=by decide
  have h3:(Value.type "range" == Value.type "tuple")=false:=by decide
  simp only [h1,h2,h3,Bool.or_false,Bool.false_eq_true,if_false]
  refine wpAny_bind (hit _ _ ?_)
  refine wpAny_bind (wpAny_holding (wpAny_hint_range (n:=n) (Heap.get?_push_of_some _ hr) hn hlen ?_))
  have hS₁:=Heap.get?_push_of_some oI hS
  refine wpAny_ite_split (fun _=>?_) (fun _=>wpAny_pure ⟨plainId_quiet F.plain_extend_loop _,key _ c₀ _ st (fun b o _ e=>Heap.get?_push_of_some _ e) hS₁⟩)
  refine wpAny_bind (wpAny_rule ?_)
  refine wpAny_bind ?_
  show wpAny _ _ (updateSeq S (·.push .none) >>= fun _=>updateSeq S (·.pop)) _ _ _
  refine wpAny_bind (wpAny_updateSeq hS₁ rfl ?_)
  have hS₂:=Heap.get?_update_self (Obj.mapSeq (·.push Value.none)) hS₁ rfl
  refine wpAny_updateSeq (hz:=by seq_fits) hS₂ rfl ?_
  have hS₃:=Heap.get?_update_self (Obj.mapSeq (·.pop)) hS₂ rfl
  refine wpAny_pure ⟨plainId_quiet F.plain_extend_loop _,key _ _ _ ?_ (fun b o hb e=>?_) hS₃⟩
  · refine W.frame 0 _ _ st fun b hb o e=>?_
    have hbS:b≠S:=fun h=>hSf (h ▸ hb)
    exact(Heap.get?_update_other _ _ (Ne.symm hbS)).trans ((Heap.get?_update_other _ _ (Ne.symm hbS)).trans e)
  · exact(Heap.get?_update_other _ _ (Ne.symm hb)).trans ((Heap.get?_update_other _ _ (Ne.symm hb)).trans (Heap.get?_push_of_some _ e))
theorem ot {R:Result->Shared->Prop}{r:Addr}{a b c:Int}{t u v:Tok}{n:Nat}(hr:IsRange s.heap r a b c t u v)
    (src:∀s':Shared,IsRange s'.heap r a b c t u v->∃(oI:Obj) (St:Nat->Heap->Prop),(∀(E:Value->Shared->Prop) (Q:Value->Shared->Prop),Q (.ref s'.heap.objs.size) { s' with heap:=s'.heap.push oI }->wpAny (model prog w) A.in1 (pyIter (.ref r)) Q E s') ∧
      Walks prog w A.in1 s'.heap.objs.size [s'.heap.objs.size] [s'.heap.objs.size] n (fun i v=>∃t,v=.int (a+i*c) t) St/\St 0 (s'.heap.push oI))
    (hn:Builtin.Range.rangeSize a b c=n) (hlen:n<=2^24) (S:Addr) (hS:s.heap.get? S=some { cls:=.type "list",data:=.seq #[] })
    (hR:∀h' tk acc' c',(∀b o,b≠S->s.heap.get? b=some o->h'.get? b=some o)->h'.get? S=some { cls:=.type "list",dict:=none,data:=.seq acc' c',slots:=#[] } ->
      ItemsOf (fun i v=>∃t,v=.int (a+i*c) t) acc' n->R (.ok (.ret .none)) { s with heap:=h',toks:=tk }) :
    wpAny (model prog w) A.in1 (Builtin.«list.__init__» ⟨[.ref S,.ref r],[]⟩)
      (fun fin s'=>match fin with | .done f=>R (.ok f) s' | .again c'=>c'.quiet=true/\codeAny (model prog w) A c' R s') (fun e s'=>R (.error e) s') s:=by
  have hSr:S≠r:=fun e=>by rw[e,hr] at hS;simp at hS
  show wpAny _ _ (do let old <-Builtin.List.listItems (.ref S);Builtin.List.listUpdate (.ref S) (fun _=>#[]);letGo old.toList.reverse;Builtin.List.listExtendWith (.ref S) (.ref r) .none) _ _ s
  refine wpAny_bind ?_
  unfold Builtin.List.listItems
  refine wpAny_bind (wpAny_seqItems hS rfl (wpAny_pure ?_))
  show wpAny _ _ (updateSeq S (fun _=>#[]) >>= fun _=>letGo (#[]:Array Value).toList.reverse >>= fun _=>Builtin.List.listExtendWith (.ref S) (.ref r) .none) _ _ s
  refine wpAny_bind (wpAny_updateSeq hS rfl ?_)
  have hS₂:=Heap.get?_update_self (Obj.mapSeq (fun _=>(#[]:Array Value))) hS rfl
  have oth:∀b o,b≠S->s.heap.get? b=some o->(s.heap.update S (Obj.mapSeq (fun _=>(#[]:Array Value)))).get? b=some o :=
    fun b o hb e=>(Heap.get?_update_other _ _ (Ne.symm hb)).trans e
  refine wpAny_bind (wpAny_letGo ?_)
  obtain⟨oI,St,hit,W,st⟩:=src { s with heap:=s.heap.update S (Obj.mapSeq (fun _=>(#[]:Array Value))) } (oth r _ (Ne.symm hSr) hr)
  refine sF (s:={ s with heap:=s.heap.update S (Obj.mapSeq (fun _=>(#[]:Array Value))) }) (oth r _ (Ne.symm hSr) hr) hit W st hn hlen S .none _ hS₂ fun h' tk acc' c' hk hS' hacc=>?_
  exact hR h' tk acc' c' (fun b o hb e=>hk b o hb (oth b o hb e)) hS' hacc
theorem ou {Q:Value->Shared->Prop}{r:Addr}{a b c:Int}{t u v:Tok}{n:Nat}(hh:A.handled=none)(hr:IsRange s.heap r a b c t u v)
    (hn:Builtin.Range.rangeSize a b c=n) (hlen:n<=2^24)
    (hQ:∀h' tk acc' c',(∀b o,s.heap.get? b=some o->h'.get? b=some o) ->
      h'.get? s.heap.objs.size=some { cls:=.type "list",dict:=none,data:=.seq acc' c',slots:=#[] }->ItemsOf (fun i v=>∃t,v=.int (a+i*c) t) acc' n->Q (.ref s.heap.objs.size) { s with heap:=h',toks:=tk }) :
    wpAny (model prog w) A (call (.type "list") [.ref r]) Q E s:=by
  cases hs:Builtin.Range.small a b c with
  | true=>exact call_list_range hh hr hs hn hlen hQ
  | false =>
    refine callType_codes (Q₁:=fun obj s₁=>obj=.ref s.heap.objs.size/\s₁={ s with heap:=s.heap.push { cls:=.type "list",data:=.seq #[] } }) F.called_list (F.typeCall_list_1 _) F.entry_list_init
      (code_list_new _ ⟨rfl,rfl⟩) fun obj s₁ h₁=>?_
    obtain⟨rfl,rfl⟩:=h₁
    have hS:(s.heap.push { cls:=.type "list",data:=.seq #[] }).get? s.heap.objs.size=some { cls:=.type "list",data:=.seq #[] }:=Heap.get?_push_size _ rfl
    refine⟨⟨_,hS,rfl⟩,F.args_list_init_2 _ _,ot (A:=A.in1) (Heap.get?_push_of_some _ hr) (fun s' hr'=>⟨_,_,fun E' Q' q=>wpAny_pyIter_longrange hr' hs q,Walks.longrange (A:=A.in1.in1) hh _ a c n,?_⟩) hn hlen _ hS fun h' tk acc' c' hk hS' hacc=>?_⟩
    · rw[hn]
      simpa using Heap.get?_push_size _ rfl
    · exact⟨rfl,hQ h' tk acc' c' (fun b o e=>hk b o (Nat.ne_of_lt (Heap.lt_size e)) (Heap.get?_push_of_some _ e)) hS' hacc⟩
end
end PySem

set_option maxHeartbeats 4000000
namespace L2
open PySem PySem.Spec PyProof.Rows
theorem Fl {n:Int}(h0:0<=n)(h1:n<=2^100): n.natAbs < 2^1000:=by
  have e:(2:Nat)^100 < 2^1000:=Nat.pow_lt_pow_right (by decide) (by decide)
  have e2:((2^100:Nat):Int)=2^100:=by decide
  omega
section
variable {X:Cx}{pins:List (Addr×Obj)}{σ:St}{H:Hp}{s:Shared}
def Gg (i j:Int): Prop:=0<=j/\j<=1000000/\i.natAbs < 2^1000
theorem y7:OpR X (binaryOp .LShift) (rI Gg fun i j=>.int (i*2^j.toNat)):=opI fun i j _ _ _ _ _ hc q=>by
  refine lshift_int hc.1 ?_ q
  have hb:Builtin.Int.intBits i<=1000:=intBits_le_iff.mpr hc.2.2
  have:=hc.2.1
  omega
def kB (lo:Int)(n:Nat): List Int:=(List.range n).map fun i:Nat=>lo+(i:Int)
def DF (ta:TA): TE:=fun σ H Q=>ta σ H fun vs H1=>∃i j:Int,vs=[.int i,.int j]/\∀p,H1 p=none->Q (.ref p) (upd H1 p (.rng i j))
theorem An {a b:Expr} {ta:TA} {p pos:Pos} (hg:Gl X "range") (hm:X.mg "range" = none) (ha:PA X [a,b] ta) (hs:starEach [a,b] X.env=[(false,eval a X.env),(false,eval b X.env)]:=by rfl) (hs2:starEach [b] X.env=[(false,eval b X.env)]:=by rfl) :
    PE X (.Call (.Name "range" p) [a,b] [] pos) (DF ta):=by
  intro pins s σ H Q I h
  refine Call_ (gm I hg hm boot_range (PyProof.Rows.callWith_type1 (thn (ha pos pins s σ H _ I h) fun us s1 ⟨vs,H1,I1,r1,q1⟩=>?_) (by rw[hs,hs2]) (by rw[hs2];rfl)))
  obtain⟨i,j,e,q⟩:=q1
  subst e
  cases r1 with
  | cons r rr =>
    cases rr with
    | cons r' rr =>
      cases rr
      obtain⟨t,rfl⟩:=r
      obtain⟨t',rfl⟩:=r'
      refine call_range_2 ?_
      have I2:=I1.laid (t':=s1.toks+1) (a:=s1.heap.objs.size) (o:=.rng i j) (h':=s1.heap.push { cls:=.type "range",data:=.fields #[.int i t,.int j t',.int 1 s1.toks] }) (fun b o e=>Heap.get?_push_of_some _ e) (Nat.le_refl _) ⟨t,t',_,Heap.get?_push_size _ rfl⟩
      exact⟨.ref s1.heap.objs.size,_,I2,rfl,q _ (I1.hok.fresh (Nat.le_refl _))⟩
theorem pw:∀{xs:List V} {us:List Value},xs.length=us.length->(∀(i:Nat) (x:V) (u:Value),xs[i]?=some x->us[i]?=some u->RelV x u)->Vals xs us
  | [],[],_,_=>.nil
  | [],_::_,h,_=>by cases h
  | _::_,[],h,_=>by cases h
  | x::xs,u::us,h,k=>.cons (k 0 x u rfl rfl) (pw (Nat.succ.inj h) fun i y v e1 e2=>k (i+1) y v (by simpa using e1) (by simpa using e2))
theorem sG (hc:X.calm=true): eZ X (.type "list") (fun xs H Q=>∃(r:Addr) (lo hi:Int),xs=[.ref r]/\H r=some (.rng lo hi)/\hi-lo<=1000000/\∀l,H l=none->Q (.ref l) (upd H l (.lst ((kB lo (hi-lo).toNat).map V.int)))):=by
  intro pins s σ H xs us Q I r h
  obtain⟨q,lo,hi,rfl,hq,hb,k⟩:=h
  obtain⟨u,rfl,ru⟩:=vals1 r
  cases ru
  obtain⟨t,u,v,e⟩:=I.hok q _ hq
  refine ou (n:=(hi-lo).toNat) (I.ok.hd hc) e ?_ (by omega) fun h' tk acc c kp hS hacc=>?_
  · rw[rangeSize_one];split<;>omega
  · have I3:Inv X pins σ (upd H s.heap.objs.size (.lst ((kB lo (hi-lo).toNat).map V.int))) { s with heap:=h',toks:=tk }:=I.laid (t':=tk) kp (Nat.le_refl _)
      (show bJ X.prog X.w _ _ _ (.lst _) from ⟨by rw[List.length_map,kB,List.length_map,List.length_range,sizeLine_eq];omega,acc.toList,c,pw (by rw[List.length_map,kB,List.length_map,List.length_range,Array.length_toList,hacc.1]) (fun i x u e1 e2=>?_),by rw[Array.toArray_toList];exact hS⟩)
    · exact⟨.ref _,_,I3,rfl,k _ (I.hok.fresh (Nat.le_refl _))⟩
    · rw[Array.getElem?_toList] at e2
      obtain⟨t',rfl⟩:=hacc.2 i u e2
      unfold kB at e1
      rw[List.map_map,List.getElem?_map] at e1
      have hi':i < (hi-lo).toNat:=by rw[<-hacc.1];exact(Array.getElem?_eq_some_iff.mp e2).1
      rw[List.getElem?_range hi'] at e1
      cases e1
      exact⟨t',by rw[Int.mul_one]⟩
end
end L2

set_option maxHeartbeats 4000000
namespace PySem
namespace F
theorem m6:typeLookup (.type "tuple") "__reversed__" = pure none:=by rw[typeLookup_type,builtinLookup_eq_fast];kernel_rfl
theorem ug:Manifest.owners.lookup (String.ofList ['d', 'e', 's', 'r', 'e', 'v', 'e', 'r'].reverse)=some Manifest.sig_reversed:=by kernel_rfl
theorem eC:Slot "reversed" "__next__" "reversed.__next__" :=
  .of (owner := "reversed") (n := "__next__") (by rw[typeLookup_type,builtinLookup_eq_fast];kernel_rfl) (by decide +kernel) (by decide +kernel) (by decide +kernel)
    (by first | exact .inl (by decide +kernel) | exact .inr (by decide +kernel)) (by rw[isSubtype_type];kernel_rfl)
theorem kC:entryFor table "reversed.__next__" = some Builtin.«reversed.__next__» := entryFor_of_tree (by kernel_rfl)
theorem j_ (a:Value): argsOk "reversed.__next__" ⟨[a],[]⟩:=by
  unfold argsOk;rw[signature?_of (id := "reversed.__next__") (n:=['_', '_', 't', 'x', 'e', 'n', '_', '_']) (o:=['d', 'e', 's', 'r', 'e', 'v', 'e', 'r']) (by kernel_rfl) ug];kernel_rfl
theorem lV:Slot "reversed" "__iter__" "reversed.__iter__" :=
  .of (owner := "reversed") (n := "__iter__") (by rw[typeLookup_type,builtinLookup_eq_fast];kernel_rfl) (by decide +kernel) (by decide +kernel) (by decide +kernel)
    (by first | exact .inl (by decide +kernel) | exact .inr (by decide +kernel)) (by rw[isSubtype_type];kernel_rfl)
theorem pQ (a:Value): argsOk "reversed.__iter__" ⟨[a],[]⟩:=by
  unfold argsOk;rw[signature?_of (id := "reversed.__iter__") (n:=['_', '_', 'r', 'e', 't', 'i', '_', '_']) (o:=['d', 'e', 's', 'r', 'e', 'v', 'e', 'r']) (by kernel_rfl) ug];kernel_rfl
theorem qV:entryFor table "reversed.__iter__" = some Builtin.«dict_keyiterator.__iter__» :=
  entryFor_alias (id' := "dict_keyiterator.__iter__") (by kernel_rfl) (by first | rfl | decide +kernel | (unfold String.splitOn;simp +decide [String.splitOnAux])) (by decide +kernel) (by kernel_rfl)
theorem sH:Slot "reversed" "__init__" "object.__init__" :=
  .of (owner := "object") (n := "__init__") (by rw[typeLookup_type,builtinLookup_eq_fast];kernel_rfl) (by decide +kernel) (by decide +kernel) (by decide +kernel)
    (by first | exact .inl (by decide +kernel) | exact .inr (by decide +kernel)) (by rw[isSubtype_type];kernel_rfl)
theorem gu:TypeCalled "reversed" "reversed.__new__" "object.__init__" :=
  ⟨by decide +kernel,by decide +kernel,⟨_,_,mro_reversed⟩,made_reversed,by decide +kernel,sub_reversed_self,sH⟩
end F
section
variable {prog:Program}{w:World}{A:Around}{E:Value->Shared->Prop}{s:Shared}
open PyProof.Rows
def qu (l:Addr)(i:Int): Obj:={ cls:=.type "reversed",data:=.fields #[.ref l,rawInt i] }
def Heap.hV (h:Heap)(a l:Addr)(i:Int): Prop:=∃o,h.get? a=some o/\o.cls=.type "reversed" ∧ o.data=.fields #[.ref l,rawInt i]
theorem Heap.hV.typeIs {a l:Addr}{i:Int}(x:s.heap.hV a l i): s.TypeIs (.ref a) "reversed" := let ⟨o,ho,hc,_⟩:=x;⟨o,ho,hc⟩
theorem Heap.hV.at {h h':Heap}{a l:Addr}{i:Int}(x:h.hV a l i)(e:∀o,h.get? a=some o->h'.get? a=some o): h'.hV a l i:=let ⟨o,ho,r⟩:=x;⟨o,e _ ho,r⟩
theorem l6 {l:Addr}{items:Array Value}{Q₁:Value->Shared->Prop}(hl:IsTup s.heap l items)(hfit:(items.size:Int) < 2^63)
    (h:∀tk,Q₁ (.ref s.heap.objs.size) { s with heap:=s.heap.push (qu l ((items.size:Int)-1)),toks:=tk }) :
    codeAny (model prog w) A (.call (.builtin "reversed.__new__") ⟨[.type "reversed",.ref l],[]⟩) (wants Q₁ E) s:=by
  have hT:s.TypeIs (.ref l) "tuple" := hl.typeIs
  refine codeAny_of_tree ?_
  show wpAny _ A.in1 (do checkBuiltinCall "reversed.__new__" ⟨[.type "reversed",.ref l],[]⟩;again (.builtin "reversed.__new__" ⟨[.type "reversed",.ref l],[]⟩)) _ _ s
  refine wpAny_bind (wpAny_of_eq (F.newCall_reversed_1 _) (wpAny_pure ⟨plainId_quiet F.plain_reversed_new _,codeAny_builtin F.entry_reversed_new ?_⟩))
  rw[Around.under_plainId F.plain_reversed_new _]
  unfold Builtin.«reversed.__new__»
  refine wpAny_bind (wpAny_of_eq (newClass_reversed _) ?_)
  try dsimp only
  refine wpAny_bind (wpAny_of_eq (a:=()) (by first | rfl | kernel_rfl) ?_)
  refine wpAny_bind (wpAny_of_eq (a:=()) (by first | rfl | kernel_rfl) ?_)
  try dsimp only
  refine wpAny_bind (wpAny_specialOf hT F.m6 ?_)
  try dsimp only
  refine wpAny_bind ?_
  refine wpAny_bind (m:=isInstance (.ref l) (.type "dict")) (wpAny_isInstance (T := "tuple") (b:=false) hT (by rw[isSubtype_type];kernel_rfl) ?_)
  rw[if_neg Bool.false_ne_true]
  refine wpAny_bind (m:=specialOf (.ref l) (Str.ofString "__getitem__")) (wpAny_specialOf hT F.slot_tuple_getitem.lookup ?_)
  show wpAny _ _ (if (["tuple.__getitem__", "str.__getitem__", "bytes.__getitem__", "bytearray.__getitem__", "memoryview.__getitem__", "numpy.ndarray.__getitem__", "sqlite3.Row.__getitem__"].contains "tuple.__getitem__")=true then pure true else _) _ _ _
  rw[if_pos (by decide +kernel)]
  refine wpAny_pure ?_
  rw[if_neg (by decide)]
  refine wpAny_bind (len_tuple hl hfit ?_)
  refine wpAny_bind (m:=asInt? _) (wpAny_pure ?_)
  dsimp only
  show wpAny _ _ (newObj (.type "reversed") (.fields [Value.ref l,rawInt ((items.size:Int)-1)].toArray) >>= _) _ _ _
  refine wpAny_bind (wpAny_newObj_type (wpAny_pure (h _)))
theorem m8 {l:Addr}{items:Array Value}{Q:Value->Shared->Prop}(hl:IsTup s.heap l items)(hfit:(items.size:Int) < 2^63)
    (h:∀tk,Q (.ref s.heap.objs.size) { s with heap:=s.heap.push (qu l ((items.size:Int)-1)),toks:=tk }):wpAny (model prog w) A (call (.type "reversed") [.ref l]) Q E s:=by
  refine callType_codes (Q₁:=fun obj s₁=>s₁.TypeIs obj "reversed" ∧ Q obj s₁) F.gu (F.typeCall_reversed_1 _) F.entry_object_init
    (l6 hl hfit fun tk=>⟨⟨_,Heap.get?_push_size _ rfl,rfl⟩,h tk⟩) fun obj s₁ h₁=>?_
  exact⟨h₁.1,F.args_object_init_2 obj _,object_init_meets F.gu.init.lookup F.gu.made (by decide) prog w A.in1 _ s₁ ⟨h₁.1,rfl,h₁.2⟩⟩
theorem Gh {i n:Nat}(h:i < n): seqIndex? (i:Int) n=some i:=by
  unfold seqIndex?
  have h1:¬(i:Int) < 0:=by omega
  have h2:((i:Int) < (n:Int)):=by omega
  simp only [h1,if_false]
  simp[h2]
theorem qW {it l:Addr}{i:Nat}{items:Array Value}{x:Value}{Q:Option Value->Shared->Prop}(hit:s.heap.hV it l (i:Int))(hl:IsTup s.heap l items)(hx:items[i]?=some x)(hfit:(items.size:Int) < 2^63)
    (hQ:∀h' tk,h'.hV it l ((i:Int)-1)->Heap.SameBut it s.heap h'->Q (some x) { s with heap:=h',toks:=tk }):wpAny (model prog w) A (pyNext (.ref it)) Q E s:=by
  obtain⟨o,ho,hc,hd⟩:=id hit
  have hT:s.TypeIs (.ref l) "tuple" := hl.typeIs
  unfold pyNext
  refine wpAny_bind (wpAny_attempt (wpAny_callSpecial?_slot (name:=Str.ofString "__next__") hit.typeIs F.eC
    (wpAny_call_entry F.eC hit.typeIs F.kC ?_ (F.j_ _))))
  unfold Builtin.«reversed.__next__»
  refine wpAny_bind (wpAny_of_eq (a:=(Value.ref it,[])) rfl ?_)
  try dsimp only
  refine wpAny_bind (wpAny_field ho hd (x:=.ref l) rfl ?_)
  refine wpAny_bind (wpAny_field ho hd (x:=rawInt (i:Int)) rfl ?_)
  show wpAny _ _ (if (i:Int) < 0 then _ else _) _ _ s
  rw[if_neg (by omega)]
  refine wpAny_bind (wpAny_specialOf hT F.slot_tuple_getitem.lookup ?_)
  rw[if_neg (by decide)]
  refine wpAny_bind (wpAny_mkInt ?_)
  refine wpAny_bind (wpAny_attempt (getItem_tuple (j:=i) (s:={ s with toks:=s.toks+1 }) hl (by omega) (by have:=(Array.getElem?_eq_some_iff.mp hx).1;omega) (Gh (Array.getElem?_eq_some_iff.mp hx).1) hx ?_))
  show wpAny _ _ (field (.ref it) 1 >>= _) _ _ _
  refine wpAny_bind (wpAny_field ho hd (x:=rawInt (i:Int)) rfl ?_)
  show wpAny _ _ (setField (.ref it) 1 (rawInt ((i:Int)-1)) >>= _) _ _ _
  refine wpAny_bind (wpAny_setField ho hd (by simp) ?_)
  refine wpAny_pure ⟨x,rfl,wpAny_pure (hQ _ _ ?_ (Heap.SameBut.update ..))⟩
  exact⟨_,Heap.get?_update_self _ ho (Obj.isFreed_of_fields (Obj.data_mapFields hd _)),(Obj.cls_mapFields ..).trans hc,by
    rw[Obj.data_mapFields hd];simp⟩
theorem sI {it l:Addr}{Q:Option Value->Shared->Prop}(hh:A.handled=none)(hit:s.heap.hV it l (-1))
    (hQ:∀h',Heap.ExtBut it s.heap h'->Q none { s with heap:=h' }):wpAny (model prog w) A (pyNext (.ref it)) Q E s:=by
  obtain⟨o,ho,hc,hd⟩:=id hit
  unfold pyNext
  refine wpAny_bind (wpAny_attempt (wpAny_callSpecial?_slot (name:=Str.ofString "__next__") hit.typeIs F.eC
    (wpAny_call_entry F.eC hit.typeIs F.kC ?_ (F.j_ _))))
  unfold Builtin.«reversed.__next__»
  refine wpAny_bind (wpAny_of_eq (a:=(Value.ref it,[])) rfl ?_)
  try dsimp only
  refine wpAny_bind (wpAny_field ho hd (x:=.ref l) rfl ?_)
  refine wpAny_bind (wpAny_field ho hd (x:=rawInt (-1)) rfl ?_)
  show wpAny _ _ (if (-1:Int) < 0 then _ else _) _ _ s
  rw[if_pos (by decide)]
  refine wpAny_bind (wpAny_rule ?_)
  refine wpAny_bind ?_
  refine wpAny_bind (m:=setField (.ref it) 1 (rawInt (-1))) (wpAny_setField ho hd (by simp) ?_)
  have d2:=Obj.data_mapFields hd (·.setIfInBounds 1 (rawInt (-1)))
  have e2:=Heap.get?_update_self (Obj.mapFields (·.setIfInBounds 1 (rawInt (-1)))) ho (Obj.isFreed_of_fields d2)
  refine wpAny_setField e2 d2 (by simp) ?_
  refine wpAny_bind ?_
  show wpAny _ _ (newExc (.type "StopIteration") [] >>= _) _ _ _
  refine wpAny_bind ?_
  simp only [newExc,newTuple]
  refine wpAny_bind (wpAny_newObj_type ?_ (by size_fits))
  refine wpAny_bind (m:=firstArgMember _ _) (wpAny_of_eq (a:=Value.none) (by first | rfl | (simp only [firstArgMember];rfl)) ?_)
  refine wpAny_newObj_type ?_ (by size_fits)
  simp only [raiseNew]
  refine wpAny_bind (wpAny_handled ?_)
  first | rw[show A.in1.handled=none from hh] | rw[hh]
  refine wpAny_bind (wpAny_pure (wpAny_throw ?_))
  refine wpAny_bind (wpAny_isInstance (T := "StopIteration") (b:=true) ⟨_,Heap.get?_push_size _ rfl,rfl⟩ isSubtype_stop ?_)
  refine wpAny_pure (hQ _ ?_)
  refine Heap.ExtBut.push (Heap.ExtBut.push (fun b o' hb e=>?_) _) _
  rw[Heap.get?_update_other _ _ (Ne.symm hb),Heap.get?_update_other _ _ (Ne.symm hb)]
  exact e
theorem uh {it l:Addr}{i:Int}{Q:Value->Shared->Prop}(hit:s.heap.hV it l i)(h:Q (.ref it) s): wpAny (model prog w) A (pyIter (.ref it)) Q E s:=by
  refine wpAny_pyIter_slot hit.typeIs F.lV (wpAny_call_entry F.lV hit.typeIs F.qV ?_ (F.pQ _))
  show wpAny _ _ (ret (.ref it)) _ _ s
  exact wpAny_pure ⟨_,rfl, "reversed",_,hit.typeIs,F.eC.lookup,h⟩
end
namespace F
theorem Ao:typeLookup (.type "list_reverseiterator") "__len__" = pure none:=by rw[typeLookup_type,builtinLookup_eq_fast];kernel_rfl
theorem B7:typeLookup (.type "list_reverseiterator") "__length_hint__" = pure (some (.builtin "list_reverseiterator.__length_hint__")):=by rw[typeLookup_type,builtinLookup_eq_fast];kernel_rfl
end F
section
open Sem (wp)
variable {prog:Program}{w:World}{A:Around}{s:Shared}{R:Result->Shared->Prop}
variable {I:Addr}{fp wr:List Addr}{G:Array GenState->Array GenState->Prop}{n:Nat}{P:Nat->Value->Prop}{St:Nat->Shared->Prop}
end
section
variable {prog:Program}{w:World}{A:Around}{E:Value->Shared->Prop}{s:Shared}
variable {I:Addr}{fp wr:List Addr}{G:Array GenState->Array GenState->Prop}{n:Nat}{P:Nat->Value->Prop}{St:Nat->Shared->Prop}
theorem wG {Q:List Value->Shared->Prop} (W:WalksS prog w A.in1 I fp wr G n P St) (hT:∀i s,St i s->s.TypeIs (.ref I) "list_reverseiterator") (hst:St 0 s) (hfp:∀b∈fp,b < s.heap.objs.size) (hI:I∈fp)
    (hQ:∀s' acc,Moved wr G s s'->ItemsOf P acc n->Q acc.toList s') (hn:n<=sizeLine):wpAny (model prog w) A (collect (.ref I)) Q E s:=by
  have hSf:s.heap.objs.size∉fp:=fun hm=>Nat.lt_irrefl _ (hfp _ hm)
  unfold collect
  refine wpAny_bind (wpAny_runValue (codeAny_builtin F.entry_proto_collect ?_))
  rw[Around.under_plainId F.plain_proto_collect _]
  show wpAny _ A.in1 (newList [] >>= fun l=>again (.builtin "list.__iadd__" ⟨[l,.ref I],[]⟩)) _ _ s
  refine wpAny_bind (wpAny_newObj_type ?_)
  refine wpAny_pure ⟨plainId_quiet F.plain_list_iadd _,codeAny_builtin F.entry_list_iadd ?_⟩
  rw[Around.under_plainId F.plain_list_iadd _]
  have hst₁:=W.frame 0 s (s.heap.push { cls:=.type "list",data:=.seq ([]:List Value).toArray }) s.toks hst (Nat.le_refl _) fun b _ o e=>Heap.get?_push_of_some _ e
  have hS₁:(s.heap.push { cls:=.type "list",data:=.seq ([]:List Value).toArray }).get? s.heap.objs.size=some { cls:=.type "list",data:=.seq ([]:List Value).toArray }:=Heap.get?_push_size _ rfl
  show wpAny _ A.in1 (Builtin.List.listExtendWith (.ref s.heap.objs.size) (.ref I) (.ref s.heap.objs.size)) _ _ _
  have hSI:s.heap.objs.size≠I:=fun e=>hSf (e ▸ hI)
  have h1:Builtin.List.listSameRef (.ref s.heap.objs.size) (.ref I)=false:=by simp[Builtin.List.listSameRef,hSI]
  unfold Builtin.List.listExtendWith
  refine wpAny_bind (wpAny_typeOf (hT 0 _ hst₁) ?_)
  rw[if_neg (by rw[h1];decide)]
  refine wpAny_bind (W.self 0 _ _ _ hst₁ ?_)
  refine wpAny_bind (wpAny_holding ?_)
  unfold Builtin.List.listLengthHint
  refine wpAny_bind (wpAny_specialOf (hT 0 _ hst₁) F.Ao ?_)
  show wpAny _ A.in1 (specialOf (Value.ref I) (Str.ofString "__length_hint__") >>= _) _ _ _
  refine wpAny_bind (wpAny_specialOf (hT 0 _ hst₁) F.B7 ?_)
  generalize hid:("list_reverseiterator.__length_hint__" : String)=id0
  wp_delta
  rw[show splitId id0=some ("list_reverseiterator", "__length_hint__") from by subst hid;decide +kernel]
  subst hid
  refine wpAny_bind (wpAny_isInstance (b:=true) (hT 0 _ hst₁) (by rw[isSubtype_type];kernel_rfl) ?_)
  refine wpAny_pure ?_
  rw[if_neg (by decide)]
  refine wpAny_pure ⟨plainId_quiet F.plain_extend_loop _,codeAny_extend_loopS W hn _ hSf _ n 0 _ _ _ rfl (Nat.zero_le _) hst₁ hS₁ (ItemsOf.nil P) fun s' acc' c' hm hS' hacc=>?_⟩
  show wpAny _ A (load s.heap.objs.size >>= _) _ _ s'
  refine wpAny_bind (wpAny_load hS' ?_)
  exact wpAny_pure (hQ s' acc' (Moved.drop_new (o:={ cls:=.type "list",data:=.seq ([]:List Value).toArray }) (tk:=s.toks) hm (Nat.le_refl _)) hacc)
theorem l8 {Q₁:Value->Shared->Prop} (W:WalksS prog w A.in1.in1 I fp wr G n P St) (hT:∀i s,St i s->s.TypeIs (.ref I) "list_reverseiterator") (hst:St 0 s) (hfp:∀b∈fp,b < s.heap.objs.size) (hI:I∈fp)
    (h:∀s' acc,Moved wr G s s'->ItemsOf P acc n->Q₁ (.ref s'.heap.objs.size) { s' with heap:=s'.heap.push { cls:=.type "tuple",data:=.seq acc } }) (hsz:n<=sizeLine) :
    codeAny (model prog w) A (.call (.builtin "tuple.__new__") ⟨[.type "tuple",.ref I],[]⟩) (wants Q₁ E) s:=by
  refine codeAny_of_tree ?_
  show wpAny _ A.in1 (do checkBuiltinCall "tuple.__new__" ⟨[.type "tuple",.ref I],[]⟩;again (.builtin "tuple.__new__" ⟨[.type "tuple",.ref I],[]⟩)) _ _ s
  refine wpAny_bind (wpAny_of_eq (F.newCall_tuple_1 _) (wpAny_pure ⟨plainId_quiet F.plain_tuple_new _,codeAny_builtin F.entry_tuple_new ?_⟩))
  rw[Around.under_plainId F.plain_tuple_new _]
  have hsub:=sub_tuple_self
  have hinit:=init_tuple_lookup
  have hmh:=madeHere_tuple
  have hTI:=hT 0 s hst
  wp_walk using wpAny_typeOf hTI,wG (hn:=hsz) W hT hst hfp hI
  intro s' acc hm hacc
  show wpAny _ _ (Builtin.Tuple.tupleExact acc.toList.toArray >>= fun v=>ret v) _ _ _
  unfold Builtin.Tuple.tupleExact
  refine wpAny_bind (wpAny_newObj_type ?_ (by show acc.toList.toArray.size<=sizeLine;simp only [Array.toArray_toList];rw[hacc.1];exact hsz))
  refine wpAny_pure ?_
  have e:acc.toList.toArray=acc:=by simp
  rw[e]
  exact h s' acc hm hacc
theorem qX {Q:Value->Shared->Prop} (W:WalksS prog w A.in1.in1.in1 I fp wr G n P St) (hT:∀i s,St i s->s.TypeIs (.ref I) "list_reverseiterator") (hst:St 0 s) (hfp:∀b∈fp,b < s.heap.objs.size) (hI:I∈fp)
    (hQ:∀s' acc,Moved wr G s s'->ItemsOf P acc n->Q (.ref s'.heap.objs.size) { s' with heap:=s'.heap.push { cls:=.type "tuple",data:=.seq acc } }) (hsz:n<=sizeLine) :
    wpAny (model prog w) A (call (.type "tuple") [.ref I]) Q E s:=by
  refine callType_codes (Q₁:=fun obj s₁=>s₁.TypeIs obj "tuple" ∧ Q obj s₁) F.called_tuple (F.typeCall_tuple_1 _) F.entry_object_init
    (l8 W hT hst hfp hI (fun s' acc hm hacc=>⟨⟨_,Heap.get?_push_size _ rfl,rfl⟩,hQ s' acc hm hacc⟩) hsz) fun obj s₁ h₁=>?_
  exact⟨h₁.1,F.args_object_init_2 obj _,object_init_meets F.called_tuple.init.lookup F.called_tuple.made (by decide) prog w A.in1 _ s₁ ⟨h₁.1,rfl,h₁.2⟩⟩
end
end PySem

set_option maxHeartbeats 4000000
namespace L2
open PySem PySem.Spec PyProof.Rows
def Ap (K:W.Frag)(a:Addr)(n:Nat): It :=
  ⟨fun i H=>i < n/\∃xs,SqT K H a xs/\xs.length=n,fun i H x H'=>H'=H/\∀xs,SqT K H a xs->xs[n-1-i]?=some x,fun i _=>i=n⟩
theorem wH {P:Program}{w:World}{K:W.Frag}{tg:Expr}(a it:Addr)(n:Nat): Turn P w K tg (Ap K a n) [it] it (fun i h=>h.hV it a ((n:Int)-1-(i:Int))) where
  mem:=by simp
  obj:=fun i h st b hb=>by
    have e:b=it:=by simpa using hb
    subst e
    obtain⟨o,e,c,d⟩:=st
    exact⟨o,e,fun v z=>by rw[d] at z;cases z⟩
  keep:=fun i h h' st k=>st.at fun o e=>k it (by simp) o e
  item:=by
    intro X hP hw hK hc i pins s σ H E I hf st hg
    subst hP hw hK
    obtain⟨hi,xs,hq,hl⟩:=hg
    obtain⟨its,rv,p,hz⟩:=I.tuple hq
    have hx:xs[n-1-i]?=some (xs[n-1-i]'(by omega)):=List.getElem?_eq_getElem (by omega)
    obtain⟨u,hu,ru⟩:=rv.get hx
    obtain⟨f0,f1,f2,f3,f4,f5⟩:=hf it (by simp)
    have e1:(n:Int)-1-(i:Int)=((n-1-i:Nat):Int):=by omega
    rw[e1] at st
    have hlen:=rv.length
    refine qW st p (x:=u) (by simpa using hu) (by rw[sizeLine_eq] at hz;simp only [List.size_toArray];omega) fun h' tk st' sb=>?_
    have e2:((n-1-i:Nat):Int)-1=(n:Int)-1-((i+1:Nat):Int):=by omega
    rw[e2] at st'
    have I1:Inv X pins σ H { s with heap:=h',toks:=tk }:=I.turned (t':=tk) (fun b o hb e=>(sb.2 b hb).trans e) f0 f1 f3 f4 f5
    obtain⟨o,e,c,d⟩:=id st'
    exact⟨u,rfl,tK (s:={ s with heap:=h',toks:=tk }) e c d (by decide) ⟨_,H,I1,ru,⟨rfl,fun ys hy=>by rw[I.oa hy hq];exact hx⟩,st',fun b hb=>(hf b hb).1⟩⟩
  done:=by
    intro X hP hw hK hc i pins s σ H E I hf st hg
    subst hP hw hK
    have hg:i=n:=hg
    subst hg
    obtain⟨f0,f1,f2,f3,f4,f5⟩:=hf it (by simp)
    have e1:(i:Int)-1-(i:Int)=-1:=by omega
    rw[e1] at st
    exact sI (I.ok.hd hc) st fun h' eb=>⟨rfl,I.turned (t':=s.toks) (fun b o hb e=>eb b o hb e) f0 f1 f3 f4 f5⟩
  self:=fun _ _ _ _ _ st h=>uh st h
theorem B8 {K:W.Frag}{a:Addr}{xs:List V}{g:TG}{tb:TS}{D:Ends}{σ:St}{H:Hp}(Pv:Nat->St->Hp->Prop)(h0:Pv 0 σ H)(hl:∀i σ H,i<=xs.length->Pv i σ H->SqT K H a xs)
    (hs:∀i x σ H,xs.reverse[i]?=some x->Pv i σ H->g x σ H fun σ2 H2=>tb { D with nx:=Pv (i+1),ct:=Pv (i+1),bk:=D.nx } σ2 H2) (hd:∀σ H,Pv xs.length σ H->D.nx σ H) :
    ∃W:Nat->Nat->St->Hp->Prop,(∃m,W 0 m σ H)/\∀i m σ H,W i m σ H ->
      ((Ap K a xs.length).stop i H/\D.nx σ H)\/((Ap K a xs.length).go i H/\∃N:St->Hp->Prop,(∀σ' H',N σ' H'->∃m',m' < m/\W (i+1) m' σ' H')/\∀x H',(Ap K a xs.length).yld i H x H'->g x σ H' fun σ2 H2=>tb { D with nx:=N,ct:=N,bk:=D.nx } σ2 H2):=by
  refine⟨fun i m σ H=>m=xs.length-i/\i<=xs.length/\Pv i σ H,⟨xs.length,by simp,Nat.zero_le _,h0⟩,?_⟩
  rintro i m σ H ⟨rfl,hi,p⟩
  have q:=hl i σ H hi p
  by_cases hlt:i < xs.length
  · refine .inr ⟨⟨hlt,xs,q,rfl⟩,Pv (i+1),fun σ' H' p'=>⟨xs.length-(i+1),by omega,rfl,hlt,p'⟩,fun x H' y=>?_⟩
    obtain⟨e,y⟩:=y
    subst e
    exact hs i x σ _ (by rw[List.getElem?_reverse hlt];exact y xs q) p
  · have e:i=xs.length:=by omega
    subst e
    exact .inl ⟨rfl,hd σ H p⟩
section
variable {X:Cx}{tg l:Expr}{tl:TE}{p pos:Pos}
def Gi (K:W.Frag)(tl:TE): TI:=fun σ H R=>tl σ H fun x H1=>∃a xs,x=.ref a/\SqT K H1 a xs/\R (Ap K a xs.length) H1
theorem DG (hg:Gl X "reversed") (hm:X.mg "reversed" = none) (hl:PE X l tl) (hs:starEach [l] X.env=[(false,eval l X.env)]:=by rfl):PI X tg (.Call (.Name "reversed" p) [l] [] pos) (Gi X.K tl):=by
  intro pins s σ H R I h
  refine Call_ (gm I hg hm PyProof.Rows.Boot.«reversed» (PyProof.Rows.callWith_type1 (thn (mQ hl af hs pos pins s σ H (fun vs H1=>match vs with | [x]=>∃a xs,x=.ref a/\SqT X.K H1 a xs/\R (Ap X.K a xs.length) H1 | _=>False) I h) fun us s1 ⟨vs,H1,I1,r1,q1⟩=>?_) hs rfl))
  match vs,q1 with
  | [x],q1 =>
    obtain⟨a,xs,rfl,hq,q⟩:=q1
    obtain⟨u,rfl,ru⟩:=vals1 r1
    cases ru
    obtain⟨its,rv,pl,hz⟩:=I1.tuple hq
    have hlen:=rv.length
    refine m8 pl (by rw[sizeLine_eq] at hz;simp only [List.size_toArray];omega) fun tk=>?_
    have it0:(s1.heap.push (qu a ((its.toArray.size:Int)-1))).hV s1.heap.objs.size a ((xs.length:Int)-1-((0:Nat):Int)):=⟨_,Heap.get?_push_size _ rfl,rfl,by
      show Data.fields #[.ref a,rawInt ((its.toArray.size:Int)-1)]=_
      rw[List.size_toArray,<-hlen]
      simp⟩
    refine uh (s:={ s1 with heap:=s1.heap.push (qu a ((its.toArray.size:Int)-1)),toks:=tk }) it0 ?_
    refine⟨s1.heap.objs.size,[s1.heap.objs.size],_,_,H1,rfl,I1.kept (t':=tk) fun b o e=>Heap.get?_push_of_some _ e,wH a _ xs.length,it0,fun b hb=>?_,q⟩
    have e:b=s1.heap.objs.size:=by simpa using hb
    subst e
    exact I1.sB (Nat.le_refl _) (I1.hok.fresh (Nat.le_refl _))
def DH (K:W.Frag)(tl:TE): TE:=fun σ H Q=>tl σ H fun x H1=>∃a xs,x=.ref a/\SqL K H1 a xs/\∀t,H1 t=none->Q (.ref t) (upd H1 t (.tup xs.reverse))
theorem wI:∀{xs:List V} {us:List Value},Vals xs us->Vals xs.reverse us.reverse
  | [],_,r=>by cases r;exact .nil
  | x::xs,_,r=>by
    cases r with
    | cons r1 r2 =>
      rw[List.reverse_cons,List.reverse_cons]
      exact(wI r2).append (.cons r1 .nil)
theorem Aq {xs:List V}{its:List Value}(rv:Vals xs its){acc:Array Value}(h:ItemsOf (fun i v=>its.toArray[its.toArray.size-1-i]?=some v) acc its.toArray.size): Vals xs.reverse acc.toList:=by
  have e:acc.toList=its.reverse:=by
    refine List.ext_getElem? fun i=>?_
    by_cases hi:i < its.length
    · have hs:acc.size=its.toArray.size:=h.1
      have hi':i < acc.size:=by rw[hs];simpa using hi
      have:=h.2 i acc[i] (by simp[hi'])
      rw[Array.getElem?_toList,Array.getElem?_eq_getElem hi',List.getElem?_reverse hi]
      simp only [List.size_toArray,List.getElem?_toArray] at this
      exact this.symm
    · have hs:acc.size=its.toArray.size:=h.1
      have:acc.toList.length<=i:=by rw[Array.length_toList,hs];simpa using hi
      rw[List.getElem?_eq_none this,List.getElem?_eq_none (by simpa using hi)]
  rw[e]
  exact wI rv
theorem DI {pins:List (Addr×Obj)} {σ:St} {H:Hp} {s:Shared} {Q:VK} {p2 pos2:Pos} {mk:List V->HO} (hg:Gl X "reversed") (hm:X.mg "reversed" = none) (hl:PE X l tl) (hs:starEach [l] X.env=[(false,eval l X.env)]) (I:Inv X pins σ H s)
    (h:tl σ H fun x H1=>∃a xs,x=.ref a/\SqL X.K H1 a xs/\∀t,H1 t=none->Q (.ref t) (upd H1 t (mk xs.reverse))) {R:Value->Shared->Prop}
    (hR:∀(s1:Shared) (H1:Hp) (a:Addr) (xs:List V) (its:List Value),Inv X pins σ H1 s1->Vals xs its->PlainL s1.heap a its.toArray->xs.length<=sizeLine->(∀t,H1 t=none->Q (.ref t) (upd H1 t (mk xs.reverse))) ->
      R (.ref s1.heap.objs.size) { s1 with heap:=s1.heap.push (revObj a ((its.toArray.size:Int)-1)) }) :
    wpAny (model X.prog X.w) X.A (eval (.Call (.Name "reversed" p2) [l] [] pos2) X.env) R X.xe s:=by
  refine Call_ (gm I hg hm PyProof.Rows.Boot.«reversed» (PyProof.Rows.callWith_type1 (thn (mQ hl af hs pos2 pins s σ H (fun vs H1=>match vs with | [x]=>∃a xs,x=.ref a/\SqL X.K H1 a xs/\∀t,H1 t=none->Q (.ref t) (upd H1 t (mk xs.reverse)) | _=>False) I h) fun us s1 ⟨vs,H1,I1,r1,q1⟩=>?_) hs rfl))
  match vs,q1 with
  | [x],q1 =>
    obtain⟨a,xs,rfl,hq,q⟩:=q1
    obtain⟨u,rfl,ru⟩:=vals1 r1
    cases ru
    obtain⟨its,rv,pl,hz⟩:=I1.list hq
    exact call_reversed_list pl.isList (hR s1 H1 a xs its I1 rv pl hz q)
theorem uT {p2 pos2:Pos} (hc:X.calm=true) (hg1:Gl X "tuple") (hm1:X.mg "tuple" = none) (hg:Gl X "reversed") (hm:X.mg "reversed" = none) (hl:PE X l tl) (hs:starEach [l] X.env=[(false,eval l X.env)]:=by rfl)
    (hs2:starEach [.Call (.Name "reversed" p2) [l] [] pos2] X.env=[(false,eval (.Call (.Name "reversed" p2) [l] [] pos2) X.env)]:=by rfl) :
    PE X (.Call (.Name "tuple" p) [.Call (.Name "reversed" p2) [l] [] pos2] [] pos) (DH X.K tl):=by
  intro pins s σ H Q I h
  refine Call_ (gm I hg1 hm1 PyProof.Rows.Boot.«tuple» (PyProof.Rows.callWith_type1 ?_ hs2 rfl))
  rw[hs2]
  show wpAny _ _ (spliced ((false,eval (.Call (.Name "reversed" p2) [l] [] pos2) X.env)::backTo pos [])) _ _ s
  refine Calls.spliced_cons (DI (mk:=.tup) hg hm hl hs I h fun s1 H1 a xs its I1 rv pl hz q=>Calls.spliced_nil ?_)
  have hlen:=rv.length
  have hlt:a < s1.heap.objs.size:=by obtain⟨_,e,_⟩:=id pl.isList;exact Heap.lt_size e
  have fp:=I1.sB (H':=H1) (Nat.le_refl _) (I1.hok.fresh (Nat.le_refl _))
  obtain⟨f0,f1,f2,f3,f4,f5⟩:=fp
  have I2:Inv X pins σ H1 { s1 with heap:=s1.heap.push (revObj a ((its.toArray.size:Int)-1)) }:=I1.kept (t':=s1.toks) fun b o e=>Heap.get?_push_of_some _ e
  have hsz:(s1.heap.push (revObj a ((its.toArray.size:Int)-1))).objs.size=s1.heap.objs.size+1:=Array.size_push _
  refine qX (Walks.listRev (A:=X.A.in1.in1.in1) (I1.ok.hd hc) s1.heap.objs.size a (Nat.ne_of_lt hlt) its.toArray).toS (fun i s st=>st.2.1.typeIs) ⟨Nat.zero_le _,⟨_,Heap.get?_push_size _ rfl,rfl,by simp[revObj]⟩,pl.isList.push _⟩ (fun b hb=>?_) (by simp) (fun s' acc hm hacc=>?_) (by rw[List.size_toArray,<-hlen];exact hz)
  · rcases List.mem_cons.mp hb with e | hb
    · rw[e,hsz];exact Nat.lt_succ_self _
    · rw[List.mem_singleton.mp hb,hsz];exact Nat.lt_succ_of_lt hlt
  · rw[Moved.eq_with hm]
    have kp:∀b o,b≠s1.heap.objs.size->(s1.heap.push (revObj a ((its.toArray.size:Int)-1))).get? b=some o->s'.heap.get? b=some o:=fun b o nb e=>hm.heap b o (fun z=>nb (List.mem_singleton.mp z)) e
    have I3:Inv X pins σ H1 { s1 with heap:=s'.heap,toks:=s'.toks }:=I2.turned (t':=s'.toks) kp f0 f1 f3 f4 f5
    have I4:Inv X pins σ (upd H1 s'.heap.objs.size (.tup xs.reverse)) { s1 with heap:=s'.heap.push { cls:=.type "tuple",data:=.seq acc },toks:=s'.toks }:=I3.laid (t':=s'.toks) (fun b o e=>Heap.get?_push_of_some _ e) (Nat.le_refl _)
      (show bJ X.prog X.w _ _ _ (.tup xs.reverse) from ⟨by rw[List.length_reverse];exact hz,acc.toList,Aq rv hacc,by rw[Array.toArray_toList];exact IsTup.new _ _⟩)
    exact⟨.ref _,_,I4,rfl,q _ (I3.hok.fresh (Nat.le_refl _))⟩
end
end L2

set_option maxHeartbeats 4000000
namespace L2
open PySem PySem.Spec PyProof.Rows
end L2

set_option maxHeartbeats 4000000
namespace L2
open PySem PySem.Spec PyProof.Rows
def Itd (lo:Int)(n:Nat): It:=⟨fun i _=>i < n,fun i H x H'=>x=.int (lo-(i:Int))/\H'=H,fun i _=>n<=i⟩
theorem ui {P:Program}{w:World}{K:W.Frag}{tg:Expr}(it:Addr)(lo:Int)(n:Nat): Turn P w K tg (Itd lo n) [it] it (fun i h=>IsRangeIter h it (lo+(i:Nat)*(-1)) ((n:Int)-(i:Nat)) (-1)) where
  mem:=by simp
  obj:=fun i h st b hb=>by
    have e:b=it:=by simpa using hb
    subst e
    exact⟨_,st,fun v z=>by
      have z':Data.fields _=Data.cell v:=z
      cases z'⟩
  keep:=fun i h h' st k=>k it (by simp) _ st
  item:=by
    intro X hP hw hK hc i pins s σ H E I hf st hg
    subst hP hw hK
    obtain⟨f0,f1,f2,f3,f4,f5⟩:=hf it (by simp)
    have W:=Walks.range (prog:=X.prog) (w:=X.w) (I.ok.hd hc) it lo (-1) n
    refine W.item i s _ _ hg st fun v h' tk hv st' kk=>?_
    obtain⟨t,rfl⟩:=hv
    have I1:Inv X pins σ H { s with heap:=h',toks:=tk }:=I.turned (fun b o hb e=>kk b o (by simpa using hb) e) f0 f1 f3 f4 f5
    refine⟨_,rfl,tK (s:={ s with heap:=h',toks:=tk }) (n := "range_iterator") st' rfl rfl (by decide) ⟨.int (lo-i),H,I1,⟨t,?_⟩,⟨rfl,rfl⟩,st',fun b hb=>(hf b hb).1⟩⟩
    rw[Int.mul_neg,Int.mul_one,<-Int.sub_eq_add_neg]
  done:=by
    intro X hP hw hK hc i pins s σ H E I hf st hg
    subst hP hw hK
    obtain⟨f0,f1,f2,f3,f4,f5⟩:=hf it (by simp)
    exact wpAny_pyNext_range_end (I.ok.hd hc) st (by have:n<=i:=hg;omega) fun h' eb=>⟨rfl,I.turned (t':=s.toks) (fun b o hb e=>eb b o hb e) f0 f1 f3 f4 f5⟩
  self:=fun _ _ _ _ _ st h=>wpAny_pyIter_rangeiter st h
theorem uj (lo hi:Int): Builtin.Range.rangeSize lo hi (-1)=(((lo-hi).toNat:Nat):Int):=by
  unfold Builtin.Range.rangeSize
  have:(-(-1:Int))=1:=rfl
  rw[if_neg (by decide),this,Int.ediv_one]
  split<;>omega
section
variable {X:Cx}{tg:Expr}
theorem small_down {lo hi:Int}(h1:-(2^60)<=lo)(h2:lo < 2^60)(h3:-(2^60)<=hi)(h4:hi < 2^60): Builtin.Range.small lo hi (-1)=true:=by
  unfold Builtin.Range.small
  rw[uj]
  unfold Builtin.Range.rangeFitsLong
  simp
  omega
theorem yb {pins:List (Addr×Obj)}{σ:St}{H:Hp}{s:Shared}{R:It->Hp->Prop}{E:Value->Shared->Prop}{lo hi:Int}{t u v:Tok}{tk:Nat}(I:Inv X pins σ H s)(h1:-(2^60)<=lo)(h2:lo < 2^60)(h3:-(2^60)<=hi)(h4:hi < 2^60)
    (q:R (Itd lo (lo-hi).toNat) H):wpAny (model X.prog X.w) X.A (pyIter (.ref s.heap.objs.size)) (PIE X pins σ tg R) E { s with heap:=s.heap.push { cls:=.type "range",data:=.fields #[.int lo t,.int hi u,.int (-1) v] },toks:=tk }:=by
  refine wpAny_pyIter_range (IsRange.new ..) (small_down h1 h2 h3 h4) ?_
  have I1:Inv X pins σ H { s with heap:=s.heap.push { cls:=.type "range",data:=.fields #[.int lo t,.int hi u,.int (-1) v] },toks:=tk }:=I.kept fun b o e=>Heap.get?_push_of_some _ e
  refine⟨(s.heap.push { cls:=.type "range",data:=.fields #[.int lo t,.int hi u,.int (-1) v] }).objs.size,[(s.heap.push { cls:=.type "range",data:=.fields #[.int lo t,.int hi u,.int (-1) v] }).objs.size],_,_,H,rfl,
    I1.kept (t':=tk) fun b o e=>Heap.get?_push_of_some _ e,ui _ lo (lo-hi).toNat,?_,fun b hb=>?_,q⟩
  · have e1:lo+((0:Nat):Int)*(-1)=lo:=by simp
    have e2:(((lo-hi).toNat:Nat):Int)-((0:Nat):Int)=Builtin.Range.rangeSize lo hi (-1):=by rw[uj];omega
    show IsRangeIter _ _ (lo+((0:Nat):Int)*(-1)) ((((lo-hi).toNat:Nat):Int)-((0:Nat):Int)) (-1)
    rw[e1,e2]
    exact Heap.get?_push_size _ rfl
  · have e:b=(s.heap.push { cls:=.type "range",data:=.fields #[.int lo t,.int hi u,.int (-1) v] }).objs.size:=by simpa using hb
    subst e
    exact I1.sB (Nat.le_refl _) (I1.hok.fresh (Nat.le_refl _))
def Gj (ta:TA): TI:=fun σ H R=>ta σ H fun vs H1=>∃i j:Int,vs=[.int i,.int j,.int (-1)]/\(-(2^60)<=i/\i < 2^60/\-(2^60)<=j/\j < 2^60)/\R (Itd i (i-j).toNat) H1
theorem Ar {a b c:Expr} {ta:TA} {p pos:Pos} (hg:Gl X "range") (hm:X.mg "range" = none) (ha:PA X [a,b,c] ta) (hs:starEach [a,b,c] X.env=[(false,eval a X.env),(false,eval b X.env),(false,eval c X.env)]:=by rfl) (hs2:starEach [b,c] X.env=[(false,eval b X.env),(false,eval c X.env)]:=by rfl) :
    PI X tg (.Call (.Name "range" p) [a,b,c] [] pos) (Gj ta):=by
  intro pins s σ H R I h
  refine Call_ (gm I hg hm boot_range (PyProof.Rows.callWith_type1 (thn (ha pos pins s σ H _ I h) fun us s1 ⟨vs,H1,I1,r1,q1⟩=>?_) (by rw[hs,hs2]) (by rw[hs2];rfl)))
  obtain⟨i,j,e,⟨q1,q2,q3,q4⟩,q⟩:=q1
  subst e
  cases r1 with
  | cons r rr =>
    cases rr with
    | cons r' rr =>
      cases rr with
      | cons r'' rr =>
        cases rr
        obtain⟨t,rfl⟩:=r
        obtain⟨t',rfl⟩:=r'
        obtain⟨t'',rfl⟩:=r''
        exact call_range_3 (by decide) (yb I1 q1 q2 q3 q4 q) (.inl (by unfold Builtin.divisionGoesByPylong;rfl))
end
theorem wJ {lo:Int}{n:Nat}{g:TG}{tb:TS}{D:Ends}{σ:St}{H:Hp}(Pv:Nat->St->Hp->Prop)(h0:Pv 0 σ H)
    (hs:∀i σ H,i < n->Pv i σ H->g (.int (lo-(i:Int))) σ H fun σ2 H2=>tb { D with nx:=Pv (i+1),ct:=Pv (i+1),bk:=D.nx } σ2 H2) (hd:∀σ H,Pv n σ H->D.nx σ H) :
    ∃W:Nat->Nat->St->Hp->Prop,(∃m,W 0 m σ H)/\∀i m σ H,W i m σ H ->
      ((Itd lo n).stop i H/\D.nx σ H)\/((Itd lo n).go i H/\∃N:St->Hp->Prop,(∀σ' H',N σ' H'->∃m',m' < m/\W (i+1) m' σ' H')/\∀x H',(Itd lo n).yld i H x H'->g x σ H' fun σ2 H2=>tb { D with nx:=N,ct:=N,bk:=D.nx } σ2 H2):=by
  refine⟨fun i m σ H=>m=n-i/\i<=n/\Pv i σ H,⟨n,by simp,Nat.zero_le _,h0⟩,?_⟩
  rintro i m σ H ⟨rfl,hi,p⟩
  by_cases hlt:i < n
  · refine .inr ⟨hlt,Pv (i+1),fun σ' H' p'=>⟨n-(i+1),by omega,rfl,hlt,p'⟩,fun x H' y=>?_⟩
    obtain⟨rfl,rfl⟩:=y
    exact hs i σ _ hlt p
  · have e:i=n:=by omega
    subst e
    exact .inl ⟨Nat.le_refl _,hd σ H p⟩
end L2

set_option maxHeartbeats 4000000
namespace L2
open PySem PySem.Spec PyProof.Rows
section
variable {X:Cx}{pins:List (Addr×Obj)}{σ:St}{H:Hp}{s:Shared}{a:Addr}
theorem Inv.B9 {u u':HO}(I:Inv X pins σ H s)(e:H a=some u)(hu:∀xs,u≠.tup xs)(ho:∀y,u≠.own y)(ht:∀ps,u≠.tbl ps)(hf:∀o v,u=.frz o v->∀o' v',X.H₀ a≠some (.frz o' v'))
    (new:bJ X.prog X.w H s.heap a u->bJ X.prog X.w H s.heap a u'):Inv X pins σ (upd H a u') s:=by
  have un:∀b,H b=none->b≠a:=fun b n z=>by rw[z,e] at n;cases n
  have stay:∀b v,bJ X.prog X.w H s.heap b v->bJ X.prog X.w (upd H a u') s.heap b v:=fun b v x=>x.stay (fun _ _ _ q=>q)
    (fun c q=>by rw[av (fun z=>by rw[z,e] at q;exact ho _ (Option.some.inj q))];exact q)
    (fun c xs q=>by rw[av (fun z=>by rw[z,e] at q;exact hu _ (Option.some.inj q))];exact q)
  refine⟨I.ok,I.os,I.bare,⟨I.base.keep,I.base.slot,fun b o q n hx=>?_,I.base.there,fun b xs q=>?_,fun b o v q=>?_,fun b ps q=>?_⟩,I.loc,I.cell,?_,fun x c q=>?_,fun p hp=>?_,fun b v q=>?_,I.len⟩
  · have:=I.base.free b o q n hx
    rw[av (un b this)];exact this
  · have:=I.base.tups b xs q
    rw[av (fun z=>by rw[z,e] at this;exact hu _ (Option.some.inj this))];exact this
  · have:=I.base.lJ b o v q
    by_cases c:b=a
    · rw[c] at this q
      rw[e] at this
      exact absurd q (hf _ _ (Option.some.inj this) _ _)
    · rw[av c];exact this
  · obtain⟨more,q'⟩:=I.base.mK b ps q
    exact⟨more,by rw[av (fun z=>by rw[z,e] at q';exact ht _ (Option.some.inj q'))];exact q'⟩
  · rw[av (un _ I.free)];exact I.free
  · have:=I.iM x c q
    rw[av (un _ this)];exact this
  · obtain⟨p1,p2,p3⟩:=I.pin p hp
    exact⟨p1,by rw[av (un _ p2)];exact p2,p3⟩
  · by_cases c:b=a
    · rw[c,aj] at q
      cases q
      rw[c]
      exact stay _ _ (new (I.hok a u e))
    · rw[av c] at q
      exact stay _ _ (I.hok b v q)
theorem Inv.freeze {kvs:List (Key×V)}{o:Obj}(I:Inv X pins σ H s)(e:H a=some (.dK kvs))(ho:s.heap.get? a=some o): Inv X pins σ (upd H a (.frz o (.dK kvs))) s :=
  I.B9 e (fun _ z=>by cases z) (fun _ z=>by cases z) (fun _ z=>by cases z) (fun _ _ z=>by cases z) fun x=>⟨ho,x⟩
theorem Inv.Gk {kvs:List (Key×V)}{o:Obj}(I:Inv X pins σ H s)(e:H a=some (.frz o (.dK kvs)))(nf:∀o' v',X.H₀ a≠some (.frz o' v')): Inv X pins σ (upd H a (.dK kvs)) s :=
  I.B9 e (fun _ z=>by cases z) (fun _ z=>by cases z) (fun _ z=>by cases z) (fun _ _ _=>nf) fun x=>x.2
def B_ (a:Addr)(o:Obj)(kvs:List (Key×V))(ks:List Int): It :=
  ⟨fun i H=>i < ks.length/\H a=some (.frz o (.dK kvs)),fun i H x H'=>H'=H/\∃k,ks[i]?=some k/\x=.int k,fun i H=>i=ks.length/\H a=some (.frz o (.dK kvs))⟩
theorem DJ {P:Program}{w:World}{i:Int}{v:Value}(h:(cz P w).is (.inl i) v=true): RelV (.int i) v:=by
  have e2:Value.isInt i v=true:=h
  unfold Value.isInt at e2
  split at e2
  · next n tk=>exact⟨_,by simp at e2;rw[e2]⟩
  · cases e2
theorem Fm {kvs:List (Key×V)}{vs:List (Key×Value)}{ks:List Int}(rel:KV kvs vs)(hk:fe kvs ks){i:Nat}{k:Int}(h:ks[i]?=some k): ∃x,vs[i]?=some (.inl k,x):=by
  induction rel generalizing ks i with
  | nil =>
    cases ks with
    | nil=>cases h
    | cons=>cases hk
  | cons r t ih =>
    cases ks with
    | nil=>cases hk
    | cons j ks =>
      have hk':=List.cons.inj hk
      cases i with
      | zero =>
        cases h
        rename_i p q l1 l2
        have e1:p.1=q.1:=r.1
        have e2:q=(q.1,q.2):=rfl
        have e3:p.1=.inl k:=hk'.1
        exact⟨q.2,by show some q=_;rw[e2,<-e1,e3]⟩
      | succ i=>exact ih hk'.2 h
theorem As {P:Program}{w:World}{K:W.Frag}{tg:Expr}(a it:Addr){o:Obj}{kvs:List (Key×V)}{vs:List (Key×Value)}{ks:List Int}{ep:Nat}(hd:∀h:Heap,h.get? a=some o->h.DictAt (cz P w) a vs ep)(rel:KV kvs vs)(hk:fe kvs ks)(hl:ks.length=vs.length):
    Turn P w K tg (B_ a o kvs ks) [it] it (fun i h=>h.IsKeyIter it a i vs.length ep) where
  mem:=by simp
  obj:=fun i h st b hb=>by
    have e:b=it:=by simpa using hb
    subst e
    obtain⟨o,e,c,d⟩:=st
    exact⟨o,e,fun v z=>by rw[d] at z;cases z⟩
  keep:=fun i h h' st k=>st.at fun o e=>k it (by simp) o e
  item:=by
    intro X hP hw hK hc i pins s σ H E I hf st hg
    subst hP hw hK
    obtain⟨hi,hq⟩:=hg
    obtain⟨ho,_⟩:=(show bJ X.prog X.w H s.heap a (.frz o (.dK kvs)) from I.hok a _ hq)
    obtain⟨k,hkk⟩:∃k,ks[i]?=some k:=⟨_,List.getElem?_eq_getElem hi⟩
    obtain⟨x,hx⟩:=Fm rel hk hkk
    obtain⟨f0,f1,f2,f3,f4,f5⟩:=hf it (by simp)
    refine wpAny_pyNext_dict_item st (hd _ ho) hx fun key h' hkey st' sb=>?_
    have I1:Inv X pins σ H { s with heap:=h' }:=I.turned (t':=s.toks) (fun b o hb e=>sb.extBut b o hb e) f0 f1 f3 f4 f5
    obtain⟨ob,e,c,d⟩:=id st'
    exact⟨key,rfl,tK (s:={ s with heap:=h' }) e c d (by decide) ⟨.int k,H,I1,DJ hkey,⟨rfl,k,hkk,rfl⟩,st',fun b hb=>(hf b hb).1⟩⟩
  done:=by
    intro X hP hw hK hc i pins s σ H E I hf st hg
    subst hP hw hK
    obtain⟨hi,hq⟩:=hg
    obtain⟨ho,_⟩:=(show bJ X.prog X.w H s.heap a (.frz o (.dK kvs)) from I.hok a _ hq)
    obtain⟨f0,f1,f2,f3,f4,f5⟩:=hf it (by simp)
    exact wpAny_pyNext_dict_end (I.ok.hd hc) st (hd _ ho) (by rw[hi,hl];simp) fun h' eb=>⟨rfl,I.turned (t':=s.toks) (fun b o hb e=>eb b o hb e) f0 f1 f3 f4 f5⟩
  self:=fun _ _ _ _ _ st h=>wpAny_pyIter_keyiter st h
def Er (H₀:Hp)(tl:TE): TI:=fun σ H R=>tl σ H fun x H1=>∃a kvs ks,x=.ref a/\H1 a=some (.dK kvs)/\fe kvs ks/\∀o:Obj,(∀o' u,H₀ a≠some (.frz o' u))->R (B_ a o kvs ks) (upd H1 a (.frz o (.dK kvs)))
theorem DK {tg l:Expr}{tl:TE}(hl:PE X l tl): PI X tg l (Er X.H₀ tl):=by
  intro pins s σ H R I h
  refine thn (hl pins s σ H _ I h) fun v s1 ⟨x,H1,I1,r1,q1⟩=>?_
  obtain⟨a,kvs,ks,e,hq,hk,q⟩:=q1
  subst e
  cases r1
  obtain⟨z,hd,vs,rel,dd⟩:=qI I1.hok hq
  obtain⟨ep,da⟩:=dd.dictAt
  have hlen:=rel.length
  have hlk:ks.length=vs.length:=by
    have:=congrArg List.length hk
    rw[List.length_map,List.length_map] at this
    omega
  obtain⟨o,es,ho,dr⟩:=id da
  have nf:∀o' u,X.H₀ a≠some (.frz o' u):=fun o' u w=>by have:=I1.base.lJ a o' u w;rw[hq] at this;cases this
  refine wpAny_pyIter_dict hd da ?_
  have I2:=I1.freeze hq ho
  refine⟨s1.heap.objs.size,[s1.heap.objs.size],_,_,upd H1 a (.frz o (.dK kvs)),rfl,I2.kept (t':=s1.toks) fun b o e=>Heap.get?_push_of_some _ e,As a _ (vs:=vs) (ep:=ep) (fun h e=>⟨o,es,e,dr⟩) rel hk hlk,⟨_,Heap.get?_push_size _ rfl,rfl,rfl⟩,fun b hb=>?_,q o nf⟩
  have e:b=s1.heap.objs.size:=by simpa using hb
  subst e
  exact I2.sB (Nat.le_refl _) (I2.hok.fresh (Nat.le_refl _))
def qY (H₀:Hp)(D:Ends): Ends :=
  { nx:=fun σ H=>∃a o kvs,H a=some (.frz o (.dK kvs))/\(∀o' u,H₀ a≠some (.frz o' u))/\D.nx σ (upd H a (.dK kvs))
    rt:=fun v H=>∃a o kvs,H a=some (.frz o (.dK kvs))/\(∀o' u,H₀ a≠some (.frz o' u))/\D.rt v (upd H a (.dK kvs)) }
def Gm (H₀:Hp)(tl:TE)(g:TG)(tb:TS): TS:=fun D σ H=>FY (Er H₀ tl) g tb (qY H₀ D) σ H
theorem DL {tg iter:Expr}{body:List Stmt}{tl:TE}{g:TG}{tb:TS}{pos:Pos}(hp:PassesOwn (model X.prog X.w) X.A X.env X.xe)(hc:X.calm=true)(hi:PE X iter tl)(hg:PG X tg g)(hb:PSs X body tb)
    (hs:∀x,foldedSetIterable iter X.env x=pure x:=by intro _;rfl):PS X (.For tg iter body [] pos) (Gm X.H₀ tl g tb):=by
  intro pins s σ H D I h
  refine thn (cM hp hc (DK hi) hg hb hs pins s σ H (qY X.H₀ D) I h) fun f s' q=>?_
  cases f with
  | next=>obtain⟨σ7,H7,I7,a,o,kvs,e,nf,q⟩:=q;exact⟨σ7,_,I7.Gk e nf,q⟩
  | cont=>obtain⟨σ7,H7,I7,q⟩:=q;exact q.elim
  | brk=>obtain⟨σ7,H7,I7,q⟩:=q;exact q.elim
  | ret v=>obtain⟨x7,σ7,H7,I7,r7,a,o,kvs,e,nf,q⟩:=q;exact⟨x7,σ7,_,I7.Gk e nf,r7,q⟩
end
theorem Ca {H₀:Hp}{a:Addr}{kvs:List (Key×V)}{ks:List Int}{g:TG}{tb:TS}{D:Ends}{σ:St}{H:Hp}{o:Obj}(nf:∀o' u,H₀ a≠some (.frz o' u))(Pv:Nat->St->Hp->Prop)
    (h0:Pv 0 σ H) (hl:∀i σ H,i<=ks.length->Pv i σ H->H a=some (.frz o (.dK kvs)))
    (hs:∀i k σ H,ks[i]?=some k->Pv i σ H->g (.int k) σ H fun σ2 H2=>tb { qY H₀ D with nx:=Pv (i+1),ct:=Pv (i+1),bk:=(qY H₀ D).nx } σ2 H2) (hd:∀σ H,Pv ks.length σ H->D.nx σ (upd H a (.dK kvs))) :
    ∃W:Nat->Nat->St->Hp->Prop,(∃m,W 0 m σ H)/\∀i m σ H,W i m σ H ->
      ((B_ a o kvs ks).stop i H/\(qY H₀ D).nx σ H)\/((B_ a o kvs ks).go i H/\∃N:St->Hp->Prop,(∀σ' H',N σ' H'->∃m',m' < m/\W (i+1) m' σ' H')/\∀x H',(B_ a o kvs ks).yld i H x H'->g x σ H' fun σ2 H2=>tb { qY H₀ D with nx:=N,ct:=N,bk:=(qY H₀ D).nx } σ2 H2):=by
  refine⟨fun i m σ H=>m=ks.length-i/\i<=ks.length/\Pv i σ H,⟨ks.length,by simp,Nat.zero_le _,h0⟩,?_⟩
  rintro i m σ H ⟨rfl,hi,p⟩
  have q:=hl i σ H hi p
  by_cases hlt:i < ks.length
  · refine .inr ⟨⟨hlt,q⟩,Pv (i+1),fun σ' H' p'=>⟨ks.length-(i+1),by omega,rfl,hlt,p'⟩,fun x H' y=>?_⟩
    obtain⟨e,k,hk,rfl⟩:=y
    subst e
    exact hs i k σ _ hk p
  · have e:i=ks.length:=by omega
    subst e
    exact .inl ⟨⟨rfl,q⟩,a,o,kvs,q,nf,hd σ H p⟩
end L2

set_option maxHeartbeats 4000000
namespace L2
open PySem PySem.Spec PyProof.Rows
section
variable {X:Cx}
end
end L2

set_option maxHeartbeats 4000000
namespace L2
open PySem PySem.Spec PyProof.Rows
section
variable {X:Cx}{tg:Expr}
end
end L2


set_option maxHeartbeats 4000000
namespace PySem
section
variable {prog:Program}{w:World}{A:Around}{E:Value->Shared->Prop}{s:Shared}
theorem pR {it t:Addr}{i:Nat}{items}{x:Value}{Q:Value->Shared->Prop}(hit:s.heap.IsTupleIter it t i)(ht:s.heap.IsTuple t items)(hx:items[i]?=some x)
    (hQ:∀h',h'.IsTupleIter it t (i+1)->Heap.SameBut it s.heap h'->Q x { s with heap:=h' }):wpAny (model prog w) A (Builtin.SmallTypes.nextOf (.ref it)) Q E s:=by
  obtain⟨o,ho,hc,hd⟩:=id hit
  obtain⟨ol,hol,_,nl,hdl⟩:=ht
  unfold Builtin.SmallTypes.nextOf
  refine wpAny_bind (wpAny_callSpecial?_slot (name:=Str.ofString "__next__") hit.typeIs F.slot_tuple_iterator_next
    (wpAny_call_entry F.slot_tuple_iterator_next hit.typeIs F.entry_tuple_iterator_next ?_ (F.args_tuple_iterator_next_1 _)))
  show wpAny _ _ (field (.ref it) 0 >>= _) _ _ s
  refine wpAny_bind (wpAny_field ho hd (x:=.ref t) rfl ?_)
  show wpAny _ _ (if (Value.ref t==Value.none)=true then _ else _) _ _ s
  rw[if_neg (show ¬((Value.ref t==Value.none)=true) from Bool.false_ne_true)]
  show wpAny _ _ (field (.ref it) 1 >>= _) _ _ s
  refine wpAny_bind (wpAny_field ho hd (x:=.int i 0) rfl ?_)
  show wpAny _ _ (seqItems? (.ref t) >>= _) _ _ s
  refine wpAny_bind (wpAny_seqItems hol hdl ?_)
  simp only [Int.toNat_natCast,hx]
  refine wpAny_bind (wpAny_setField ho hd (by simp) (wpAny_pure ⟨x,rfl,wpAny_pure (hQ _ ?_ (Heap.SameBut.update ..))⟩))
  exact⟨_,Heap.get?_update_self _ ho (Obj.isFreed_of_fields (Obj.data_mapFields hd _)),(Obj.cls_mapFields ..).trans hc,by
    rw[Obj.data_mapFields hd];simp[rawInt]⟩
theorem qZ {it t:Addr}{i:Nat}{items}{Q:Value->Shared->Prop}(hh:A.handled=none)(hit:s.heap.IsTupleIter it t i)(ht:s.heap.IsTuple t items)(hx:items[i]?=none)
    (hE:∀h' e,Heap.ExtBut it s.heap h'->(∃o,h'.get? e=some o/\o.cls=.type "StopIteration")->E (.ref e) { s with heap:=h' }):wpAny (model prog w) A (Builtin.SmallTypes.nextOf (.ref it)) Q E s:=by
  obtain⟨o,ho,hc,hd⟩:=id hit
  obtain⟨ol,hol,_,nl,hdl⟩:=ht
  unfold Builtin.SmallTypes.nextOf
  refine wpAny_bind (wpAny_callSpecial?_slot (name:=Str.ofString "__next__") hit.typeIs F.slot_tuple_iterator_next
    (wpAny_call_entry F.slot_tuple_iterator_next hit.typeIs F.entry_tuple_iterator_next ?_ (F.args_tuple_iterator_next_1 _)))
  show wpAny _ _ (field (.ref it) 0 >>= _) _ _ s
  refine wpAny_bind (wpAny_field ho hd (x:=.ref t) rfl ?_)
  show wpAny _ _ (if (Value.ref t==Value.none)=true then _ else _) _ _ s
  rw[if_neg (show ¬((Value.ref t==Value.none)=true) from Bool.false_ne_true)]
  show wpAny _ _ (field (.ref it) 1 >>= _) _ _ s
  refine wpAny_bind (wpAny_field ho hd (x:=.int i 0) rfl ?_)
  show wpAny _ _ (seqItems? (.ref t) >>= _) _ _ s
  refine wpAny_bind (wpAny_seqItems hol hdl ?_)
  simp only [Int.toNat_natCast,hx]
  refine wpAny_bind (wpAny_rule (wpAny_bind (wpAny_setField ho hd (by simp) ?_)))
  show wpAny _ _ (newExc (.type "StopIteration") [] >>= _) _ _ _
  refine wpAny_bind ?_
  simp only [newExc,newTuple]
  refine wpAny_bind (wpAny_newObj_type ?_ (by size_fits))
  refine wpAny_bind (m:=firstArgMember _ _) (wpAny_of_eq (a:=Value.none) (by first | rfl | (simp only [firstArgMember];rfl)) ?_)
  refine wpAny_newObj_type ?_ (by size_fits)
  simp only [raiseNew]
  refine wpAny_bind (wpAny_handled ?_)
  first | rw[show A.in1.handled=none from hh] | rw[hh]
  refine wpAny_bind (wpAny_pure (wpAny_throw ?_))
  exact hE _ _ (((Heap.SameBut.update ..).extBut.push _).push _) ⟨_,Heap.get?_push_size _ rfl,rfl⟩
end
structure l9 (prog:Program)(w:World)(i l:Addr)(xs:Array Value)(P:Nat->Heap->Prop): Prop where
  item:∀(A:Around) (E:Value->Shared->Prop) (s:Shared) (k:Nat) (x:Value) (Q:Value->Shared->Prop),P k s.heap->xs[k]?=some x->(∀h',P (k+1) h'->Heap.SameBut i s.heap h'->Q x { s with heap:=h' })->wpAny (model prog w) A (Builtin.SmallTypes.nextOf (.ref i)) Q E s
  stop:∀(A:Around) (E:Value->Shared->Prop) (s:Shared) (k:Nat) (Q:Value->Shared->Prop),A.handled=none->P k s.heap->xs[k]?=none ->
    (∀h' e,Heap.ExtBut i s.heap h'->(∃o,h'.get? e=some o/\o.cls=.type "StopIteration")->E (.ref e) { s with heap:=h' })->wpAny (model prog w) A (Builtin.SmallTypes.nextOf (.ref i)) Q E s
  keep:∀k h h',P k h->(∀b,b=i\/b=l->∀o,h.get? b=some o->h'.get? b=some o)->P k h'
  at_:∀k h,P k h->∃o,h.get? i=some o
theorem l9.list {prog:Program}{w:World}{i l:Addr}(ne:l≠i)(xs:Array Value): l9 prog w i l xs fun k h=>h.IsListIter i l k/\h.IsList l xs where
  item:=fun A E s k x Q p hx q=>wpAny_nextOf_list_item p.1 p.2 hx fun h' hit sb=>q h' ⟨hit,p.2.extBut sb.extBut ne⟩ sb
  stop:=fun A E s k Q hh p hx q=>wpAny_nextOf_list_end hh p.1 p.2 hx q
  keep:=fun k h h' p q=>⟨p.1.at fun o e=>q i (.inl rfl) o e,p.2.at fun o e=>q l (.inr rfl) o e⟩
  at_:=fun k h p=>by obtain⟨o,e,_⟩:=p.1;exact⟨o,e⟩
theorem l9.tup {prog:Program}{w:World}{i l:Addr}(ne:l≠i)(xs:Array Value): l9 prog w i l xs fun k h=>h.IsTupleIter i l k/\h.IsTuple l xs where
  item:=fun A E s k x Q p hx q=>pR p.1 p.2 hx fun h' hit sb=>q h' ⟨hit,p.2.extBut sb.extBut ne⟩ sb
  stop:=fun A E s k Q hh p hx q=>qZ hh p.1 p.2 hx q
  keep:=fun k h h' p q=>⟨p.1.at fun o e=>q i (.inl rfl) o e,p.2.at fun o e=>q l (.inr rfl) o e⟩
  at_:=fun k h p=>by obtain⟨o,e,_⟩:=p.1;exact⟨o,e⟩
section
variable {prog:Program}{w:World}{A:Around}{E:Value->Shared->Prop}{s:Shared}{z TI TO i1 i2 l1 l2:Addr}{xs ys:Array Value}{P1 P2:Nat->Heap->Prop}
theorem Au {k:Nat}{x y a b:Value}{Q:Value->Shared->Prop}(D:ZipApart z TI TO i1 i2 l1 l2)(S1:l9 prog w i1 l1 xs P1)(S2:l9 prog w i2 l2 ys P2)
    (hz:IsZip s.heap z TI TO .none) (hTI:IsPair s.heap TI (.ref i1) (.ref i2)) (hTO:IsPair s.heap TO a b) (h1:P1 k s.heap) (h2:P2 k s.heap) (hx:xs[k]?=some x) (hy:ys[k]?=some y)
    (hQ:∀h',IsZip h' z TI TO (rawInt s.heap.objs.size)->IsPair h' TO x y->P1 (k+1) h'->P2 (k+1) h'->IsPair h' s.heap.objs.size x y->h'.objs.size=s.heap.objs.size+1 ->
      (∀c o,c≠z->c≠TO->c≠i1->c≠i2->s.heap.get? c=some o->h'.get? c=some o)->Q (.ref s.heap.objs.size) { s with heap:=h' }) :
    wpAny (model prog w) A (Builtin.«zip.__next__» ⟨[.ref z],[]⟩) (fun fin s'=>∃v,fin=.done (.ret v)/\Q v s') E s:=by
  have kp1:∀{k h h' c},c≠i1->c≠l1->Heap.ExtBut c h h'->P1 k h->P1 k h':=fun n1 n2 hs p=>S1.keep _ _ _ p fun b hb o e=>hs b o (by rcases hb with rfl | rfl;exact n1.symm;exact n2.symm) e
  have kp2:∀{k h h' c},c≠i2->c≠l2->Heap.ExtBut c h h'->P2 k h->P2 k h':=fun n1 n2 hs p=>S2.keep _ _ _ p fun b hb o e=>hs b o (by rcases hb with rfl | rfl;exact n1.symm;exact n2.symm) e
  show wpAny _ _ (field (.ref z) 2 >>= _) _ _ _
  refine wpAny_bind (wpAny_field hz rfl (x:=.bool false) rfl ?_)
  show wpAny _ _ (field (.ref z) 3 >>= _) _ _ _
  refine wpAny_bind (wpAny_field hz rfl (x:=.ref TI) rfl ?_)
  refine wpAny_bind (wpAny_seqItems hTI rfl ?_)
  show wpAny _ _ (Builtin.SmallTypes.ownedTupleIsFree (.ref z) >>= _) _ _ _
  refine wpAny_bind ?_
  unfold Builtin.SmallTypes.ownedTupleIsFree
  refine wpAny_bind (wpAny_field hz rfl (x:=.none) rfl (wpAny_pure ?_))
  simp only [if_true]
  refine wpAny_bind (wpAny_rule ?_)
  refine wpAny_bind (wpAny_field hz rfl (x:=.ref TO) rfl ?_)
  refine wpAny_bind (wpAny_setField_rec hz (by simp) fun h₁ hz₁ hs₁=>?_)
  replace hz₁:IsZip h₁ z TI TO .ellipsis:=hz₁
  refine wpAny_bind ?_
  simp only [List.zipIdx_cons,List.zipIdx_nil,List.forIn_cons,List.forIn_nil]
  refine wpAny_bind (wpAny_bind (wpAny_onRaise ?_))
  show wpAny _ _ (Builtin.SmallTypes.nextOf (.ref i1) >>= _) _ _ _
  refine wpAny_bind (S1.item _ _ _ k x _ (kp1 D.i1z.symm D.l1z.symm hs₁.extBut h1) hx fun h₂ h1₂ hs₂=>wpAny_pure ?_)
  have hTO₂:IsPair h₂ TO a b:=hs₂.extBut _ _ D.TOi1 (hs₁.extBut _ _ D.TOz hTO)
  refine wpAny_bind (wpAny_seqItems hTO₂ rfl ?_)
  refine wpAny_bind (wpAny_updateSeq_pair hTO₂ fun h₃ hTO₃ hs₃=>?_)
  replace hTO₃:IsPair h₃ TO x b:=hTO₃
  refine wpAny_bind (wpAny_letGo (wpAny_pure ?_))
  refine wpAny_bind (wpAny_bind (wpAny_onRaise ?_))
  show wpAny _ _ (Builtin.SmallTypes.nextOf (.ref i2) >>= _) _ _ _
  refine wpAny_bind (S2.item _ _ _ k y _ (kp2 D.TOi2 D.l2TO.symm hs₃.extBut (kp2 D.i12 D.l2i1.symm hs₂.extBut (kp2 D.i2z.symm D.l2z.symm hs₁.extBut h2))) hy fun h₄ h2₄ hs₄=>wpAny_pure ?_)
  have hTO₄:IsPair h₄ TO x b:=hs₄.extBut _ _ D.TOi2 hTO₃
  refine wpAny_bind (wpAny_seqItems hTO₄ rfl ?_)
  refine wpAny_bind (wpAny_updateSeq_pair hTO₄ fun h₅ hTO₅ hs₅=>?_)
  replace hTO₅:IsPair h₅ TO x y:=hTO₅
  refine wpAny_bind (wpAny_letGo (wpAny_pure (wpAny_pure ?_)))
  refine wpAny_bind (wpAny_seqItems hTO₅ rfl ?_)
  refine wpAny_bind (wpAny_newTuple ?_)
  have hsz:h₅.objs.size=s.heap.objs.size:=by rw[hs₅.1,hs₄.1,hs₃.1,hs₂.1,hs₁.1]
  have hz₅:IsZip h₅ z TI TO .ellipsis:=hs₅.extBut _ _ D.TOz.symm (hs₄.extBut _ _ D.i2z.symm (hs₃.extBut _ _ D.TOz.symm (hs₂.extBut _ _ D.i1z.symm hz₁)))
  have hk₅:∀c o,c≠z->c≠TO->c≠i1->c≠i2->s.heap.get? c=some o->h₅.get? c=some o:=fun c o c1 c2 c3 c4 e =>
    hs₅.extBut _ _ c2 (hs₄.extBut _ _ c4 (hs₃.extBut _ _ c2 (hs₂.extBut _ _ c3 (hs₁.extBut _ _ c1 e))))
  have h1₅:P1 (k+1) h₅:=kp1 D.TOi1 D.l1TO.symm hs₅.extBut (kp1 D.i12.symm D.l1i2.symm hs₄.extBut (kp1 D.TOi1 D.l1TO.symm hs₃.extBut h1₂))
  have h2₅:P2 (k+1) h₅:=kp2 D.TOi2 D.l2TO.symm hs₅.extBut h2₄
  have hzlt:z < h₅.objs.size:=Heap.lt_size hz₅
  show wpAny _ _ (Builtin.SmallTypes.ownedTupleHandOut (.ref z) (.ref h₅.objs.size) >>= _) _ _ _
  refine wpAny_bind ?_
  unfold Builtin.SmallTypes.ownedTupleHandOut
  have hz₆:IsZip (h₅.push { cls:=.type "tuple",data:=.seq #[x,y] }) z TI TO .ellipsis:=Heap.get?_push_of_some _ hz₅
  refine wpAny_bind (wpAny_setField_rec hz₆ (by simp) fun h₇ hz₇ hs₇=>?_)
  replace hz₇:IsZip h₇ z TI TO (rawInt h₅.objs.size):=hz₇
  refine wpAny_setField_rec hz₇ (by simp) fun h₈ hz₈ hs₈=>?_
  replace hz₈:IsZip h₈ z TI TO (rawInt h₅.objs.size):=hz₈
  have up:∀c o,c≠z->h₅.get? c=some o->h₈.get? c=some o:=fun c o c1 e=>hs₈.extBut _ _ c1 (hs₇.extBut _ _ c1 (Heap.get?_push_of_some _ e))
  have hT₈:IsPair h₈ h₅.objs.size x y:=hs₈.extBut _ _ (Nat.ne_of_gt hzlt) (hs₇.extBut _ _ (Nat.ne_of_gt hzlt) (Heap.get?_push_size _ rfl))
  have hz8:h₈.objs.size=h₅.objs.size+1:=by rw[hs₈.1,hs₇.1,Heap.size_push]
  rw[hsz] at hz₈ hT₈ hz8
  refine wpAny_pure ⟨_,rfl,?_⟩
  show Q (.ref h₅.objs.size) _
  rw[hsz]
  exact hQ h₈ hz₈ (up _ _ D.TOz hTO₅) (S1.keep _ _ _ h1₅ fun b hb o e=>up b o (by rcases hb with rfl | rfl;exact D.i1z;exact D.l1z) e) (S2.keep _ _ _ h2₅ fun b hb o e=>up b o (by rcases hb with rfl | rfl;exact D.i2z;exact D.l2z) e) hT₈ hz8 fun c o c1 c2 c3 c4 e=>up c o c1 (hk₅ c o c1 c2 c3 c4 e)
theorem Cb {k:Nat}{a b:Value}{Q:Fin->Shared->Prop}(hh:A.handled=none)(D:ZipApart z TI TO i1 i2 l1 l2)(S1:l9 prog w i1 l1 xs P1)(S2:l9 prog w i2 l2 ys P2)
    (hz:IsZip s.heap z TI TO .none) (hTI:IsPair s.heap TI (.ref i1) (.ref i2)) (hTO:IsPair s.heap TO a b) (h1:P1 k s.heap) (h2:P2 k s.heap) (hend:xs[k]?=none\/ys[k]?=none)
    (hE:∀h' e,(∀c o,c≠z->c≠TO->c≠i1->c≠i2->s.heap.get? c=some o->h'.get? c=some o)->(∃o,h'.get? e=some o/\o.cls=.type "StopIteration")->E (.ref e) { s with heap:=h' }) :
    wpAny (model prog w) A (Builtin.«zip.__next__» ⟨[.ref z],[]⟩) Q E s:=by
  have kp1:∀{k h h' c},c≠i1->c≠l1->Heap.ExtBut c h h'->P1 k h->P1 k h':=fun n1 n2 hs p=>S1.keep _ _ _ p fun b hb o e=>hs b o (by rcases hb with rfl | rfl;exact n1.symm;exact n2.symm) e
  have kp2:∀{k h h' c},c≠i2->c≠l2->Heap.ExtBut c h h'->P2 k h->P2 k h':=fun n1 n2 hs p=>S2.keep _ _ _ p fun b hb o e=>hs b o (by rcases hb with rfl | rfl;exact n1.symm;exact n2.symm) e
  show wpAny _ _ (field (.ref z) 2 >>= _) _ _ _
  refine wpAny_bind (wpAny_field hz rfl (x:=.bool false) rfl ?_)
  show wpAny _ _ (field (.ref z) 3 >>= _) _ _ _
  refine wpAny_bind (wpAny_field hz rfl (x:=.ref TI) rfl ?_)
  refine wpAny_bind (wpAny_seqItems hTI rfl ?_)
  show wpAny _ _ (Builtin.SmallTypes.ownedTupleIsFree (.ref z) >>= _) _ _ _
  refine wpAny_bind ?_
  unfold Builtin.SmallTypes.ownedTupleIsFree
  refine wpAny_bind (wpAny_field hz rfl (x:=.none) rfl (wpAny_pure ?_))
  simp only [if_true]
  refine wpAny_bind (wpAny_rule ?_)
  refine wpAny_bind (wpAny_field hz rfl (x:=.ref TO) rfl ?_)
  refine wpAny_bind (wpAny_setField_rec hz (by simp) fun h₁ hz₁ hs₁=>?_)
  replace hz₁:IsZip h₁ z TI TO .ellipsis:=hz₁
  refine wpAny_bind ?_
  simp only [List.zipIdx_cons,List.zipIdx_nil,List.forIn_cons,List.forIn_nil]
  refine wpAny_bind (wpAny_bind (wpAny_onRaise ?_))
  show wpAny _ _ (Builtin.SmallTypes.nextOf (.ref i1) >>= _) _ _ _
  cases hx:xs[k]? with
  | none =>
    refine wpAny_bind (S1.stop _ _ _ k _ hh (kp1 D.i1z.symm D.l1z.symm hs₁.extBut h1) hx fun h₂ e hs₂ he=>?_)
    obtain⟨oe,hoe,hce⟩:=he
    have hz₂:IsZip h₂ z TI TO .ellipsis:=hs₂ _ _ D.i1z.symm hz₁
    have hez:e≠z:=fun x=>by subst x;rw[hz₂] at hoe;cases hoe;simp at hce
    refine wpAny_setField_rec hz₂ (by simp) fun h₃ _ hs₃=>hE h₃ e (fun c o c1 _ c3 _ x=>hs₃.extBut _ _ c1 (hs₂ _ _ c3 (hs₁.extBut _ _ c1 x))) ⟨oe,hs₃.extBut _ _ hez hoe,hce⟩
  | some x =>
    have hy:ys[k]?=none:=by rcases hend with h | h;rw[hx] at h;cases h;exact h
    refine wpAny_bind (S1.item _ _ _ k x _ (kp1 D.i1z.symm D.l1z.symm hs₁.extBut h1) hx fun h₂ h1₂ hs₂=>wpAny_pure ?_)
    have hTO₂:IsPair h₂ TO a b:=hs₂.extBut _ _ D.TOi1 (hs₁.extBut _ _ D.TOz hTO)
    refine wpAny_bind (wpAny_seqItems hTO₂ rfl ?_)
    refine wpAny_bind (wpAny_updateSeq_pair hTO₂ fun h₃ hTO₃ hs₃=>?_)
    refine wpAny_bind (wpAny_letGo (wpAny_pure ?_))
    refine wpAny_bind (wpAny_bind (wpAny_onRaise ?_))
    show wpAny _ _ (Builtin.SmallTypes.nextOf (.ref i2) >>= _) _ _ _
    refine wpAny_bind (S2.stop _ _ _ k _ hh (kp2 D.TOi2 D.l2TO.symm hs₃.extBut (kp2 D.i12 D.l2i1.symm hs₂.extBut (kp2 D.i2z.symm D.l2z.symm hs₁.extBut h2))) hy fun h₄ e hs₄ he=>?_)
    obtain⟨oe,hoe,hce⟩:=he
    have hz₄:IsZip h₄ z TI TO .ellipsis:=hs₄ _ _ D.i2z.symm (hs₃.extBut _ _ D.TOz.symm (hs₂.extBut _ _ D.i1z.symm hz₁))
    have hez:e≠z:=fun x=>by subst x;rw[hz₄] at hoe;cases hoe;simp at hce
    refine wpAny_setField_rec hz₄ (by simp) fun h₅ _ hs₅=>hE h₅ e (fun c o c1 c2 c3 c4 x=>hs₅.extBut _ _ c1 (hs₄ _ _ c4 (hs₃.extBut _ _ c2 (hs₂.extBut _ _ c3 (hs₁.extBut _ _ c1 x))))) ⟨oe,hs₅.extBut _ _ hez hoe,hce⟩
theorem yc {k:Nat}{x y a b:Value}{Q:Option Value->Shared->Prop}(D:ZipApart z TI TO i1 i2 l1 l2)(S1:l9 prog w i1 l1 xs P1)(S2:l9 prog w i2 l2 ys P2)
    (hz:IsZip s.heap z TI TO .none) (hTI:IsPair s.heap TI (.ref i1) (.ref i2)) (hTO:IsPair s.heap TO a b) (h1:P1 k s.heap) (h2:P2 k s.heap) (hx:xs[k]?=some x) (hy:ys[k]?=some y)
    (hQ:∀h',IsZip h' z TI TO (rawInt s.heap.objs.size)->IsPair h' TO x y->P1 (k+1) h'->P2 (k+1) h'->IsPair h' s.heap.objs.size x y->h'.objs.size=s.heap.objs.size+1 ->
      (∀c o,c≠z->c≠TO->c≠i1->c≠i2->s.heap.get? c=some o->h'.get? c=some o)->Q (some (.ref s.heap.objs.size)) { s with heap:=h' }) :
    wpAny (model prog w) A (pyNext (.ref z)) Q E s:=by
  have hT:s.TypeIs (.ref z) "zip" := ⟨_,hz,rfl⟩
  unfold pyNext
  exact wpAny_bind (wpAny_attempt (wpAny_callSpecial?_slot (name:=Str.ofString "__next__") hT F.slot_zip_next
    (wpAny_call_entry F.slot_zip_next hT F.entry_zip_next
      (Au D S1 S2 hz hTI hTO h1 h2 hx hy fun h' a1 a2 a3 a4 a5 a6 a7=>wpAny_pure (hQ h' a1 a2 a3 a4 a5 a6 a7)) (F.args_zip_next_1 _))))
theorem Av {k:Nat}{a b:Value}{Q:Option Value->Shared->Prop}(hh:A.handled=none)(D:ZipApart z TI TO i1 i2 l1 l2)(S1:l9 prog w i1 l1 xs P1)(S2:l9 prog w i2 l2 ys P2)
    (hz:IsZip s.heap z TI TO .none) (hTI:IsPair s.heap TI (.ref i1) (.ref i2)) (hTO:IsPair s.heap TO a b) (h1:P1 k s.heap) (h2:P2 k s.heap) (hend:xs[k]?=none\/ys[k]?=none)
    (hQ:∀h',(∀c o,c≠z->c≠TO->c≠i1->c≠i2->s.heap.get? c=some o->h'.get? c=some o)->Q none { s with heap:=h' }):wpAny (model prog w) A (pyNext (.ref z)) Q E s:=by
  have hT:s.TypeIs (.ref z) "zip" := ⟨_,hz,rfl⟩
  unfold pyNext
  refine wpAny_bind (wpAny_attempt (wpAny_callSpecial?_slot (name:=Str.ofString "__next__") hT F.slot_zip_next
    (wpAny_call_entry F.slot_zip_next hT F.entry_zip_next (Cb hh D S1 S2 hz hTI hTO h1 h2 hend fun h' e hk he=>?_) (F.args_zip_next_1 _))))
  obtain⟨o,ho,hc⟩:=he
  refine wpAny_bind (wpAny_isInstance (T := "StopIteration") (b:=true) ⟨o,ho,hc⟩ isSubtype_stop ?_)
  exact wpAny_pure (hQ _ hk)
theorem yd (l1 l2:Addr)(o1 o2:Obj)(C1 C2:Heap->Prop)(k1:∀h o,C1 h->C1 (h.push o))(k2:∀h o,C2 h->C2 (h.push o))
    (it1:∀(prog:Program) (w:World) (A:Around) (E:Value->Shared->Prop) (s:Shared) (Q:Value->Shared->Prop),C1 s.heap->Q (.ref s.heap.objs.size) { s with heap:=s.heap.push o1 }->wpAny (model prog w) A (pyIter (.ref l1)) Q E s)
    (it2:∀(prog:Program) (w:World) (A:Around) (E:Value->Shared->Prop) (s:Shared) (Q:Value->Shared->Prop),C2 s.heap->Q (.ref s.heap.objs.size) { s with heap:=s.heap.push o2 }->wpAny (model prog w) A (pyIter (.ref l2)) Q E s) :
    Meets (Builtin.«zip.__new__» ⟨[.type "zip",.ref l1,.ref l2],[]⟩) (fun _ R s=>C1 s.heap/\C2 s.heap ∧
      R (.ok (.ret (.ref ((((s.heap.push o1).push o2).push { cls:=.type "tuple",data:=.seq #[.ref s.heap.objs.size,.ref (s.heap.push o1).objs.size] }).push { cls:=.type "tuple",data:=.seq #[.none,.none] }).objs.size)))
        { s with heap:=((((s.heap.push o1).push o2).push { cls:=.type "tuple",data:=.seq #[.ref s.heap.objs.size,.ref (s.heap.push o1).objs.size] }).push { cls:=.type "tuple",data:=.seq #[.none,.none] }).push { cls:=.type "zip",data:=.fields #[.none,.bool false,.bool false,.ref ((s.heap.push o1).push o2).objs.size,.ref (((s.heap.push o1).push o2).push { cls:=.type "tuple",data:=.seq #[.ref s.heap.objs.size,.ref (s.heap.push o1).objs.size] }).objs.size] } }) :=
  .of_wp fun prog w A R s h=>by
    obtain⟨hp,g,d,tk,os⟩:=s;obtain⟨c1,c2,h⟩:=h
    have hsub:=sub_zip
    have i1:=fun (A:Around) (E:Value->Shared->Prop) (Q:Value->Shared->Prop)=>it1 prog w A E ⟨hp,g,d,tk,os⟩ Q c1
    have i2:=fun (A:Around) (E:Value->Shared->Prop) (Q:Value->Shared->Prop)=>it2 prog w A E ⟨hp.push o1,g,d,tk,os⟩ Q (k2 _ _ c2)
    wp_walk using i1 _ _ _,i2 _ _ _
    exact⟨_,rfl,h⟩
end
end PySem

set_option maxHeartbeats 4000000
namespace L2
open PySem PySem.Spec PyProof.Rows
def sqB (b:Bool)(K:W.Frag)(H:Hp)(l:Addr)(xs:List V): Prop:=match b with
  | true=>SqT K H l xs
  | false=>SqL K H l xs
def itB (b:Bool)(h:Heap)(i l:Addr)(k:Nat): Prop:=match b with
  | true=>h.IsTupleIter i l k
  | false=>h.IsListIter i l k
def ctB (b:Bool)(h:Heap)(l:Addr)(xs:Array Value): Prop:=match b with
  | true=>h.IsTuple l xs
  | false=>h.IsList l xs
def itO (b:Bool)(l:Addr): Obj:={ cls:=.type (if b then "tuple_iterator" else "list_iterator"),data:=.fields #[.ref l,.int 0 0] }
theorem DM {prog:Program}{w:World}{i l:Addr}(b:Bool)(ne:l≠i)(xs:Array Value): l9 prog w i l xs fun k h=>itB b h i l k/\ctB b h l xs:=by
  cases b
  · exact l9.list ne xs
  · exact l9.tup ne xs
theorem itB.obj {b:Bool}{h:Heap}{i l:Addr}{k:Nat}(x:itB b h i l k): ∃o,h.get? i=some o/\∀v,o.data≠.cell v:=by
  cases b
  · obtain⟨o,e,c,d⟩:=x;exact⟨o,e,fun v z=>by rw[d] at z;cases z⟩
  · obtain⟨o,e,c,d⟩:=x;exact⟨o,e,fun v z=>by rw[d] at z;cases z⟩
theorem itB.at {b:Bool}{h h':Heap}{i l:Addr}{k:Nat}(x:itB b h i l k)(e:∀o,h.get? i=some o->h'.get? i=some o): itB b h' i l k:=by
  cases b
  · exact Heap.IsListIter.at x e
  · exact Heap.IsTupleIter.at x e
theorem ctB.at {b:Bool}{h h':Heap}{l:Addr}{xs:Array Value}(x:ctB b h l xs)(e:∀o,h.get? l=some o->h'.get? l=some o): ctB b h' l xs:=by
  cases b
  · exact Heap.IsList.at x e
  · exact Heap.IsTuple.at x e
theorem ctB.lt {b:Bool}{h:Heap}{l:Addr}{xs:Array Value}(x:ctB b h l xs): l < h.objs.size:=by
  cases b
  · obtain⟨o,e,_⟩:=x;exact Heap.lt_size e
  · obtain⟨o,e,_⟩:=x;exact Heap.lt_size e
theorem Cd {b:Bool}{h:Heap}{i l:Addr}(e:h.get? i=some (itO b l)): itB b h i l 0:=by
  cases b
  · exact⟨_,e,rfl,rfl⟩
  · exact⟨_,e,rfl,rfl⟩
theorem Es {b:Bool}{l:Addr}{xs:Array Value}(prog:Program)(w:World)(A:Around)(E:Value->Shared->Prop)(s:Shared)(Q:Value->Shared->Prop)(x:ctB b s.heap l xs)(q:Q (.ref s.heap.objs.size) { s with heap:=s.heap.push (itO b l) }):
    wpAny (model prog w) A (pyIter (.ref l)) Q E s:=by
  cases b
  · exact wpAny_pyIter_list x q
  · exact wpAny_pyIter_tuple x q
section
variable {X:Cx}{pins:List (Addr×Obj)}{σ:St}{H:Hp}{s:Shared}
theorem Inv.Aw (I:Inv X pins σ H s){b:Bool}{l:Addr}{xs:List V}(h:sqB b X.K H l xs): ∃its:List Value,Vals xs its/\ctB b s.heap l its.toArray/\xs.length<=sizeLine:=by
  cases b
  · obtain⟨its,r,p,z⟩:=I.list h;exact⟨its,r,p.isList,z⟩
  · obtain⟨its,r,p,z⟩:=I.tuple h;exact⟨its,r,p,z⟩
theorem Inv.Gn (I:Inv X pins σ H s){b:Bool}{l:Addr}{xs ys:List V}(h:sqB b X.K H l xs)(h':sqB b X.K H l ys): xs=ys:=by
  cases b
  · exact I.wg h h'
  · exact I.oa h h'
theorem Inv.uU {h':Heap}{t':Nat}{ch:List Addr}(I:Inv X pins σ H s)(k:∀b o,b∉ch->s.heap.get? b=some o->h'.get? b=some o)(f:∀b∈ch,pL X pins H b): Inv X pins σ H { s with heap:=h',toks:=t' }:=by
  have nit:∀b u,H b=some u->b∉ch:=fun b u e z=>by rw[(f b z).1] at e;cases e
  refine I.step (g':=s.gens) (d':=s.drawn) (ch:=ch) (fun b hb=>?_) (fun b o _ _ hc e _=>k b o hc e) (fun b o _ _ hc e _=>⟨o.slots,k b o hc e⟩) (fun _ _ _ _ n=>n)
    (fun b o hc e=>⟨o,k b o hc e⟩) (fun _ _ e=>e) (fun _ _ _ e=>e) (fun b ps e=>⟨#[],by rw[e];simp⟩) (fun m hm=>?_) (fun b u e=>?_) I.bare
  · obtain⟨f0,f1,f2,f3,f4,f5⟩:=f b hb
    exact⟨f3,f1,f4,f5⟩
  · obtain⟨o,es,ep,ho,r⟩:=hm
    exact⟨o,es,ep,k _ o (fun z=>(f _ z).2.1 rfl) ho,r⟩
  · refine(I.hok b u e).stay (fun c v hc q=>k c v ?_ q) (fun _ q=>q) fun _ _ q=>q
    rcases hc with z | z
    · rw[z];exact nit b u e
    · exact nit c _ z
end
def Itz (b1 b2:Bool)(K:W.Frag)(l1 l2:Addr): It :=
  ⟨fun i H=>∃xs ys,sqB b1 K H l1 xs/\sqB b2 K H l2 ys/\i < xs.length/\i < ys.length,
   fun i H v H'=>∃T,v=.ref T/\H T=none/\∀xs ys x y,sqB b1 K H l1 xs->sqB b2 K H l2 ys->xs[i]?=some x->ys[i]?=some y->H'=upd H T (.tup [x,y]),
   fun i H=>∃xs ys,sqB b1 K H l1 xs/\sqB b2 K H l2 ys/\(xs.length<=i\/ys.length<=i)⟩
def ZAt (b1 b2:Bool)(z TI TO i1 i2 l1 l2:Addr)(i:Nat)(h:Heap): Prop:=IsZip h z TI TO .none/\IsPair h TI (.ref i1) (.ref i2)/\(∃a b,IsPair h TO a b)/\itB b1 h i1 l1 i/\itB b2 h i2 l2 i
theorem Ce {P:Program}{w:World}{K:W.Frag}{elts:List Expr}{kk}{pos:Pos}(b1 b2:Bool)(z TI TO i1 i2 l1 l2:Addr)(D:ZipApart z TI TO i1 i2 l1 l2):
    Turn P w K (.Tuple elts kk pos) (Itz b1 b2 K l1 l2) [z,TI,TO,i1,i2] z (ZAt b1 b2 z TI TO i1 i2 l1 l2) where
  mem:=by simp
  obj:=fun i h st b hb=>by
    obtain⟨hz,hTI,⟨a,c,hTO⟩,h1,h2⟩:=st
    simp only [List.mem_cons,List.not_mem_nil,or_false] at hb
    rcases hb with rfl | rfl | rfl | rfl | rfl
    · exact⟨_,hz,fun v z=>by cases z⟩
    · exact⟨_,hTI,fun v z=>by cases z⟩
    · exact⟨_,hTO,fun v z=>by cases z⟩
    · exact h1.obj
    · exact h2.obj
  keep:=fun i h h' st k=>by
    obtain⟨hz,hTI,⟨a,c,hTO⟩,h1,h2⟩:=st
    exact⟨k z (by simp) _ hz,k TI (by simp) _ hTI,⟨a,c,k TO (by simp) _ hTO⟩,h1.at fun o e=>k i1 (by simp) o e,h2.at fun o e=>k i2 (by simp) o e⟩
  item:=by
    intro X hP hw hK hc i pins s σ H E I hf st hg
    subst hP hw hK
    obtain⟨xs,ys,q1,q2,l1',l2'⟩:=hg
    obtain⟨DN,r1,c1,z1⟩:=I.Aw q1
    obtain⟨its2,r2,c2,z2⟩:=I.Aw q2
    obtain⟨hz,hTI,⟨a,c,hTO⟩,h1,h2⟩:=st
    have ex:xs[i]?=some xs[i]:=List.getElem?_eq_getElem l1'
    have ey:ys[i]?=some ys[i]:=List.getElem?_eq_getElem l2'
    obtain⟨u,hu,ru⟩:=r1.get ex
    obtain⟨v,hv,rv⟩:=r2.get ey
    refine yc D (DM b1 D.l1i1 DN.toArray) (DM b2 D.l2i2 its2.toArray) hz hTI hTO ⟨h1,c1⟩ ⟨h2,c2⟩ (x:=u) (y:=v) (by simpa using hu) (by simpa using hv) fun h' a1 a2 a3 a4 a5 a6 hk=>?_
    refine⟨_,rfl,wpAny_letOwnedTupleGo_zip (s:={ s with heap:=h' }) a1 fun h'' hz'' sb=>?_⟩
    have nT:∀b∈[z,TI,TO,i1,i2],s.heap.objs.size≠b:=fun b hb e=>by
      simp only [List.mem_cons,List.not_mem_nil,or_false] at hb
      rcases hb with rfl | rfl | rfl | rfl | rfl
      · exact Nat.lt_irrefl _ (e ▸ Heap.lt_size hz)
      · exact Nat.lt_irrefl _ (e ▸ Heap.lt_size hTI)
      · exact Nat.lt_irrefl _ (e ▸ Heap.lt_size hTO)
      · obtain⟨_,q,_⟩:=h1.obj;exact Nat.lt_irrefl _ (e ▸ Heap.lt_size q)
      · obtain⟨_,q,_⟩:=h2.obj;exact Nat.lt_irrefl _ (e ▸ Heap.lt_size q)
    have kp:∀b o,b∉[z,TO,i1,i2]->s.heap.get? b=some o->h''.get? b=some o:=fun b o hb e=>by
      simp only [List.mem_cons,List.not_mem_nil,or_false,not_or] at hb
      exact sb.extBut b o hb.1 (hk b o hb.1 hb.2.1 hb.2.2.1 hb.2.2.2 e)
    have I1:Inv X pins σ H { s with heap:=h'' }:=I.uU (t':=s.toks) (ch:=[z,TO,i1,i2]) kp fun b hb=>hf b (by
      simp only [List.mem_cons,List.not_mem_nil,or_false] at hb ⊢
      rcases hb with z | z | z | z<;>simp[z])
    have T'':IsPair h'' s.heap.objs.size u v:=sb.extBut _ _ (nT z (by simp)) a5
    have hfree:H s.heap.objs.size=none:=I.hok.fresh (Nat.le_refl _)
    have I2:Inv X pins σ (upd H s.heap.objs.size (.tup [xs[i],ys[i]])) { s with heap:=h'' }:=by
      have Im:Inv X pins σ (upd H s.heap.objs.size (.tup [xs[i],ys[i]])) { s with heap:=s.heap.push { cls:=.type "tuple",data:=.seq #[u,v] } }:=I.laid (t':=s.toks) (fun b o e=>Heap.get?_push_of_some _ e) (Nat.le_refl _)
        (show bJ X.prog X.w _ _ _ (.tup [xs[i],ys[i]]) from ⟨aS (by show 2<=1000;decide),[u,v],.cons ru (.cons rv .nil),⟨_,Heap.get?_push_size _ rfl,rfl,_,rfl⟩⟩)
      refine Inv.uU (s:={ s with heap:=s.heap.push { cls:=.type "tuple",data:=.seq #[u,v] } }) (t':=s.toks) (ch:=[z,TO,i1,i2]) Im (fun b o hb e=>?_) fun b hb=>?_
      · rcases Heap.get?_push_cases e with ⟨rfl,rfl⟩ | e
        · exact T''
        · exact kp b o hb e
      · have hb':b∈[z,TI,TO,i1,i2]:=by
          simp only [List.mem_cons,List.not_mem_nil,or_false] at hb ⊢
          rcases hb with z | z | z | z<;>simp[z]
        obtain⟨f0,f1⟩:=hf b hb'
        exact⟨by rw[av (nT b hb').symm];exact f0,f1⟩
    refine⟨.ref s.heap.objs.size,_,I2,rfl,⟨_,rfl,hfree,fun xs' ys' x' y' e1 e2 e3 e4=>?_⟩,⟨hz'',sb.extBut _ _ D.TIz (hk _ _ D.TIz D.TITO D.TIi1 D.TIi2 hTI),⟨u,v,sb.extBut _ _ D.TOz a2⟩,a3.1.at fun o e=>sb.extBut _ _ D.i1z e,a4.1.at fun o e=>sb.extBut _ _ D.i2z e⟩,fun b hb=>?_⟩
    · rw[I.Gn e1 q1,ex] at e3
      rw[I.Gn e2 q2,ey] at e4
      cases e3;cases e4;rfl
    · rw[av (nT b hb).symm];exact(hf b hb).1
  done:=by
    intro X hP hw hK hc i pins s σ H E I hf st hg
    subst hP hw hK
    obtain⟨xs,ys,q1,q2,hl⟩:=hg
    obtain⟨DN,r1,c1,z1⟩:=I.Aw q1
    obtain⟨its2,r2,c2,z2⟩:=I.Aw q2
    obtain⟨hz,hTI,⟨a,c,hTO⟩,h1,h2⟩:=st
    have e1:=r1.length
    have e2:=r2.length
    refine Av (I.ok.hd hc) D (DM b1 D.l1i1 DN.toArray) (DM b2 D.l2i2 its2.toArray) hz hTI hTO ⟨h1,c1⟩ ⟨h2,c2⟩ (by
      rcases hl with h | h
      · exact .inl (by rw[Array.getElem?_eq_none];simp;omega)
      · exact .inr (by rw[Array.getElem?_eq_none];simp;omega)) fun h' hk=>⟨rfl,I.uU (t':=s.toks) (ch:=[z,TO,i1,i2]) (fun b o hb e=>by
        simp only [List.mem_cons,List.not_mem_nil,or_false,not_or] at hb
        exact hk b o hb.1 hb.2.1 hb.2.2.1 hb.2.2.2 e) fun b hb=>hf b (by
        simp only [List.mem_cons,List.not_mem_nil,or_false] at hb ⊢
        rcases hb with z | z | z | z<;>simp[z])⟩
  self:=fun _ _ _ _ _ st h=>wpAny_pyIter_zip st.1 h
theorem Ax {prog:Program}{w:World}{A:Around}{E:Value->Shared->Prop}{s:Shared}{b1 b2:Bool}{l1 l2:Addr}{xs ys:Array Value}{Q:Value->Shared->Prop}(c1:ctB b1 s.heap l1 xs)(c2:ctB b2 s.heap l2 ys)
    (h:∀h',ZAt b1 b2 (s.heap.objs.size+4) (s.heap.objs.size+2) (s.heap.objs.size+3) s.heap.objs.size (s.heap.objs.size+1) l1 l2 0 h'->(∀c o,s.heap.get? c=some o->h'.get? c=some o)->Q (.ref (s.heap.objs.size+4)) { s with heap:=h' }) :
    wpAny (model prog w) A (call (.type "zip") [.ref l1,.ref l2]) Q E s:=by
  refine callType_new F.called_zip (by decide) (F.typeCall_zip_2 _ _) (F.newCall_zip_2 _ _) (fun obj=>F.args_object_init_3 obj _ _) F.entry_zip_new
    (yd l1 l2 (itO b1 l1) (itO b2 l2) (fun h=>ctB b1 h l1 xs) (fun h=>ctB b2 h l2 ys) (fun h o x=>x.at fun o' e=>Heap.get?_push_of_some _ e) (fun h o x=>x.at fun o' e=>Heap.get?_push_of_some _ e) (fun prog w A E s Q x q=>Es prog w A E s Q x q) (fun prog w A E s Q x q=>Es prog w A E s Q x q)) ⟨c1,c2,?_⟩
  generalize hh1:s.heap.push (itO b1 l1)=H1
  have z1:H1.objs.size=s.heap.objs.size+1:=by rw[<-hh1];exact Heap.size_push ..
  have e1:H1.get? s.heap.objs.size=some (itO b1 l1):=by rw[<-hh1];exact Heap.get?_push_size _ rfl
  have k1:∀c o,s.heap.get? c=some o->H1.get? c=some o:=fun c o e=>by rw[<-hh1];exact Heap.get?_push_of_some _ e
  generalize hh2:H1.push (itO b2 l2)=H2
  have z2:H2.objs.size=s.heap.objs.size+2:=by rw[<-hh2,Heap.size_push,z1]
  have e2:H2.get? (s.heap.objs.size+1)=some (itO b2 l2):=by rw[<-hh2,<-z1];exact Heap.get?_push_size _ rfl
  have k2:∀c o,H1.get? c=some o->H2.get? c=some o:=fun c o e=>by rw[<-hh2];exact Heap.get?_push_of_some _ e
  rw[z1]
  generalize hh3:H2.push { cls:=.type "tuple",data:=.seq #[.ref s.heap.objs.size,.ref (s.heap.objs.size+1)] }=H3
  have z3:H3.objs.size=s.heap.objs.size+3:=by rw[<-hh3,Heap.size_push,z2]
  have e3:IsPair H3 (s.heap.objs.size+2) (.ref s.heap.objs.size) (.ref (s.heap.objs.size+1)):=by rw[<-hh3,<-z2];exact Heap.get?_push_size _ rfl
  have k3:∀c o,H2.get? c=some o->H3.get? c=some o:=fun c o e=>by rw[<-hh3];exact Heap.get?_push_of_some _ e
  generalize hh4:H3.push { cls:=.type "tuple",data:=.seq #[.none,.none] }=H4
  have z4:H4.objs.size=s.heap.objs.size+4:=by rw[<-hh4,Heap.size_push,z3]
  have e4:IsPair H4 (s.heap.objs.size+3) .none .none:=by rw[<-hh4,<-z3];exact Heap.get?_push_size _ rfl
  have k4:∀c o,H3.get? c=some o->H4.get? c=some o:=fun c o e=>by rw[<-hh4];exact Heap.get?_push_of_some _ e
  rw[z2,z3,z4]
  have e5:IsZip (H4.push { cls:=.type "zip",data:=.fields #[.none,.bool false,.bool false,.ref (s.heap.objs.size+2),.ref (s.heap.objs.size+3)] }) (s.heap.objs.size+4) (s.heap.objs.size+2) (s.heap.objs.size+3) .none:=by rw[<-z4];exact Heap.get?_push_size _ rfl
  have k5:∀c o,H4.get? c=some o->(H4.push { cls:=.type "zip",data:=.fields #[.none,.bool false,.bool false,.ref (s.heap.objs.size+2),.ref (s.heap.objs.size+3)] }).get? c=some o:=fun c o e=>Heap.get?_push_of_some _ e
  exact⟨⟨_,e5,rfl⟩,h _ ⟨e5,k5 _ _ (k4 _ _ e3),⟨_,_,k5 _ _ e4⟩,Cd (k5 _ _ (k4 _ _ (k3 _ _ (k2 _ _ e1)))),Cd (k5 _ _ (k4 _ _ (k3 _ _ e2)))⟩ fun c o e=>k5 _ _ (k4 _ _ (k3 _ _ (k2 _ _ (k1 _ _ e))))⟩
section
variable {X:Cx}{elts:List Expr}{kk:Nat}{tpos p pos:Pos}{e1 e2:Expr}{t1 t2:TE}
def Ho (b1 b2:Bool)(K:W.Frag)(t1 t2:TE): TI:=fun σ H R=>t1 σ H fun x H1=>t2 σ H1 fun y H2=>∃l1 l2 xs ys,x=.ref l1/\y=.ref l2/\sqB b1 K H2 l1 xs/\sqB b2 K H2 l2 ys/\R (Itz b1 b2 K l1 l2) H2
theorem Fn (b1 b2:Bool) (hg:Gl X "zip") (hm:X.mg "zip" = none) (h1:PE X e1 t1) (h2:PE X e2 t2) (hs:starEach [e1,e2] X.env=[(false,eval e1 X.env),(false,eval e2 X.env)]:=by rfl) (hs2:starEach [e2] X.env=[(false,eval e2 X.env)]:=by rfl) :
    PI X (.Tuple elts kk tpos) (.Call (.Name "zip" p) [e1,e2] [] pos) (Ho b1 b2 X.K t1 t2):=by
  intro pins s σ H R I h
  refine Call_ (gm I hg hm PyProof.Rows.Boot.«zip» (PyProof.Rows.callWith_type1 (thn (mQ h1 (mQ h2 af hs2) (by rw[hs,hs2]) pos pins s σ H (fun vs H1=>match vs with | [x,y]=>∃l1 l2 xs ys,x=.ref l1/\y=.ref l2/\sqB b1 X.K H1 l1 xs/\sqB b2 X.K H1 l2 ys/\R (Itz b1 b2 X.K l1 l2) H1 | _=>False) I h) fun us s1 ⟨vs,H1,I1,r1,q1⟩=>?_) (by rw[hs,hs2]) (by rw[hs2];rfl)))
  match vs,q1 with
  | [x,y],q1 =>
    obtain⟨l1,l2,xs,ys,rfl,rfl,q1,q2,q⟩:=q1
    cases r1 with
    | cons ra rr =>
      cases rr with
      | cons rb rr =>
        cases rr
        cases ra
        cases rb
        obtain⟨DN,v1,c1,z1⟩:=I1.Aw q1
        obtain⟨its2,v2,c2,z2⟩:=I1.Aw q2
        refine Ax c1 c2 fun h' za kp=>?_
        refine wpAny_pyIter_zip (s:={ s1 with heap:=h' }) za.1 ?_
        refine⟨s1.heap.objs.size+4,_,_,_,H1,rfl,I1.kept (t':=s1.toks) kp,Ce b1 b2 _ _ _ _ _ l1 l2 (W.ktu_apart _ _ _ c1.lt c2.lt),za,fun b hb=>?_,q⟩
        simp only [List.mem_cons,List.not_mem_nil,or_false] at hb
        have hle:s1.heap.objs.size<=b:=by
          rcases hb with rfl | rfl | rfl | rfl | rfl
          · exact Nat.le_add_right _ _
          · exact Nat.le_add_right _ _
          · exact Nat.le_add_right _ _
          · exact Nat.le_refl _
          · exact Nat.le_add_right _ _
        exact I1.sB hle (I1.hok.fresh hle)
end
theorem DP {K:W.Frag}{b1 b2:Bool}{l1 l2:Addr}{xs ys:List V}{g:TG}{tb:TS}{D:Ends}{σ:St}{H:Hp}(n:Nat)(hx:xs.length=n)(hy:ys.length=n)(Pv:Nat->St->Hp->Prop)(h0:Pv 0 σ H)(hl:∀i σ H,i<=n->Pv i σ H->sqB b1 K H l1 xs/\sqB b2 K H l2 ys)
    (hs:∀i x y σ H T,xs[i]?=some x->ys[i]?=some y->Pv i σ H->H T=none->g (.ref T) σ (upd H T (.tup [x,y])) fun σ2 H2=>tb { D with nx:=Pv (i+1),ct:=Pv (i+1),bk:=D.nx } σ2 H2) (hd:∀σ H,Pv n σ H->D.nx σ H) :
    ∃W:Nat->Nat->St->Hp->Prop,(∃m,W 0 m σ H)/\∀i m σ H,W i m σ H ->
      ((Itz b1 b2 K l1 l2).stop i H/\D.nx σ H)\/((Itz b1 b2 K l1 l2).go i H/\∃N:St->Hp->Prop,(∀σ' H',N σ' H'->∃m',m' < m/\W (i+1) m' σ' H')/\∀x H',(Itz b1 b2 K l1 l2).yld i H x H'->g x σ H' fun σ2 H2=>tb { D with nx:=N,ct:=N,bk:=D.nx } σ2 H2):=by
  refine⟨fun i m σ H=>m=n-i/\i<=n/\Pv i σ H,⟨n,by simp,Nat.zero_le _,h0⟩,?_⟩
  rintro i m σ H ⟨rfl,hi,p⟩
  have q:=hl i σ H hi p
  by_cases hlt:i < n
  · refine .inr ⟨⟨xs,ys,q.1,q.2,by omega,by omega⟩,Pv (i+1),fun σ' H' p'=>⟨n-(i+1),by omega,rfl,hlt,p'⟩,fun v H' y=>?_⟩
    obtain⟨T,rfl,hT,e⟩:=y
    have ex:xs[i]?=some (xs[i]'(by omega)):=List.getElem?_eq_getElem (by omega)
    have ey:ys[i]?=some (ys[i]'(by omega)):=List.getElem?_eq_getElem (by omega)
    rw[e xs ys _ _ q.1 q.2 ex ey]
    exact hs i _ _ σ H T ex ey p hT
  · have e:i=n:=by omega
    subst e
    exact .inl ⟨⟨xs,ys,q.1,q.2,.inl (by omega)⟩,hd σ H p⟩
section
variable {X:Cx}
end
end L2


set_option maxHeartbeats 4000000
namespace L2
open PySem PySem.Spec PyProof.Rows
section
variable {X:Cx}
end
section
variable {X:Cx}{k:Nat}{C:Addr}{ps:List Str}{sp:Sp}{dvs:List V}{E:St->XK}{x:Str}{p pos:Pos}
end
end L2

set_option maxHeartbeats 4000000
namespace L2
open PySem PySem.Spec PyProof.Rows
section
variable {prog:Program}{w:World}{A:Around}{E:Value->Shared->Prop}{s:Shared}
end
section
variable {X:Cx}
theorem Ay {v:V}{vs:List V}{us:List Value}(r:Vals (v::vs) us): ∃u us',us=u::us'/\RelV v u/\Vals vs us':=by
  cases r with
  | cons a b=>exact⟨_,_,rfl,a,b⟩
end
end L2

set_option maxHeartbeats 4000000
namespace L2
open PySem PySem.Spec PyProof.Rows
section
variable {X:Cx}
theorem DQ:OpR X (binaryOp .Mult) (fun x y H Q=>∃z n,x=.str z/\y=.int n/\z.length<=1000/\1<=n/\n<=1000/\Q (.str (Txt.mul z n)) H):=by
  intro pins s σ H x y v u Q I rx ry h
  obtain⟨z,n,rfl,rfl,hz,h1,h2,q⟩:=h
  obtain⟨t,rfl⟩:=rx
  obtain⟨t',rfl⟩:=ry
  refine SB.mul ⟨?_,fun _ _=>?_,fun _ _=>?_⟩ fun t' k=>⟨.str (Txt.mul z n),H,I.tok _,⟨_,rfl⟩,q⟩
  · rw[decide_eq_false (by omega),decide_eq_false (by omega)];rfl
  · have:2^50<=(2^63-1) / n:=by
      rw[Int.le_ediv_iff_mul_le (by omega)]
      omega
    omega
  · have:z.length*n.toNat<=1000*1000:=Nat.mul_le_mul hz (by omega)
    show decide (_ > sizeLine)=false
    rw[sizeLine_eq]
    exact decide_eq_false (by omega)
end
end L2

set_option maxHeartbeats 4000000
namespace L2
open PySem PySem.Spec PyProof.Rows
def Al (h:Heap)(_:List Value)(n:Str)(y:Option Value)(l:List Value): Prop:=∀(M:Model) (C:Addr) (bm:List Value),l=.ref C::bm->W.Looks M h (typeLookup (.ref C) n) y
theorem Al.keeps {h h':Heap}{bmB tl:List Value}{n:Str}{y:Option Value}(T:Al h bmB n y tl)(hk:∀b o,h.get? b=some o->h'.get? b=some o): Al h' bmB n y tl:=fun M C bm e=>(T M C bm e).keeps hk
theorem uk {K:W.Frag}{C:Addr}{n:Str}{y:Option Value}{bmB bm:List Value}(e:W.findIn K (.ref C) n=some y): ∀h:Heap,K.In h->Al h bmB n y (.ref C::bm):=fun h X M C' bm' q=>by
  cases q
  exact W.looks_findIn X e
section
variable {M:Model}{A:Around}{E:Value->Shared->Prop}{h:Heap}{g:Array GenState}{d:Drawn}{t:Nat}{os:OsState}
variable {nm q:Str}{C N:Addr}{bs bm bmB:List Value}{hdct:Bool}{sn:List Str}{sub:List Value}{ab:Bool}{col:Option Bool}{dd:Option Addr}{k0 k1 k2 k3 k5:Option Value}{B newId initId:String}
theorem Al.look {n:Str}{y:Option Value}{Q:Option Value->Shared->Prop}(hC:h.get? C=some (excClassObj nm q C N bs bm hdct sn sub ab col dd k0 k1 k2 k3 k5 newId))(T:Al h bmB n y (.ref C::bm))(hq:Q y ⟨h,g,d,t,os⟩):
    wpAny M A (typeLookup (.ref C) n) Q E ⟨h,g,d,t,os⟩:=(T M C bm rfl).at hq
def Hs (bmB bm:List Value): Prop:=∀X:String,bm.contains (.type X)=bmB.contains (.type X)
theorem Hs.has {X:String}{b:Bool}(T:Hs bmB bm)(hb:bmB.contains (.type X)=b): bm.contains (.type X)=b:=(T X).trans hb
theorem Az (F:ExcBaseFacts B newId initId bmB)(T:Hs bmB bm){rest:List Value}{Q:Unit->Shared->Prop}(hC:h.get? C=some (excClassObj nm q C N bs bm hdct sn sub ab col dd k0 k1 k2 k3 k5 newId))
    (hq:Q () ⟨h,g,d,t,os⟩):wpAny M A (checkBuiltinCall newId ⟨.ref C::rest,[]⟩) Q E ⟨h,g,d,t,os⟩:=by
  have hcont:(Value.ref C::bm).contains (.type B)=true:=by rw[List.contains_cons,T.has F.hasB,Bool.or_true]
  have hstar:=F.noStar
  simp only [checkBuiltinCall,F.newKind,F.newSplit,F.newRow]
  repeat (first | refine wpAny_loadPart_at hC ?_ | (refine wpAny_isSubtype_exc hC ?_;rw[hcont]) | refine wpAny_staticBase_exc hC ?_ | refine wpAny_madeBy_exc hC ?_ | simp only [bne_self_eq_false,Bool.false_eq_true,if_false] | wp_step)
  exact hq
end
section
variable {prog:Program}{w:World}{A:Around}{E:Value->Shared->Prop}{h:Heap}{g:Array GenState}{d:Drawn}{t:Nat}{os:OsState}
variable {nm q:Str}{C N:Addr}{bs bm bmB:List Value}{hdct:Bool}{sn:List Str}{sub:List Value}{ab:Bool}{col:Option Bool}{dd:Option Addr}{k0 k1 k2 k3 k5:Option Value}{B newId initId:String}
theorem Cg {R:Result->Shared->Prop}(F:ExcBaseFacts B newId initId bmB)(T:Hs bmB bm){rest:List Value}(hC:h.get? C=some (excClassObj nm q C N bs bm hdct sn sub ab col dd k0 k1 k2 k3 k5 newId))(hrest:rest.length<=sizeLine)
    (hq:R (.ok (.ret (.ref (h.objs.size+1)))) ⟨(h.push { cls:=.type "tuple",data:=.seq rest.toArray }).push
      { cls:=.ref C,data:=.fields #[.ref h.objs.size,.none,.none,.none,.bool false,.none] },g,d,t,os⟩) :
    codeAny (model prog w) A (.builtin newId ⟨.ref C::rest,[]⟩) R ⟨h,g,d,t,os⟩:=by
  have hends:=F.ends
  have hcB:(Value.ref C::bm).contains (.type B)=true:=by rw[List.contains_cons,T.has F.hasB,Bool.or_true]
  have hcA:(Value.ref C::bm).contains (.type "AttributeError")=false:=by rw[List.contains_cons,T.has F.noAttr];rfl
  have hcN:(Value.ref C::bm).contains (.type "NameError")=false:=by rw[List.contains_cons,T.has F.noName];rfl
  refine codeAny_builtinAt F.entry ?_
  unfold Builtin.«BaseException.__new__»
  refine PySem.wpAt_bind ?_
  show PySem.wpAt _ _ _ (stack >>= _) _ _ _
  refine PySem.wpAt_bind (PySem.wpAt_stack fun p below=>PySem.wpAt_of_wpAny ?_)
  wp_walk
  refine PySem.wpAt_of_wpAny ?_
  rw[F.owner]
  repeat (first | with_reducible refine wpAny_madeHere_exc F.canon hC ?_ | with_reducible refine wpAny_loadPart_at hC ?_ | (with_reducible refine wpAny_isSubtype_exc hC ?_;first | rw[hcB] | rw[hcA] | rw[hcN]) | wp_step)
  show R _ _
  rw[Heap.size_push]
  exact hq
theorem AA (F:ExcBaseFacts B newId initId bmB)(T:Hs bmB bm){rest:List Value}{fI:Addr}{oI:Obj}{Q:Fin->Shared->Prop}
    (hC:h.get? C=some (excClassObj nm q C N bs bm hdct sn sub ab col dd k0 k1 k2 k3 k5 newId)) (hi:Al h bmB "__init__" (some (.ref fI)) (.ref C::bm))
    (hfI:h.get? fI=some oI) (hfc:oI.cls=.type "function") (hrest:rest.length<=sizeLine)
    (hq:∀h' e,Heap.MadeExcOf h h' e (.ref C) rest->h.objs.size<=e ->
      wpAny (model prog w) A (call (.ref fI) (.ref e::rest)) (fun r s'=>r=.none/\Q (.done (.ret (.ref e))) s') E ⟨h',g,d,t,os⟩) :
    wpAny (model prog w) A (Builtin.«type.__call__» ⟨.ref C::rest,[]⟩) Q E ⟨h,g,d,t,os⟩:=by
  repeat (first | with_reducible refine wpAny_loadPart_at hC ?_ | with_reducible refine wpAny_madeBy_exc hC ?_ | wp_step)
  refine codeAny_call_builtin_code (Code.quiet_builtin _ F.quiet) (Az F T hC ?_)
  refine Cg F T hC hrest ?_
  show wpAny _ _ _ _ _ _
  have kp:∀b o,h.get? b=some o->((h.push { cls:=.type "tuple",data:=.seq rest.toArray }).push { cls:=.ref C,data:=.fields #[.ref h.objs.size,.none,.none,.none,.bool false,.none] }).get? b=some o :=
    fun b o e=>Heap.get?_push_of_some _ (Heap.get?_push_of_some _ e)
  have hget:((h.push { cls:=.type "tuple",data:=.seq rest.toArray }).push
      { cls:=.ref C,data:=.fields #[.ref h.objs.size,.none,.none,.none,.bool false,.none] }).get? (h.objs.size+1)=some
      { cls:=.ref C,data:=.fields #[.ref h.objs.size,.none,.none,.none,.bool false,.none] }:=by heap_get
  have hC₁:=kp _ _ hC
  have hfI₁:=kp _ _ hfI
  have hcC:(Value.ref C::bm).contains (.ref C)=true:=by simp
  unfold isInstance
  repeat (first | with_reducible refine wpAny_loadPart_at hget ?_ | (with_reducible refine wpAny_isSubtype_exc hC₁ ?_;rw[hcC]) | wp_step)
  show wpAny _ _ (typeLookup (.ref C) _) _ _ _
  refine(hi.keeps kp).look hC₁ ?_
  refine wpAny_holding (wpAny_bind ?_)
  unfold bindSpecial
  refine wpAny_bind (wpAny_typeOf (T := "function") ⟨_,hfI₁,hfc⟩ ?_)
  rw[if_pos (by decide)]
  refine wpAny_pure (wpAny_bind (wpAny_mono (hq _ (h.objs.size+1) ⟨kp,Heap.get?_none_of_le (Nat.le_succ _),h.objs.size,hget,Heap.get?_none_of_le (Nat.le_refl _),?_⟩ (Nat.le_succ _)) (fun r s' hr=>?_) fun _ _ x=>x))
  · exact Heap.get?_push_of_some _ (Heap.get?_push_at rfl rfl)
  · obtain⟨rfl,hQ⟩:=hr
    wp_walk
    exact hQ
theorem AB (F:ExcBaseFacts B newId initId bmB)(T:Hs bmB bm){rest:List Value}{fI:Addr}{oI:Obj}{Q:Value->Shared->Prop}
    (hC:h.get? C=some (excClassObj nm q C N bs bm hdct sn sub ab col dd k0 k1 k2 k3 k5 newId)) (hi:Al h bmB "__init__" (some (.ref fI)) (.ref C::bm))
    (hfI:h.get? fI=some oI) (hfc:oI.cls=.type "function") (hrest:rest.length<=sizeLine)
    (hq:∀h' e,Heap.MadeExcOf h h' e (.ref C) rest->h.objs.size<=e ->
      wpAny (model prog w) (A.under (.builtin "type.__call__" ⟨.ref C::rest,[]⟩)) (call (.ref fI) (.ref e::rest)) (fun r s'=>r=.none/\Q (.ref e) s') E ⟨h',g,d,t,os⟩) :
    wpAny (model prog w) A (call (.ref C) rest) Q E ⟨h,g,d,t,os⟩:=by
  have f1:=tc_lookup
  have f2:=tc_bind (.ref C)
  have hT:(⟨h,g,d,t,os⟩:Shared).TypeIs (.ref C) "type" := ⟨_,hC,rfl⟩
  refine wpAny_call (codeAny_of_tree ?_)
  show wpAny _ _ (callAny (.ref C) _) _ _ _
  repeat (any_goals (first | assumption | with_reducible refine wpAny_loadPart_at hC ?_ | wp_step))
  refine⟨rfl,?_⟩
  exact codeAny_call_builtin_at (Code.quiet_builtin _ (by decide +kernel)) entry_typeCall (wpAny_check_type_call_sub hC (AA F T hC hi hfI hfc hrest hq))
theorem raise_stmt {M:Model} {env:Env} {s:Shared} {x:Sem Value} {Q:Flow->Shared->Prop} (hbase:bm.contains (.type "BaseException")=true) (hh:A.handled=none)
    (h:wpAny M A x (fun v s₁=>∃e oe,v=.ref e/\s₁.heap.get? C=some (excClassObj nm q C N bs bm hdct sn sub ab col dd k0 k1 k2 k3 k5 newId) ∧
      s₁.heap.get? e=some oe/\oe.cls=.ref C/\(∃vs,oe.data=.fields vs/\vs[1]?=some .none)/\E (.ref e) s₁) E s) :
    wpAny M A (raiseStmt env (some x) none) Q E s:=by
  have hcB:(Value.ref C::bm).contains (.type "BaseException")=true:=by rw[List.contains_cons,hbase,Bool.or_true]
  unfold raiseStmt
  refine wpAny_bind (wpAny_mono h (fun v s₁ h₁=>?_) fun _ _ x=>x)
  obtain⟨e,oe,rfl,hC,he,hcl,⟨vs,hdt,v1⟩,hE⟩:=h₁
  obtain⟨hp,g,d,tk,os⟩:=s₁
  obtain⟨oc,od,odt,osl⟩:=oe
  dsimp only at hcl hdt
  subst hcl
  subst hdt
  repeat (first | with_reducible refine wpAny_loadPart_at he ?_ | with_reducible refine wpAny_loadPart_at hC ?_ | (with_reducible refine wpAny_isSubtype_exc hC ?_;rw[hcB]) | wp_step)
  rw[v1]
  refine wpAny_pure ?_
  exact wpAny_pure (wpAny_raiseNew_none hh hE)
theorem ye {env:Env}{s:Shared}(F:ExcBaseFacts B newId initId bmB)(T:Hs bmB bm){fI:Addr}{oI:Obj}{x:Str}{np cpos pos:Pos}{args:List Expr}{Q:Flow->Shared->Prop}
    (hbase:bm.contains (.type "BaseException")=true) (hh:A.handled=none) (hplain:(backTo cpos (starEach args env)).any (·.1)=false)
    (h:wpAny (model prog w) A (eval (.Name x np) env) (fun f s₁=>f=.ref C/\wpAny (model prog w) A (evalArgs (.ref C) true (backTo cpos (starEach args env)) [])
      (fun a s₂=>a.kw=[]/\a.pos.length<=sizeLine/\s₂.heap.get? C=some (excClassObj nm q C N bs bm hdct sn sub ab col dd k0 k1 k2 k3 k5 newId)/\Al s₂.heap bmB "__init__" (some (.ref fI)) (.ref C::bm)/\s₂.heap.get? fI=some oI/\oI.cls=.type "function" ∧
        ∀h' e,Heap.MadeExcOf s₂.heap h' e (.ref C) a.pos->s₂.heap.objs.size<=e->wpAny (model prog w) (A.under (.builtin "type.__call__" ⟨.ref C::a.pos,[]⟩)) (call (.ref fI) (.ref e::a.pos))
          (fun r s₃=>r=.none/\s₃.heap.get? C=some (excClassObj nm q C N bs bm hdct sn sub ab col dd k0 k1 k2 k3 k5 newId)/\(∃oe,s₃.heap.get? e=some oe/\oe.cls=.ref C/\∃vs,oe.data=.fields vs/\vs[1]?=some .none)/\E (.ref e) s₃) E { s₂ with heap:=h' }) E s₁) E s) :
    wpAny (model prog w) A (exec (.Raise (some (.Call (.Name x np) args [] cpos)) none pos) env) Q E s:=by
  rw[arm_exec_Raise]
  first
    | refine wpAny_bind (wpAny_standAt (raise_stmt (C:=C) (nm:=nm) (q:=q) (N:=N) (bs:=bs) (bm:=bm) (hdct:=hdct) (sn:=sn) (sub:=sub) (ab:=ab) (col:=col) (dd:=dd) (k0:=k0) (k1:=k1) (k2:=k2) (k3:=k3) (k5:=k5) (newId:=newId) hbase hh (wpAny_bind (wpAny_mono (wpAny_Call_ofName (wpAny_mono h (fun f s₁ h₁=>?_) fun _ _ x=>x)) (fun v s₃ h₃=>wpAny_bind (wpAny_standAt (wpAny_pure h₃))) fun _ _ x=>x))))
    | (simp only [evalOpt,Option.map];refine wpAny_bind (wpAny_standAt (raise_stmt (C:=C) (nm:=nm) (q:=q) (N:=N) (bs:=bs) (bm:=bm) (hdct:=hdct) (sn:=sn) (sub:=sub) (ab:=ab) (col:=col) (dd:=dd) (k0:=k0) (k1:=k1) (k2:=k2) (k3:=k3) (k5:=k5) (newId:=newId) hbase hh (wpAny_bind (wpAny_mono (wpAny_Call_ofName (wpAny_mono h (fun f s₁ h₁=>?_) fun _ _ x=>x)) (fun v s₃ h₃=>wpAny_bind (wpAny_standAt (wpAny_pure h₃))) fun _ _ x=>x)))))
  obtain⟨rfl,h₁⟩:=h₁
  unfold callWith
  refine wpAny_bind (wpAny_holding (wpAny_mono h₁ (fun a s₂ h₂=>wpAny_bind (wpAny_standAt ?_)) fun _ _ x=>x))
  obtain⟨apos,akw⟩:=a
  obtain⟨hkw,hlen,hC,hi,hfI,hfc,h₂⟩:=h₂
  obtain rfl:akw=[]:=hkw
  obtain⟨hp,g,d,tk,os⟩:=s₂
  simp only [hplain]
  refine wpAny_bind (wpAny_keeperOf_exc hC ?_)
  refine wpAny_bind (AB F T hC hi hfI hfc hlen fun h' e hm hz=>wpAny_mono (h₂ h' e hm hz) (fun r s₃ hr=>⟨hr.1,wpAny_bind (wpAny_holding (wpAny_point (wpAny_pure ?_)))⟩) fun _ _ x=>x)
  obtain⟨_,hC3,⟨oe,he,hcl,hv⟩,hE⟩:=hr
  exact⟨e,oe,rfl,hC3,he,hcl,hv,hE⟩
end
def exM (a:Addr)(cls:Value)(dct:Option Addr): HO:=.ext fun h=>∃oe vs,h.get? a=some oe/\oe.cls=cls/\oe.dict=dct/\oe.data=.fields vs/\vs[1]?=some .none
def xdW (a:Addr)(fs:List (Str×V)): HO:=.ext fun h=>∃mA,h.Ns1 a mA/\(∀f,fX (fs.lookup f) (mA f))/\PySem.Within mA (fs.map (·.1))
def del (H:Hp)(a:Addr): Hp:=fun b=>if b=a then none else H b
theorem Ci {H:Hp}{a:Addr}: del H a a=none:=if_pos rfl
theorem dL {H:Hp}{a b:Addr}(h:b≠a): del H a b=H b:=if_neg h
theorem Cj {H:Hp}{a b:Addr}{o:HO}(h:del H a b=some o): b≠a/\H b=some o:=by
  unfold del at h
  by_cases q:b=a
  · rw[if_pos q] at h;cases h
  · rw[if_neg q] at h;exact⟨q,h⟩
theorem uV {P:Program}{w:World}{H:Hp}{h:Heap}{a:Addr}{cls:Value}{dct:Option Addr}{oe:Obj}{vs:Array Value}(e:h.get? a=some oe)(c:oe.cls=cls)(d:oe.dict=dct)(t:oe.data=.fields vs)(n:vs[1]?=some .none): bJ P w H h a (exM a cls dct) :=
  ⟨⟨oe,vs,e,c,d,t,n⟩,⟨_,e⟩,fun h1 h2 ⟨o',ws,q1,q2⟩ k=>⟨o',ws,k _ q1,q2⟩⟩
theorem Fo {fs:List Addr}{H1 H2:Hp}{h1 h2 h3:Heap}{e:Addr}{o:HO}(n:h1.get? e=none)(ne:H1 e=none)(k:∀b u,h1.get? b=some u->h2.get? b=some u)(u:Un fs [] (upd H1 e o) H2 h2 h3): Un fs [] H1 (del H2 e) h1 h3:=by
  have ap:∀b ob,h1.get? b=some ob->b≠e:=fun b ob q z=>by rw[z,n] at q;cases q
  have tr:∀b u,H1 b=some u->b≠e:=fun b u q=>ay q ne
  refine⟨fun b ob q m hb hx=>u.keep b ob (k _ _ q) (by rw[av (ap b ob q)];exact m) hb hx,fun b ob q m hb hx=>u.slot b ob (k _ _ q) (by rw[av (ap b ob q)];exact m) hb hx,fun b ob q m hx=>?_,fun b ob q hx=>u.there b ob (k _ _ q) hx,fun b xs q=>?_,fun b ob v q=>?_,fun b ps q=>?_⟩
  · rw[dL (ap b ob q)];exact u.free b ob (k _ _ q) (by rw[av (ap b ob q)];exact m) hx
  · rw[dL (tr _ _ q)];exact u.tups b xs (by rw[av (tr _ _ q)];exact q)
  · rw[dL (tr _ _ q)];exact u.lJ b ob v (by rw[av (tr _ _ q)];exact q)
  · rw[dL (tr _ _ q)];exact u.mK b ps (by rw[av (tr _ _ q)];exact q)
theorem DR {P:Program}{w:World}{H:Hp}{h:Heap}{e:Addr}{cls:Value}{dct:Option Addr}(x:HOk P w H h)(he:H e=some (exM e cls dct)): HOk P w (del H e) h:=fun b u q=>by
  obtain⟨q1,q2⟩:=Cj q
  refine(x b u q2).stay (fun _ _ _ z=>z) (fun c z=>?_) fun c xs z=>?_
  · rw[dL fun y=>by rw[y,he] at z;cases z];exact z
  · rw[dL fun y=>by rw[y,he] at z;cases z];exact z
def px (K:W.Frag)(C fI:Addr): Prop:=∃bm N nm qn bs hdct sn sub ab col dd k0 k1 k2 k3 k5,K.lookup C=some (excClassObj nm qn C N bs bm hdct sn sub ab col dd k0 k1 k2 k3 k5 "ValueError.__new__")/\Hs bmV bm ∧
  (∀h:Heap,K.In h->Al h bmV "__init__" (some (.ref fI)) (.ref C::bm))/\∃oI,K.lookup fI=some oI/\oI.cls=.type "function"
def y9 (C:Addr)(sp:Sp)(dvs:List V)(E:St->XK)(t:TA): TS:=fun _ σ H=>t σ H fun vs H1=>vs.length<=sizeLine/\∀e,H1 e=none ->
  sp (.ref e::(vs++dvs)) (upd H1 e (exM e (.ref C) none)) (fun v H2=>v=.non/\∃dct,H2 e=some (exM e (.ref C) dct)/\E σ (.ref C) dct (del H2 e)) (fun _ _ _=>False)
section
variable {X:Cx}{E:St->XK}{x:Str}{C f:Addr}{e₀:Expr}{es:List Expr}{t:TA}{np cpos pos:Pos}{k:Nat}{fd:FuncData}{ps:List Str}{sp:Sp}{dvs:List V}{ds:List Value}
theorem AF (hC:px X.K C f) (F:fY X.prog X.w X.K X.mg X.base (CXE X.prog X.w) k f fd ps sp) (hr:dC (k+1) X.A) (hb:Binds X.K fd ps ds) (hd:Vals dvs ds) (hc:X.calm=true) (hg:Gl X x) (hm:X.mg x=some (.ref C)) (hx:cD (CXE X.prog X.w) X E) (ha:PA X (e₀::es) t) (hdb:(x==("__debug__" : Str))=false:=by decide)
    (he:starEach (e₀::es) X.env=(false,eval e₀ X.env)::starEach es X.env:=by rfl) (hpl:(backTo cpos (starEach es X.env)).any (·.1)=false:=by rfl) :
    PS X (.Raise (some (.Call (.Name x np) (e₀::es) [] cpos)) none pos) (y9 C sp dvs E t):=by
  intro pins s σ H D I h
  obtain⟨bm,N,nm,qn,bs,hdct,sn,sub,ab,col,dd,k0,k1,k2,k3,k5,f4,f3,f2,oI,f5,f6⟩:=hC
  refine ye (C:=C) (nm:=nm) (q:=qn) (N:=N) (bs:=bs) (bm:=bm) (hdct:=hdct) (sn:=sn) (sub:=sub) (ab:=ab) (col:=col) (dd:=dd) (k0:=k0) (k1:=k1) (k2:=k2) (k3:=k3) (k5:=k5) (fI:=f) (oI:=oI)
    PySem.F.excBase_ValueError f3 (f3.has PySem.F.excBase_ValueError.hasBase) (I.ok.hd hc) ?_ (gP I hg hm ⟨rfl,?_⟩ hdb)
  · rw[he]
    show (false || (backTo cpos (starEach es X.env)).any (·.1))=false
    rw[hpl]
    rfl
  · have ha':=ha cpos pins s σ H _ I h
    rw[he] at ha' ⊢
    refine Calls.evalArgs_plain (thn ha' fun us s2 q=>?_)
    obtain⟨vs,H1,I1,r,z,q⟩:=q
    refine⟨rfl,by rw[<-r.length];exact z,I1.kIn _ _ f4,f2 _ I1.kIn,I1.kIn _ _ f5,f6,fun h' e hmade hz=>?_⟩
    obtain⟨tp,q1,_,_⟩:=hmade.there
    have hne:H1 e=none:=uQ I1 hmade.new
    have I2:Inv X pins σ (upd H1 e (exM e (.ref C) none)) { s2 with heap:=h' }:=I1.laid hmade.keeps hz (uV q1 rfl rfl rfl rfl)
    have hq:=q e hne
    have r2:Vals (V.ref e::(vs++dvs)) (Value.ref e::(us++ds)):=.cons rfl (r.append hd)
    have hl:(Value.ref e::us++ds).length=ps.length:=by
      have e:=r2.length
      rw[F.len _ _ _ _ hq] at e
      exact e.symm
    refine wpAny_call (codeAny_mono (F.run _ X.stack _ _ ⟨Value.ref e::us,[]⟩ (Value.ref e::(us++ds)) _ _ _ (hr.make C us []) (I2.env0.make C us []) (hb _ (Value.ref e::us) I2.kIn hl) r2 hq) fun r s' hq'=>?_)
    cases r with
    | error e' =>
      obtain⟨_,_,_,_,_,_,_,_,_,_,z⟩:=hq'
      exact z.elim
    | ok fl =>
      cases fl with
      | ret u =>
        have I3:=I2.after hq'
        obtain⟨v,H',os',bare,un,hok,rv,ev,dct,hx',qE⟩:=hq'
        subst ev
        obtain⟨oe,vs',g1,g2,g3,g4,g5⟩:=(hok e _ hx').1
        obtain⟨_,H'',I3',_,_,_,_,_⟩:=I3
        refine⟨rv,I3'.kIn _ _ f4,⟨oe,g1,g2,vs',g4,g5⟩,?_⟩
        exact hx pins σ H1 s2 (.ref e) s' I1 ⟨e,.ref C,dct,del H' e,rfl,os',bare,Fo hmade.new hne hmade.keeps un,DR hok hx',⟨.none,⟨oe,vs',g1,g2,g3,g4,g5,.inl rfl⟩,Ci,hmade.new,fun T z=>nomatch z⟩,qE⟩
      | next=>exact False.elim hq'
      | brk=>exact False.elim hq'
      | cont=>exact False.elim hq'
end
end L2

set_option maxHeartbeats 4000000
namespace L2
open PySem PySem.Spec PyProof.Rows
open Builtin Builtin.ObjectAttr
section
variable {prog:Program}{w:World}{A:Around}{E:Value->Shared->Prop}{h:Heap}{g:Array GenState}{d:Drawn}{t:Nat}{os:OsState}
variable {nm q:Str}{C N x:Addr}{bs bm bmB:List Value}{sn:List Str}{sub:List Value}{ab:Bool}{col:Option Bool}{dd:Option Addr}{k0 k1 k2 k3 k5:Option Value}{B newId sa owner:String}{mA:Str->Option Value}{name:Str}{v:Value}{o:Obj}
theorem Ck {M:Model}{nameV:Value}{Q:Unit->Shared->Prop}(SF:StoreFacts B bmB sa owner)(T:Hs bmB bm)
    (hC:h.get? C=some (excClassObj nm q C N bs bm true sn sub ab col dd k0 k1 k2 k3 k5 newId)) (hx:h.get? x=some o) (hc:o.cls=.ref C) (hq:Q () ⟨h,g,d,t,os⟩) :
    wpAny M A (checkBuiltinCall sa ⟨[.ref x,nameV,v],[]⟩) Q E ⟨h,g,d,t,os⟩:=by
  have hcB:(Value.ref C::bm).contains (.type owner)=true:=by rw[List.contains_cons,T.has SF.hasOwner,Bool.or_true]
  have ha:=SF.args (.ref x) nameV v
  simp only [checkBuiltinCall,SF.kind,SF.split]
  refine wpAny_bind ?_
  · unfold isInstance
    repeat (first | (with_reducible refine wpAny_loadPart_at hx ?_;rw[hc]) | (with_reducible refine wpAny_isSubtype_exc hC ?_;rw[hcB]) | wp_step)
    cases hsig:Manifest.signature? sa with
    | none=>exact wpAny_pure hq
    | some sig =>
      simp only [argsOk,hsig] at ha
      have h2:Bind.checkArgs sa sig ⟨[.ref x,nameV,v],[]⟩=pure ():=ha
      show wpAny M A (Bind.checkArgs sa sig ⟨[.ref x,nameV,v],[]⟩) Q E _
      rw[h2];exact wpAny_pure hq
theorem Cm {tk:Tok} {Q:Fin->Shared->Prop} (hp:∀self:Value,refuseLoop self "__setattr__" bm=pure ())
    (hC:h.get? C=some (excClassObj nm q C N bs bm true sn sub ab col dd k0 k1 k2 k3 k5 newId)) (hL:Al h bmB name none (.ref C::bm)) (hx:h.get? x=some o) (hc:o.cls=.ref C) (hnc:∀c,o.data≠.cls c) (hdn:o.dict=none)
    (hq:∀h' tk',h'.get? x=some { o with dict:=some h.objs.size }->h'.Ns1 h.objs.size (fun y=>if y=name then some v else none)->(∀b ob,b≠x->h.get? b=some ob->h'.get? b=some ob)->Q (.done (.ret .none)) ⟨h',g,d,tk',os⟩) :
    wpAny (model prog w) A (Builtin.«object.__setattr__» ⟨[.ref x,.str name tk,v],[]⟩) Q E ⟨h,g,d,t,os⟩:=by
  have hpass:=hp (.ref x)
  unfold Builtin.«object.__setattr__»
  repeat (first | rw[refuse_eq] | (rw[refuseLoop_ref,hpass]) | (with_reducible refine wpAny_loadPart_at hx ?_;rw[hc]) | with_reducible refine wpAny_mroOf_exc hC ?_ | (with_reducible refine Al.look hC hL ?_) | wp_step)
  rw[hdn,if_neg (by simp[typeHasDict])]
  split
  · rename_i hcd
    cases hcd
  split
  · rename_i c hcd
    exact absurd hcd (hnc c)
  · have hx₁:(h.push { cls:=.type "dict",data:=.dict #[] }).get? x=some o:=Heap.get?_push_of_some _ hx
    have hxs:x≠h.objs.size:=Nat.ne_of_lt (Heap.lt_size hx)
    refine wpAny_bind (wpAny_alloc' ?_)
    refine wpAny_bind (wpAny_update' hx₁ ?_)
    refine wpAny_pure ?_
    have hgd:((h.push { cls:=.type "dict",data:=.dict #[] }).update x fun o=>{ cls:=o.cls,dict:=some h.objs.size,data:=o.data,slots:=o.slots }).get? h.objs.size
        = some { cls:=.type "dict",data:=.dict #[] } :=
      (Heap.get?_update_ne _ _ _ _ hxs.symm).trans (Heap.get?_push_at rfl rfl)
    have hnd:((h.push { cls:=.type "dict",data:=.dict #[] }).update x fun o=>{ cls:=o.cls,dict:=some h.objs.size,data:=o.data,slots:=o.slots }).Ns h.objs.size (fun _=>none) :=
      ⟨_,#[],_,hgd,rfl,fun e he=>absurd he (by simp),fun _=>rfl⟩
    show wpAny _ _ (storeInDict h.objs.size (.str name tk) name v) _ _ _
    unfold storeInDict newKeyGuard
    refine wpAny_bind (wpAny_pure (wpAny_bind (wpAny_nsSet1 (Heap.Ns1.of_empty hnd) fun h' hn' hs=>?_)))
    obtain⟨oD,esD,epD,hoD,hdD,hcD⟩:=hn'.count (PySem.Within.cons name v PySem.Within.nil)
    refine wpAny_bind (wpAny_lookBehind hoD (by rw[hdD];exact pastItsLine_dict (Nat.le_trans hcD (by rw[List.length_cons,List.length_nil,sizeLine_eq];omega))) ?_)
    wp_walk
    refine hq h' _ ?_ hn' (fun b ob hbx hb=>?_)
    · refine(hs.2 x hxs).trans (Heap.get?_update_self _ hx₁ ?_)
      have hfr:=(Heap.get?_some_iff.mp hx).2
      obtain⟨oc,od,odt,osl⟩:=o
      cases odt<;>first | rfl | exact hfr
    · exact(hs.2 b (Nat.ne_of_lt (Heap.lt_size hb))).trans ((Heap.get?_update_ne _ _ _ _ hbx).trans (Heap.get?_push_of_some _ hb))
theorem Cp {tk:Tok} {Q:Fin->Shared->Prop} {dx:Addr} {ns:List Str} (hp:∀self:Value,refuseLoop self "__setattr__" bm=pure ())
    (hC:h.get? C=some (excClassObj nm q C N bs bm true sn sub ab col dd k0 k1 k2 k3 k5 newId)) (hL:Al h bmB name none (.ref C::bm)) (hx:h.get? x=some o) (hc:o.cls=.ref C) (hdx:o.dict=some dx) (hns:h.Ns1 dx mA)
    (hw:PySem.Within mA ns) (hsz:ns.length<=sizeLine)
    (hq:∀h' tk',h'.Ns1 dx (fun y=>if y=name then some v else mA y)->(∀b ob,b≠dx->h.get? b=some ob->h'.get? b=some ob)->Q (.done (.ret .none)) ⟨h',g,d,tk',os⟩) :
    wpAny (model prog w) A (Builtin.«object.__setattr__» ⟨[.ref x,.str name tk,v],[]⟩) Q E ⟨h,g,d,t,os⟩:=by
  have hpass:=hp (.ref x)
  unfold Builtin.«object.__setattr__»
  repeat (first | rw[refuse_eq] | (rw[refuseLoop_ref,hpass]) | (with_reducible refine wpAny_loadPart_at hx ?_;rw[hc]) | with_reducible refine wpAny_mroOf_exc hC ?_ | (with_reducible refine Al.look hC hL ?_) | wp_step)
  rw[hdx]
  refine wpAny_pure ?_
  show wpAny _ _ (storeInDict dx (.str name tk) name v) _ _ _
  unfold storeInDict newKeyGuard
  refine wpAny_bind (wpAny_pure (wpAny_bind (wpAny_nsSet1 hns fun h' hn' hs=>?_)))
  obtain⟨oD,esD,epD,hoD,hdD,hcD⟩:=hn'.count (PySem.Within.cons name v hw)
  refine wpAny_bind (wpAny_lookBehind hoD (by rw[hdD];exact pastItsLine_dict (Nat.le_trans hcD (by rw[List.length_cons];omega))) ?_)
  wp_walk
  exact hq h' _ hn' fun b ob hbd hb=>(hs.2 b hbd).trans hb
theorem y_ {Q:Unit->Shared->Prop}(SF:StoreFacts B bmB sa owner)(T:Hs bmB bm)
    (hC:h.get? C=some (excClassObj nm q C N bs bm true sn sub ab col dd k0 k1 k2 k3 k5 newId)) (hS:Al h bmB "__setattr__" (some (.builtin sa)) (.ref C::bm)) (hx:h.get? x=some o) (hc:o.cls=.ref C)
    (hq:∀(tk:Tok) (t':Nat) (A':Around),wpAny (model prog w) A' (Builtin.«object.__setattr__» ⟨[.ref x,.str name tk,v],[]⟩) (fun r s'=>r=.done (.ret .none)/\Q () s') (fun _ _=>False) ⟨h,g,d,t',os⟩) :
    wpAny (model prog w) A (setAttr (.ref x) name v) Q E ⟨h,g,d,t,os⟩:=by
  have f3:=SF.slot.bind (.ref x)
  unfold setAttr callSpecial? specialOf
  repeat (any_goals (first | assumption | (with_reducible refine wpAny_loadPart_at hx ?_;rw[hc]) | (with_reducible refine Al.look hC hS ?_) | wp_step))
  refine codeAny_call_builtin SF.slot.plain SF.entry (Ck SF T hC hx hc ?_)
  refine wpAny_mono (hq _ _ _) (fun r s' hr=>?_) fun _ _ z=>z.elim
  obtain⟨rfl,hr⟩:=hr
  repeat (any_goals (first | assumption | wp_step))
end
def gT (K:W.Frag)(C:Addr)(f:Str): Prop:=∃bm N nm qn bs sn sub ab col dd k0 k1 k2 k3 k5 nid,K.lookup C=some (excClassObj nm qn C N bs bm true sn sub ab col dd k0 k1 k2 k3 k5 nid)/\Hs bmV bm ∧
  (∀self:Value,refuseLoop self "__setattr__" bm=pure ())/\(∀h:Heap,K.In h->Al h bmV "__setattr__" (some (.builtin "object.__setattr__")) (.ref C::bm))/\∀h:Heap,K.In h->Al h bmV f none (.ref C::bm)
theorem Cq {P:Program}{w:World}{H:Hp}{h:Heap}{d:Addr}{fs:List (Str×V)}{mA:Str->Option Value}(n:h.Ns1 d mA)(r:∀f,fX (fs.lookup f) (mA f))(wi:PySem.Within mA (fs.map (·.1))): bJ P w H h d (xdW d fs):=by
  obtain⟨od,es,ep,e,c⟩:=id n
  exact⟨⟨mA,n,r,wi⟩,⟨_,e⟩,fun h1 h2 ⟨m,⟨od,es,ep,e,c⟩,q⟩ k=>⟨m,⟨od,es,ep,k _ e,c⟩,q⟩⟩
section
variable {X:Cx}{pins:List (Addr×Obj)}{σ:St}{H:Hp}{s:Shared}{a d C:Addr}{f:Str}{A:Around}{E:Value->Shared->Prop}
theorem Inv.two {o1 o2:HO}{φ:Heap->Prop}{s':Shared}(I:Inv X pins σ H s)(ha:H a=some (.ext φ))(hd:(H d=none/\s.heap.get? d=none)\/∃ψ,H d=some (.ext ψ))(ne:d≠a)(hos:s'.os=s.os)(hg:s'.gens=s.gens)
    (kp:∀b ob,b≠a->b≠d->s.heap.get? b=some ob->s'.heap.get? b=some ob) (ka:∃o,s'.heap.get? a=some o) (kd:∃o,s'.heap.get? d=some o)
    (n1:bJ X.prog X.w (upd (upd H d o1) a o2) s'.heap d o1) (n2:bJ X.prog X.w (upd (upd H d o1) a o2) s'.heap a o2):Inv X pins σ (upd (upd H d o1) a o2) s':=by
  have off:∀b ob,s.heap.get? b=some ob->H b=none->b≠a/\b≠d:=fun b ob e n=>⟨fun z=>(by rw[z,ha] at n;cases n),fun z=>by
    rcases hd with ⟨_,q⟩ | ⟨ψ,q⟩
    · rw[z,q] at e;cases e
    · rw[z,q] at n;cases n⟩
  have tr:∀b u,H b=some u->(∀ψ,u≠.ext ψ)->b≠a/\b≠d:=fun b u e n=>⟨fun z=>(by rw[z,ha] at e;cases e;exact n _ rfl),fun z=>by
    rcases hd with ⟨q,_⟩ | ⟨ψ,q⟩
    · rw[z,q] at e;cases e
    · rw[z,q] at e;cases e;exact n _ rfl⟩
  have up:∀b,b≠a/\b≠d->upd (upd H d o1) a o2 b=H b:=fun b n=>by rw[av n.1,av n.2]
  refine I.call' (ch:=[]) hos ⟨fun b ob e n _ _=>kp b ob (off b ob e n).1 (off b ob e n).2 e,fun b ob e n _ _=>⟨ob.slots,kp b ob (off b ob e n).1 (off b ob e n).2 e⟩,fun b ob e n _=>?_,fun b ob e _=>?_,fun b xs e=>?_,fun b ob u e=>?_,fun b ps e=>⟨#[],?_⟩⟩ (fun b u e=>?_) (by rw[hg];exact I.bare) fun b z=>absurd z (by simp)
  · rw[up b (off b ob e n)];exact n
  · by_cases za:b=a
    · rw[za];exact ka
    · by_cases zd:b=d
      · rw[zd];exact kd
      · exact⟨ob,kp b ob za zd e⟩
  · rw[up b (tr _ _ e (by intro ψ z;cases z))];exact e
  · rw[up b (tr _ _ e (by intro ψ z;cases z))];exact e
  · rw[up b (tr _ _ e (by intro ψ z;cases z)),e];simp
  · by_cases za:b=a
    · subst za
      rw[aj] at e;cases e
      exact n2
    · rw[av za] at e
      by_cases zd:b=d
      · subst zd
        rw[aj] at e;cases e
        exact n1
      · rw[av zd] at e
        refine(I.hok b u e).stay (fun c v hc q=>?_) (fun c q=>?_) fun c xs q=>?_
        · rcases hc with rfl | hc
          · exact kp _ _ za zd q
          · have n:=tr c _ hc (by intro ψ z;cases z)
            exact kp _ _ n.1 n.2 q
        · rw[up c (tr _ _ q (by intro ψ z;cases z))];exact q
        · rw[up c (tr _ _ q (by intro ψ z;cases z))];exact q
theorem Gp {y:V}{u:Value}{Q:Unit->Shared->Prop}(I:Inv X pins σ H s)(e:H a=some (exM a (.ref C) none))(c:gT X.K C f)(ry:RelV y u)
    (h:∀d s',H d=none->d≠a->Inv X pins σ (upd (upd H d (xdW d [(f,y)])) a (exM a (.ref C) (some d))) s'->Q () s'):wpAny (model X.prog X.w) A (setAttr (.ref a) f u) Q E s:=by
  obtain⟨bm,N,nm,qn,bs,sn,sub,ab,col,dd,k0,k1,k2,k3,k5,nid,c1,c2,c3,c4,c5⟩:=c
  obtain⟨oe,vs,g1,g2,g3,g4,g5⟩:=(I.hok a _ e).1
  have kin:=I.kIn
  have I0:=I
  obtain⟨hp,g,dr,tk,os⟩:=s
  refine y_ PySem.F.store_ValueError c2 (kin _ _ c1) (c4 _ kin) g1 g2 fun tk t' A'=>Cm c3 (kin _ _ c1) (c5 _ kin) g1 g2 (fun z=>by rw[g4];intro q;cases q) g3 fun h' tk' q1 q2 q3=>⟨rfl,?_⟩
  have hd:H hp.objs.size=none:=I0.hok.fresh (Nat.le_refl _)
  have na:hp.objs.size≠a:=fun z=>by rw[z,e] at hd;cases hd
  refine h _ _ hd na (Inv.two I0 e (.inl ⟨hd,Heap.get?_none_of_le (Nat.le_refl _)⟩) na rfl rfl (fun b ob n1 _ q=>q3 b ob n1 q) ⟨_,q1⟩ (let ⟨o,_,_,e',_⟩:=q2;⟨o,e'⟩) (Cq q2 (fun g=>?_) fun g hg=>?_) (uV q1 g2 rfl g4 g5))
  · show fX (List.lookup g [(f,y)]) (if g=f then some u else none)
    by_cases z:g=f
    · rw[if_pos z,z];simp only [List.lookup,beq_self_eq_true];exact ry
    · rw[if_neg z]
      have:(g==f)=false:=by simpa using z
      simp only [List.lookup,this]
      exact True.intro
  · by_cases z:g=f
    · rw[z];exact .head _
    · exact absurd (if_neg z) hg
theorem Gq {y:V}{u:Value}{fs:List (Str×V)}{Q:Unit->Shared->Prop}(I:Inv X pins σ H s)(e:H a=some (exM a (.ref C) (some d)))(ed:H d=some (xdW d fs))(ne:d≠a)(c:gT X.K C f)(hl:fs.length < 1000)(ry:RelV y u)
    (h:∀s',Inv X pins σ (upd (upd H d (xdW d (gn f y fs))) a (exM a (.ref C) (some d))) s'->Q () s'):wpAny (model X.prog X.w) A (setAttr (.ref a) f u) Q E s:=by
  obtain⟨bm,N,nm,qn,bs,sn,sub,ab,col,dd,k0,k1,k2,k3,k5,nid,c1,c2,c3,c4,c5⟩:=c
  obtain⟨oe,vs,g1,g2,g3,g4,g5⟩:=(I.hok a _ e).1
  obtain⟨mA,n1,r,wi⟩:=(I.hok d _ ed).1
  have kin:=I.kIn
  have I0:=I
  obtain⟨hp,g,dr,tk,os⟩:=s
  have hz:(fs.map (·.1)).length<=sizeLine:=by rw[List.length_map,sizeLine_eq];omega
  refine y_ PySem.F.store_ValueError c2 (kin _ _ c1) (c4 _ kin) g1 g2 fun tk t' A'=>Cp c3 (kin _ _ c1) (c5 _ kin) g1 g2 g3 n1 wi hz fun h' tk' q2 q3=>⟨rfl,?_⟩
  refine h _ (Inv.two I0 e (.inr ⟨_,ed⟩) ne rfl rfl (fun b ob _ n2 q=>q3 b ob n2 q) ⟨_,q3 _ _ (Ne.symm ne) g1⟩ (let ⟨o,_,_,e',_⟩:=q2;⟨o,e'⟩) (Cq q2 (fun g=>?_) fun g hg=>?_) (uV (q3 _ _ (Ne.symm ne) g1) g2 g3 g4 g5))
  · show fX ((gn f y fs).lookup g) (if g=f then some u else mA g)
    rw[dw]
    by_cases q:g=f
    · rw[if_pos q,if_pos q];exact ry
    · rw[if_neg q,if_neg q];exact r g
  · by_cases q:g=f
    · rw[q];exact(jq f y fs).1
    · refine(jq f y fs).2 g (wi g fun z=>hg ?_)
      show (if g=f then some u else mA g)=none
      rw[if_neg q];exact z
end
def Fq (K:W.Frag)(ta tv:TE)(f:Str): TS:=fun D σ H=>tv σ H fun y H1=>ta σ H1 fun x H2=>∃a C,x=.ref a/\H2 a=some (exM a (.ref C) none)/\gT K C f ∧
  ∀d,H2 d=none->d≠a->D.nx σ (upd (upd H2 d (xdW d [(f,y)])) a (exM a (.ref C) (some d)))
def Fs (K:W.Frag)(ta tv:TE)(f:Str): TS:=fun D σ H=>tv σ H fun y H1=>ta σ H1 fun x H2=>∃a C d fs,x=.ref a/\H2 a=some (exM a (.ref C) (some d))/\H2 d=some (xdW d fs)/\d≠a/\gT K C f/\fs.length < 1000 ∧
  D.nx σ (upd (upd H2 d (xdW d (gn f y fs))) a (exM a (.ref C) (some d)))
section
variable {X:Cx}{o value:Expr}{f:Str}{pos pos':Pos}{ta tv:TE}
theorem wK (ha:PE X o ta)(hv:PE X value tv)(hs:swapsWith value (some (.Attribute o f pos')) pos.line X.env=pure false): PS X (.Assign [.Attribute o f pos'] value pos) (Fq X.K ta tv f):=by
  intro pins s σ H D I h
  refine plainObj_wpAny_Assign_Attribute (thn (hv pins s σ H _ I h) fun u s1 ⟨y,H1,I1,ry,q⟩=>thn (ha pins s1 σ H1 _ I1 q) fun ov s2 ⟨x,H2,I2,rx,a,C,ex,ea,c,q2⟩=>?_) hs
  subst ex
  obtain rfl:ov=Value.ref a:=rx
  exact Gp I2 ea c ry fun d s3 n1 n2 I3=>⟨σ,_,I3,q2 d n1 n2⟩
theorem wL (ha:PE X o ta)(hv:PE X value tv)(hs:swapsWith value (some (.Attribute o f pos')) pos.line X.env=pure false): PS X (.Assign [.Attribute o f pos'] value pos) (Fs X.K ta tv f):=by
  intro pins s σ H D I h
  refine plainObj_wpAny_Assign_Attribute (thn (hv pins s σ H _ I h) fun u s1 ⟨y,H1,I1,ry,q⟩=>thn (ha pins s1 σ H1 _ I1 q) fun ov s2 ⟨x,H2,I2,rx,a,C,d,fs,ex,ea,ed,ne,c,l,q2⟩=>?_) hs
  subst ex
  obtain rfl:ov=Value.ref a:=rx
  exact Gq I2 ea ed ne c l ry fun s3 I3=>⟨σ,_,I3,q2⟩
end
end L2

set_option maxHeartbeats 4000000
namespace L2
open PySem PySem.Spec PyProof.Rows
section
variable {prog:Program}{w:World}{A:Around}{E:Value->Shared->Prop}{h:Heap}{g:Array GenState}{d:Drawn}{t:Nat}{os:OsState}{a dx:Addr}{o:Obj}{vs:Array Value}{v:Value}{name:Str}{mA:Str->Option Value}
  {nm q:Str} {C N:Addr} {bs bm bmB:List Value} {sn:List Str} {sub:List Value} {ab:Bool} {col:Option Bool} {dd:Option Addr} {k0 k1 k2 k3 k5:Option Value} {B newId:String}
theorem Cr {M:Model} {nameV:Value} {Q:Unit->Shared->Prop} (hC:h.get? C=some (excClassObj nm q C N bs bm true sn sub ab col dd k0 k1 k2 k3 k5 newId)) (hB:bm.contains (.type "BaseException")=true)
    (hx:h.get? a=some o) (hc:o.cls=.ref C) (hq:Q () ⟨h,g,d,t,os⟩):wpAny M A (checkBuiltinCall "BaseException.__getattribute__" ⟨[.ref a,nameV],[]⟩) Q E ⟨h,g,d,t,os⟩:=by
  have hk:builtinKind "BaseException.__getattribute__" = some .slot:=by decide +kernel
  have hsplit:splitId "BaseException.__getattribute__" = some ("BaseException", "__getattribute__"):=by decide +kernel
  have hcB:(Value.ref C::bm).contains (.type "BaseException")=true:=by rw[List.contains_cons,hB,Bool.or_true]
  have ha:=PySem.F.args_bexc_ga (.ref a) nameV
  simp only [checkBuiltinCall,hk,hsplit]
  refine wpAny_bind ?_
  · unfold isInstance
    repeat (first | (with_reducible refine wpAny_loadPart_at hx ?_;rw[hc]) | (with_reducible refine wpAny_isSubtype_exc hC ?_;rw[hcB]) | wp_step)
    exact hq
theorem Ct {tk:Tok}{Q:Fin->Shared->Prop}(hC:h.get? C=some (excClassObj nm q C N bs bm true sn sub ab col dd k0 k1 k2 k3 k5 newId))(hL:Al h bmB name none (.ref C::bm))
    (hx:h.get? a=some o) (hc:o.cls=.ref C) (hd:o.data=.fields vs) (hdx:o.dict=some dx) (hns:h.Ns1 dx mA) (hv:mA name=some v) (hq:Q (.done (.ret v)) ⟨h,g,d,t,os⟩) :
    wpAny (model prog w) A (Builtin.«object.__getattribute__» ⟨[.ref a,.str name tk],[]⟩) Q E ⟨h,g,d,t,os⟩:=by
  unfold Builtin.«object.__getattribute__»
  repeat (first | (with_reducible refine wpAny_loadPart_at hx ?_;rw[hc]) | (with_reducible refine Al.look hC hL ?_) | wp_step)
  split
  · rename_i c hcd
    rw[hd] at hcd;cases hcd
  unfold instanceDict
  repeat (first | (with_reducible refine wpAny_loadPart_at hx ?_;rw[hc]) | with_reducible refine wpAny_loadPart_at hC ?_ | wp_step)
  rw[hdx]
  repeat (first | (with_reducible refine wpAny_nsGet hns.ns ?_;rw[hv]) | wp_step)
  exact hq
theorem Gr {tk:Tok} {fill expr:Bool} {Q:Value->Shared->Prop} (FB:ExcAttrFacts B) (hC:h.get? C=some (excClassObj nm q C N bs bm true sn sub ab col dd k0 k1 k2 k3 k5 newId)) (hB:bm.contains (.type "BaseException")=true)
    (hG:Al h bmB "__getattribute__" (some (.builtin "BaseException.__getattribute__")) (.ref C::bm)) (hH:Al h bmB "__getattr__" none (.ref C::bm)) (hL:Al h bmB name none (.ref C::bm))
    (hx:h.get? a=some o) (hc:o.cls=.ref C) (hd:o.data=.fields vs) (hdx:o.dict=some dx) (hns:h.Ns1 dx mA) (hv:mA name=some v) (hh:handedOut v=pure v) (hq:Q v ⟨h,g,d,t,os⟩) :
    wpAny (model prog w) A (getAttrBy (.ref a) (.str name tk) fill expr) Q E ⟨h,g,d,t,os⟩:=by
  have f3:=FB.ga.bind (.ref a)
  have hx0:(expr&&onTheHeap (Value.builtin "BaseException.__getattribute__"))=false:=by cases expr<;>rfl
  have hx2:(Value.builtin "BaseException.__getattribute__" == Value.builtin "object.__getattribute__")=false:=by decide +kernel
  have hx1:(onTheHeap (Value.ref C)&&Value.builtin "BaseException.__getattribute__" == Value.builtin "object.__getattribute__")=false:=by rw[hx2];rfl
  unfold getAttrBy
  repeat (any_goals (first | assumption | (with_reducible refine wpAny_loadPart_at hx ?_;rw[hc]) | with_reducible refine Al.look hC hG ?_ | with_reducible refine Al.look hC hH ?_ | wp_step))
  refine codeAny_call_builtin FB.ga.plain PySem.F.entry_bexc_ga (Cr hC hB hx hc (Ct hC hL hx hc hd hdx hns hv ?_))
  repeat (any_goals (first | assumption | wp_step))
theorem DS {expr:Bool} {Q:Value->Shared->Prop} (FB:ExcAttrFacts B) (hC:h.get? C=some (excClassObj nm q C N bs bm true sn sub ab col dd k0 k1 k2 k3 k5 newId)) (hB:bm.contains (.type "BaseException")=true)
    (hG:Al h bmB "__getattribute__" (some (.builtin "BaseException.__getattribute__")) (.ref C::bm)) (hH:Al h bmB "__getattr__" none (.ref C::bm)) (hL:Al h bmB name none (.ref C::bm))
    (hx:h.get? a=some o) (hc:o.cls=.ref C) (hd:o.data=.fields vs) (hdx:o.dict=some dx) (hns:h.Ns1 dx mA) (hv:mA name=some v) (hh:handedOut v=pure v) (hq:Q v ⟨h,g,d,t+1,os⟩) :
    wpAny (model prog w) A (getAttr (.ref a) name expr) Q E ⟨h,g,d,t,os⟩:=by
  unfold getAttr
  repeat (any_goals (first | assumption | with_reducible apply Gr FB hC hB hG hH hL hx hc hd hdx hns hv hh | wp_step))
end
def kD (K:W.Frag)(C:Addr)(f:Str): Prop:=∃bm N nm qn bs sn sub ab col dd k0 k1 k2 k3 k5 nid,K.lookup C=some (excClassObj nm qn C N bs bm true sn sub ab col dd k0 k1 k2 k3 k5 nid)/\Hs bmV bm ∧
  (∀h:Heap,K.In h->Al h bmV "__getattribute__" (some (.builtin "BaseException.__getattribute__")) (.ref C::bm))/\(∀h:Heap,K.In h->Al h bmV "__getattr__" none (.ref C::bm))/\∀h:Heap,K.In h->Al h bmV f none (.ref C::bm)
def Gs (K:W.Frag)(ta:TE)(f:Str): TE:=fun σ H Q=>ta σ H fun x H1=>∃a C d fs v,x=.ref a/\H1 a=some (exO a (.ref C) (some d))/\H1 d=some (xdW d fs)/\kD K C f/\fs.lookup f=some v/\Q v H1
section
variable {X:Cx}{e:Expr}{f:Str}{pos:Pos}{ta:TE}
theorem fV (he:PE X e ta)(hb:attributeBase e f X.env (eval e X.env)=eval e X.env): PE X (.Attribute e f pos) (Gs X.K ta f):=by
  intro pins s σ H Q I h
  refine yN hb (thn (he pins s σ H _ I h) fun u s1 ⟨x,H1,I1,rx,a,C,d,fs,v,ex,ea,ed,c,l,q⟩=>?_)
  subst ex
  obtain rfl:u=Value.ref a:=rx
  obtain⟨bm,N,nm,qn,bs,sn,sub,ab,col,dd,k0,k1,k2,k3,k5,nid,c1,c2,c3,c4,c5⟩:=c
  obtain⟨oe,vs,g1,g2,g3,g4⟩:=(I1.hok a _ ea).1
  obtain⟨mA,n1,r,wi⟩:=(I1.hok d _ ed).1
  obtain⟨u,hu,ru⟩:=fX.some_of (v:=v) (o:=mA f) (by rw[<-l];exact r f)
  have kin:=I1.kIn
  have I2:=I1.tok (s1.toks+1)
  obtain⟨hp,g,dr,tk,os⟩:=s1
  exact DS PySem.F.excAttr_ValueError (kin _ _ c1) (c2.has (by decide +kernel)) (c3 _ kin) (c4 _ kin) (c5 _ kin) g1 g2 g4 g3 n1 hu (W.handedOut_of (tM ru)) ⟨v,H1,I2,ru,q⟩
end
end L2

set_option maxHeartbeats 4000000
namespace L2
open PySem PySem.Spec PyProof.Rows
section
variable {A:Around}{E:Value->Shared->Prop}{h:Heap}{g:Array GenState}{d:Drawn}{t:Nat}{os:OsState}
variable {nm q:Str}{C N:Addr}{bs bm bmB:List Value}{hdct:Bool}{sn:List Str}{sub:List Value}{ab:Bool}{col:Option Bool}{dd:Option Addr}{k0 k1 k2 k3 k5:Option Value}{B newId initId:String}
theorem yf (F:ExcBaseFacts B newId initId bmB)(T:Hs bmB bm){M:Model}{e:Addr}{oe:Obj}{rest:List Value}{Q:Unit->Shared->Prop}
    (hC:h.get? C=some (excClassObj nm q C N bs bm hdct sn sub ab col dd k0 k1 k2 k3 k5 newId)) (he:h.get? e=some oe) (hcls:oe.cls=.ref C) (hq:Q () ⟨h,g,d,t,os⟩) :
    wpAny M A (checkBuiltinCall initId ⟨.ref e::rest,[]⟩) Q E ⟨h,g,d,t,os⟩:=by
  have hcB:(Value.ref C::bm).contains (.type B)=true:=by rw[List.contains_cons,T.has F.hasB,Bool.or_true]
  have hshort:=F.noStar
  simp only [checkBuiltinCall,F.initKind,F.initSplit,F.initRow]
  repeat (first | (with_reducible refine wpAny_loadPart_at he ?_;rw[hcls]) | with_reducible refine wpAny_loadPart_at hC ?_ | (with_reducible refine wpAny_isSubtype_exc hC ?_;rw[hcB]) | wp_step)
  refine wpAny_onRaise ?_
  rw[show ∀(a b:String) (n:Nat),Bind.check ⟨.positional, "*",B,.self,[⟨"args",.varPos,false⟩]⟩ a b n (List.map (fun x=>x.fst) ({ pos:=Value.ref e::rest }:Args).kw)=pure () from
    fun a b n=>check_star_args _ _ _ _ _ _]
  exact wpAny_pure hq
end
def XO (K:W.Frag)(C:Addr): Prop:=∃bm N nm qn bs hdct sn sub ab col dd k0 k1 k2 k3 k5,K.lookup C=some (excClassObj nm qn C N bs bm hdct sn sub ab col dd k0 k1 k2 k3 k5 "ValueError.__new__")/\Hs bmV bm
section
variable {X:Cx}
theorem yg:eZ X (.builtin "ValueError.__init__") (fun xs H Q=>∃a C dct rest,xs=V.ref a::rest/\H a=some (exM a (.ref C) dct)/\XO X.K C/\rest.length<=sizeLine/\Q .non (upd H a (exM a (.ref C) dct))):=by
  intro pins s σ H xs us Q I r h
  obtain⟨a,C,dct,rest,rfl,ea,⟨bm,N,nm,qn,bs,hdct,sn,sub,ab,col,dd,k0,k1,k2,k3,k5,c1,c2⟩,z,q⟩:=h
  obtain⟨w1,u1,rfl,a1,rv⟩:=Ay r
  obtain rfl:w1=Value.ref a:=a1
  obtain⟨oe,vs,g1,g2,g3,g4,g5⟩:=(I.hok a _ ea).1
  have kin:=I.kIn
  have I0:=I
  have z':u1.length<=sizeLine:=by rw[<-rv.length];exact z
  obtain⟨hp,g,dr,tk,os⟩:=s
  refine wpAny_call (codeAny_call_builtin PySem.F.excBase_ValueError.init.plain PySem.F.excBase_ValueError.initEntry (yf PySem.F.excBase_ValueError c2 (kin _ _ c1) g1 g2 ?_))
  obtain⟨v0,h0⟩:∃v0,vs[0]?=some v0:=⟨_,Array.getElem?_eq_getElem (by have:=(Array.getElem?_eq_some_iff.mp g5).1;omega)⟩
  have g1':∀tp,(hp.push tp).get? a=some oe:=fun tp=>Heap.get?_push_of_some _ g1
  repeat (any_goals (first | assumption | with_reducible refine wpAny_field (g1' _) g4 h0 ?_ | with_reducible refine wpAny_setField (g1' _) g4 (by omega) ?_ | wp_step))
  have z0:0 < vs.size:=by have:=(Array.getElem?_eq_some_iff.mp g5).1;omega
  rw[g4]
  dsimp only
  rw[if_pos z0]
  refine wpAny_update' (g1' _) ?_
  have lg:∀(Q':Unit->Shared->Prop) (E':Value->Shared->Prop) (s':Shared),Q' () s'->wpAny (model X.prog X.w) X.A.in1 (match v0 with | Value.ref a=>letGo [v0] | x=>pure ()) Q' E' s':=fun Q' E' s' hq=>by
    cases v0<;>first | exact wpAny_letGo hq | exact wpAny_pure hq
  refine lg _ _ _ ?_
  refine wpAny_pure ?_
  show EP X pins σ Q .none _
  have d3:=Obj.data_mapFields g4 (·.setIfInBounds 0 (Value.ref hp.objs.size))
  have e3:=Heap.get?_update_self (Obj.mapFields (·.setIfInBounds 0 (Value.ref hp.objs.size))) (g1' { cls:=.type "tuple",data:=.seq u1.toArray }) (Obj.isFreed_of_fields d3)
  refine⟨.non,_,?_,rfl,q⟩
  refine I0.write (x:=a) (e:=a) (by rw[ea];exact True.intro) (.inl rfl) (fun b o nb e=>?_) ⟨_,e3⟩ (uV e3 ((Obj.cls_mapFields oe _).trans g2) ((tW oe _).trans g3) d3 ?_)
  · rw[Heap.get?_update_other _ _ (Ne.symm nb)]
    exact Heap.get?_push_of_some _ e
  · rw[Array.getElem?_setIfInBounds_ne (by decide)]
    exact g5
structure Et (K:W.Frag)(C:Addr): Prop where
  sp:W.specialIn K (.ref C) "__getattribute__" = some (some (.builtin "type.__getattribute__"))
  fi:∃mc,W.readsIn K C mc=true/\W.findCls K (.ref C) mc "__init__" = some (.val (.builtin "ValueError.__init__"))
variable {C:Addr}{x:Str}{p pos apos:Pos}{e:Expr}{es:List Expr}{t:TA}
theorem wM {pl:Sem Bool}(hc:Et X.K C)(hg:Gl X x)(hm:X.mg x=some (.ref C))(ha:PA X (e::es) t)
    (hdb:(x==("__debug__" : Str))=false:=by decide)
    (hst:starEach (e::es) X.env=(false,eval e X.env)::starEach es X.env:=by rfl) (hpl:(backTo pos (starEach es X.env)).any (·.1)=false:=by rfl)
    (ht:eval (.Call (.Attribute (.Name x p) "__init__" apos) (e::es) [] pos) X.env=(do
      let ov <-eval (.Name x p) X.env
      standAt apos.atName
      let (f,first) <-holding [ov] (getMethod ov "__init__" pl)
      callWith pos f first (backTo pos (starEach (e::es) X.env)) (backToKw pos (keywordEach [] X.env))):=by rfl) :
    PE X (.Call (.Attribute (.Name x p) "__init__" apos) (e::es) [] pos) (tCB (fun xs H Q=>∃a C dct rest,xs=V.ref a::rest/\H a=some (exM a (.ref C) dct)/\XO X.K C/\rest.length<=sizeLine/\Q .non (upd H a (exM a (.ref C) dct))) t):=by
  obtain⟨mc,h1,h2⟩:=hc.fi
  intro pins s σ H Q I h
  refine W.methodCall_KW (pl:=pl) (gP I hg hm ?_ hdb) ht
  refine W.method_cls I.kIn hc.sp (W.cls_value I.kIn h1 h2 rfl ?_)
  have I':Inv X pins σ H { s with toks:=s.toks+1 }:=I.tok _
  exact PyProof.Rows.callWith_builtin1 (thn (ha pos pins _ σ H _ I' h) fun us s1 ⟨vs,H1,I1,r1,q1⟩=>yg pins s1 σ H1 vs us Q I1 r1 q1) hst hpl
end
end L2

set_option maxHeartbeats 4000000
namespace L2
open PySem PySem.Spec PyProof.Rows
def yh:List Value->Bool
  | []=>bmV==[]
  | v::r=>(v::r)==bmV || match v with
    | .ref _=>yh r
    | _=>false
theorem m9:∀{l:List Value},yh l=true->Hs bmV l
  | [],e=>by rw[<-beq_iff_eq.mp e];exact fun _=>rfl
  | v::r,e=>by
    unfold yh at e
    rcases Bool.or_eq_true_iff.mp e with q | q
    · rw[beq_iff_eq.mp q];exact fun _=>rfl
    · split at q
      · intro X
        rw[List.contains_cons,m9 q X]
        rfl
      · cases q
theorem um:∀{l:List Value},yh l=true->∀self:Value,refuseLoop self "__setattr__" l=pure ()
  | [],e=>by have:=beq_iff_eq.mp e;cases this
  | v::r,e=>by
    unfold yh at e
    rcases Bool.or_eq_true_iff.mp e with q | q
    · rw[beq_iff_eq.mp q];exact PySem.F.store_ValueError.passes
    · split at q
      · intro self
        rw[refuseLoop_ref]
        exact um q self
      · cases q
def XL (K:W.Frag)(C:Addr): Prop:=∃bm N nm qn bs sn sub ab col dd k0 k1 k2 k3 k5,K.lookup C=some (excClassObj nm qn C N bs bm true sn sub ab col dd k0 k1 k2 k3 k5 "ValueError.__new__")/\yh bm=true
section
variable {K:W.Frag}{C f:Addr}{n:Str}
theorem px.of (q:XL K C) (e:W.findIn K (.ref C) "__init__" = some (some (.ref f))) (hf:W.isFn K (.ref f)=true):px K C f:=by
  obtain⟨bm,N,nm,qn,bs,sn,sub,ab,col,dd,k0,k1,k2,k3,k5,lk,r⟩:=q
  have hf:=beq_iff_eq.mp hf
  obtain⟨o,ho,hc⟩:=Option.map_eq_some_iff.mp hf
  exact⟨bm,N,nm,qn,bs,true,sn,sub,ab,col,dd,k0,k1,k2,k3,k5,lk,m9 r,uk e,o,ho,hc⟩
theorem gT.of (q:XL K C) (e1:W.findIn K (.ref C) "__setattr__" = some (some (.builtin "object.__setattr__"))) (e2:W.findIn K (.ref C) n=some none):gT K C n:=by
  obtain⟨bm,N,nm,qn,bs,sn,sub,ab,col,dd,k0,k1,k2,k3,k5,lk,r⟩:=q
  exact⟨bm,N,nm,qn,bs,sn,sub,ab,col,dd,k0,k1,k2,k3,k5,_,lk,m9 r,um r,uk e1,uk e2⟩
theorem kD.of (q:XL K C) (e1:W.findIn K (.ref C) "__getattribute__" = some (some (.builtin "BaseException.__getattribute__"))) (e2:W.findIn K (.ref C) "__getattr__" = some none) (e3:W.findIn K (.ref C) n=some none):kD K C n:=by
  obtain⟨bm,N,nm,qn,bs,sn,sub,ab,col,dd,k0,k1,k2,k3,k5,lk,r⟩:=q
  exact⟨bm,N,nm,qn,bs,sn,sub,ab,col,dd,k0,k1,k2,k3,k5,_,lk,m9 r,uk e1,uk e2,uk e3⟩
theorem XO.of (q:XL K C): XO K C:=by
  obtain⟨bm,N,nm,qn,bs,sn,sub,ab,col,dd,k0,k1,k2,k3,k5,lk,r⟩:=q
  exact⟨bm,N,nm,qn,bs,true,sn,sub,ab,col,dd,k0,k1,k2,k3,k5,lk,m9 r⟩
end
def uo (P:Program)(w:World)(K:W.Frag)(mg:Str->Option Value)(base:Heap)(C:Addr)(k:Nat)(ps:List Str)(sp:Sp)(dvs:List V): Prop :=
  ∃f fd ds,fY P w K mg base (CXE P w) k f fd ps sp/\px K C f/\Binds K fd ps ds/\Vals dvs ds
section
variable {P:Program}{w:World}{K:W.Frag}{mg:Str->Option Value}{base:Heap}{C:Addr}{qual:Str}{st:Stmt}{N ps:List Str}{dvs:List V}{k:Nat}{sp:Sp}
end
section
variable {X:Cx}{E:St->XK}{x:Str}{C:Addr}{e₀:Expr}{es:List Expr}{t:TA}{np cpos pos:Pos}{k:Nat}{ps:List Str}{sp:Sp}{dvs:List V}
theorem Cu {P:Program}{w:World}{K:W.Frag}{mg:Str->Option Value}{base:Heap}{f:Addr}{fd:FuncData}{ds:List Value}(F:fY P w K mg base (CXE P w) k f fd ps sp)(h:px K C f)(hb:Binds K fd ps ds)(hd:Vals dvs ds): uo P w K mg base C k ps sp dvs:=⟨f,fd,ds,F,h,hb,hd⟩
theorem lD (h:uo X.prog X.w X.K X.mg X.base C k ps sp dvs) (hr:dC (k+1) X.A) (hc:X.calm=true) (hg:Gl X x) (hm:X.mg x=some (.ref C)) (hx:cD (CXE X.prog X.w) X E) (ha:PA X (e₀::es) t) (hdb:(x==("__debug__" : Str))=false:=by decide)
    (he:starEach (e₀::es) X.env=(false,eval e₀ X.env)::starEach es X.env:=by rfl) (hpl:(backTo cpos (starEach es X.env)).any (·.1)=false:=by rfl) :
    PS X (.Raise (some (.Call (.Name x np) (e₀::es) [] cpos)) none pos) (y9 C sp dvs E t):=by
  obtain⟨f,fd,ds,F,hi,hb,hd⟩:=h
  exact AF hi F hr hb hd hc hg hm hx ha hdb he hpl
end
end L2

set_option maxHeartbeats 4000000
namespace L2
open PySem PySem.Spec PyProof.Rows
end L2

set_option maxHeartbeats 4000000
namespace PySem
namespace F
theorem ow:isSubtype (.type "range_iterator") (.type "reversed")=pure false:=by rw[isSubtype_type];kernel_rfl
end F
section
variable {prog:Program}{w:World}{A:Around}{E:Value->Shared->Prop}{s:Shared}
def q_ (a b:Int): Obj:={ cls:=.type "range_iterator",data:=.fields #[rawInt (a+(Builtin.Range.rangeSize a b 1-1)*1),rawInt (Builtin.Range.rangeSize a b 1),rawInt (-1)] }
theorem AG {a b:Int}(h1:-(2^60)<=a)(h2:a < 2^60)(h3:-(2^60)<=b)(h4:b < 2^60): (Builtin.Range.rangeFitsLong a&&Builtin.Range.rangeFitsLong b&&Builtin.Range.rangeFitsLong 1&&Builtin.Range.rangeFitsLong (-1)&&Builtin.Range.rangeFitsLong (a-1)&&Builtin.Range.rangeFitsLong (Builtin.Range.rangeSize a b 1))=true:=by
  rw[rangeSize_one]
  unfold Builtin.Range.rangeFitsLong
  simp
  split<;>omega
theorem lM {l:Addr}{a b:Int}{t u v:Tok}{Q:Value->Shared->Prop}(hl:IsRange s.heap l a b 1 t u v)(h1:-(2^60)<=a)(h2:a < 2^60)(h3:-(2^60)<=b)(h4:b < 2^60)
    (h:Q (.ref s.heap.objs.size) { s with heap:=s.heap.push (q_ a b) }):wpAny (model prog w) A (call (.builtin "range.__reversed__") [.ref l]) Q E s:=by
  have sm:=AG h1 h2 h3 h4
  refine wpAny_call_entry F.slot_range_reversed ⟨_,hl,rfl⟩ F.entry_range_reversed ?_ (F.args_range_reversed_1 _)
  unfold Builtin.«range.__reversed__»
  refine wpAny_bind (wpAny_of_eq (a:=Value.ref l) rfl ?_)
  refine wpAny_bind ?_
  unfold Builtin.Range.rangeFields
  refine wpAny_bind (wpAny_field hl rfl (x:=.int a t) rfl ?_)
  refine wpAny_bind (wpAny_of_eq (a:=some a) rfl ?_)
  refine wpAny_bind (wpAny_field hl rfl (x:=.int b u) rfl ?_)
  refine wpAny_bind (wpAny_of_eq (a:=some b) rfl ?_)
  refine wpAny_bind (wpAny_field hl rfl (x:=.int 1 v) rfl ?_)
  refine wpAny_bind (wpAny_of_eq (a:=some 1) rfl ?_)
  refine wpAny_pure ?_
  dsimp only
  rw[sm]
  refine wpAny_bind (wpAny_newObj_type (wpAny_pure ⟨_,rfl,h⟩))
theorem md {l:Addr}{a b:Int}{t u v:Tok}{Q₁:Value->Shared->Prop}(hl:IsRange s.heap l a b 1 t u v)(h1:-(2^60)<=a)(h2:a < 2^60)(h3:-(2^60)<=b)(h4:b < 2^60)
    (h:Q₁ (.ref s.heap.objs.size) { s with heap:=s.heap.push (q_ a b) }) :
    codeAny (model prog w) A (.call (.builtin "reversed.__new__") ⟨[.type "reversed",.ref l],[]⟩) (wants Q₁ E) s:=by
  have hT:s.TypeIs (.ref l) "range" := ⟨_,hl,rfl⟩
  refine codeAny_of_tree ?_
  show wpAny _ A.in1 (do checkBuiltinCall "reversed.__new__" ⟨[.type "reversed",.ref l],[]⟩;again (.builtin "reversed.__new__" ⟨[.type "reversed",.ref l],[]⟩)) _ _ s
  refine wpAny_bind (wpAny_of_eq (F.newCall_reversed_1 _) (wpAny_pure ⟨plainId_quiet F.plain_reversed_new _,codeAny_builtin F.entry_reversed_new ?_⟩))
  rw[Around.under_plainId F.plain_reversed_new _]
  unfold Builtin.«reversed.__new__»
  refine wpAny_bind (wpAny_of_eq (newClass_reversed _) ?_)
  try dsimp only
  refine wpAny_bind (wpAny_of_eq (a:=()) (by first | rfl | kernel_rfl) ?_)
  refine wpAny_bind (wpAny_of_eq (a:=()) (by first | rfl | kernel_rfl) ?_)
  try dsimp only
  refine wpAny_bind (wpAny_specialOf hT F.slot_range_reversed.lookup ?_)
  try dsimp only
  refine wpAny_bind (wpAny_of_eq (F.slot_range_reversed.bind _) ?_)
  try dsimp only
  first
  | rw[if_neg (show ¬((Value.builtin "range.__reversed__" == Value.none)=true) from Bool.false_ne_true)]
  | (show wpAny _ _ (if (Value.builtin "range.__reversed__" == Value.none)=true then _ else _) _ _ _;rw[if_neg (show ¬((Value.builtin "range.__reversed__" == Value.none)=true) from Bool.false_ne_true)])
  refine wpAny_bind (wpAny_rule ?_)
  refine wpAny_bind (m:=runValue (.call (.builtin "range.__reversed__") ⟨[.ref l],[]⟩)) (show wpAny _ _ (call (.builtin "range.__reversed__") [.ref l]) _ _ _ from lM hl h1 h2 h3 h4 ?_)
  first
  | exact wpAny_pure h
  | exact wpAny_bind (wpAny_pure (wpAny_pure h))
theorem lN {l:Addr}{a b:Int}{t u v:Tok}{Q:Value->Shared->Prop}(hl:IsRange s.heap l a b 1 t u v)(h1:-(2^60)<=a)(h2:a < 2^60)(h3:-(2^60)<=b)(h4:b < 2^60)
    (h:Q (.ref s.heap.objs.size) { s with heap:=s.heap.push (q_ a b) }):wpAny (model prog w) A (call (.type "reversed") [.ref l]) Q E s:=by
  refine callType_other (U := "range_iterator") (Q₁:=fun obj s₁=>obj=.ref s.heap.objs.size/\s₁={ s with heap:=s.heap.push (q_ a b) }) (by decide +kernel) F.create_reversed ⟨_,_,F.mro_reversed⟩ F.made_reversed F.ow (F.typeCall_reversed_1 _) (md hl h1 h2 h3 h4 ⟨rfl,rfl⟩) ?_
  rintro obj s₁ ⟨rfl,rfl⟩
  exact⟨⟨_,Heap.get?_push_size _ rfl,rfl⟩,h⟩
end
end PySem
namespace L2
open PySem PySem.Spec PyProof.Rows
section
variable {X:Cx}{tg:Expr}
def Gu (ta:TA): TI:=fun σ H R=>ta σ H fun vs H1=>∃i j:Int,vs=[.int i,.int j]/\(-(2^60)<=i/\i<=j/\j < 2^60)/\R (Itd (j-1) (j-i).toNat) H1
theorem DT {a b:Expr} {ta:TA} {p p2 pos pos2:Pos} (hg:Gl X "reversed") (hm:X.mg "reversed" = none) (hg2:Gl X "range") (hm2:X.mg "range" = none) (ha:PA X [a,b] ta) (hs:starEach [a,b] X.env=[(false,eval a X.env),(false,eval b X.env)]:=by rfl) (hs2:starEach [b] X.env=[(false,eval b X.env)]:=by rfl)
    (hs3:starEach [.Call (.Name "range" p2) [a,b] [] pos2] X.env=[(false,eval (.Call (.Name "range" p2) [a,b] [] pos2) X.env)]:=by rfl) :
    PI X tg (.Call (.Name "reversed" p) [.Call (.Name "range" p2) [a,b] [] pos2] [] pos) (Gu ta):=by
  intro pins s σ H R I h
  refine Call_ (gm I hg hm PyProof.Rows.Boot.«reversed» (PyProof.Rows.callWith_type1 ?_ hs3 rfl))
  rw[hs3]
  show wpAny _ _ (spliced ((false,eval (.Call (.Name "range" p2) [a,b] [] pos2) X.env)::backTo pos [])) _ _ s
  refine Calls.spliced_cons ?_
  refine Call_ (gm I hg2 hm2 boot_range (PyProof.Rows.callWith_type1 (thn (ha pos2 pins s σ H _ I h) fun us s1 ⟨vs,H1,I1,r1,q1⟩=>?_) (by rw[hs,hs2]) (by rw[hs2];rfl)))
  obtain⟨i,j,e,⟨q1,qq,q4⟩,q⟩:=q1
  have q2:i < 2^60:=by omega
  have q3:-(2^60)<=j:=by omega
  subst e
  cases r1 with
  | cons r rr =>
    cases rr with
    | cons r' rr =>
      cases rr
      obtain⟨t,rfl⟩:=r
      obtain⟨t',rfl⟩:=r'
      refine call_range_2 (Calls.spliced_nil ?_)
      refine lN (IsRange.new ..) q1 q2 q3 q4 ?_
      have I2:Inv X pins σ H1 { s1 with heap:=s1.heap.push { cls:=.type "range",data:=.fields #[.int i t,.int j t',.int 1 s1.toks] },toks:=s1.toks+1 }:=I1.kept fun b o e=>Heap.get?_push_of_some _ e
      have st0:IsRangeIter ((s1.heap.push { cls:=.type "range",data:=.fields #[.int i t,.int j t',.int 1 s1.toks] }).push (q_ i j)) (s1.heap.push { cls:=.type "range",data:=.fields #[.int i t,.int j t',.int 1 s1.toks] }).objs.size (j-1+((0:Nat):Int)*(-1)) ((((j-i).toNat:Nat):Int)-((0:Nat):Int)) (-1):=by
        have e2:Builtin.Range.rangeSize i j 1=(((j-i).toNat:Nat):Int):=by rw[rangeSize_one];split<;>omega
        have e1:i+(Builtin.Range.rangeSize i j 1-1)*1=j-1+((0:Nat):Int)*(-1):=by rw[e2];omega
        have e3:Builtin.Range.rangeSize i j 1=(((j-i).toNat:Nat):Int)-((0:Nat):Int):=by rw[e2];omega
        rw[<-e1,<-e3]
        exact Heap.get?_push_size _ rfl
      refine wpAny_pyIter_rangeiter st0 ?_
      refine⟨_,[_],_,_,H1,rfl,I2.kept (t':=s1.toks+1) fun b o e=>Heap.get?_push_of_some _ e,ui _ (j-1) (j-i).toNat,st0,fun b hb=>?_,q⟩
      have e:b=(s1.heap.push { cls:=.type "range",data:=.fields #[.int i t,.int j t',.int 1 s1.toks] }).objs.size:=by simpa using hb
      subst e
      exact I2.sB (Nat.le_refl _) (I2.hok.fresh (Nat.le_refl _))
theorem yi:eZ X (.type "dict") (fun xs H Q=>∃a kvs,xs=[.ref a]/\H a=some (.dK kvs)/\∀p,H p=none->Q (.ref p) (upd H p (.dK kvs))):=by
  intro pins s σ H xs us Q I r h
  obtain⟨a,kvs,rfl,e,q⟩:=h
  obtain⟨u,rfl,ru⟩:=vals1 r
  cases ru
  obtain⟨z,ne,vs,rel,dd⟩:=qI I.hok e
  refine kt_call_dict ne dd (by rw[<-rel.length];exact z) fun h' d' sb=>?_
  refine⟨.ref s.heap.objs.size,upd H s.heap.objs.size (.dK kvs),I.laid (t':=s.toks) (fun b o e'=>?_) (Nat.le_refl _) (uP z (beq_eq_false_iff_ne.mpr (Ne.symm (Nat.ne_of_lt I.big))) rel d'),rfl,q _ (I.hok.fresh (Nat.le_refl _))⟩
  exact(sb.2 b (Nat.ne_of_lt (Heap.lt_size e'))).trans (Heap.get?_push_of_some _ e')
end
end L2

set_option maxHeartbeats 4000000
local macro_rules | `(tactic| walk_at "lk") => `(tactic| first | exact L2.dS | (apply L2.bV; (first | done | decide +kernel); walk_at "lk") | exact rfl)
local macro_rules | `(tactic| walk_at "hp") => `(tactic| first | assumption | exact L2.aj | (apply L2.cN; (first | done | assumption); walk_at "hp") | (apply L2.dR; (first | done | assumption); walk_at "hp"))
local macro_rules | `(tactic| walk_at "ty") => `(tactic| first | assumption | exact L2.TyE.of (L2.aF.int _) | exact L2.TyE.of (L2.aF.bl _) | exact L2.TyE.of L2.aF.non | exact L2.TyE.of (L2.aF.str _) | (apply L2.TyE.of; apply L2.aF.lst; walk_at "hp") | (apply L2.TyE.of; apply L2.aF.tup; walk_at "hp") | (apply L2.TyE.of; apply L2.aF.dK; walk_at "hp"))
local macro_rules | `(tactic| walk_at "cl") => `(tactic| first | (with_reducible show (_ : Int) ≤ _; omega) | (with_reducible show (_ : Int) < _; omega) | (with_reducible show (_ : Nat) ≤ _; omega) | (with_reducible show (_ : Nat) < _; omega) | (with_reducible assumption) | exact rfl | assumption | (with_reducible apply L2.SqL.of; walk_at "hp") | (with_reducible apply L2.SqT.of; walk_at "hp") | walk_at "hp" | ((with_reducible apply Or.inl); assumption) | ((with_reducible apply Or.inr); assumption) | (with_reducible apply Or.inl; with_reducible apply L2.SqL.of; walk_at "hp") | (with_reducible apply Or.inr; with_reducible apply L2.SqT.of; walk_at "hp") | (apply Or.inl; refine And.intro rfl ?_; apply Exists.intro; apply L2.SqL.of; walk_at "hp") | walk_at "lk" | walk_at "ty" | exact L2.bh _ _ | exact L2.cF _ | exact L2.aR | exact L2.aS (Nat.le_of_ble_eq_true rfl) | (show List.length _ < _; exact Nat.le_of_ble_eq_true rfl) | omega | (apply Exists.intro; with_reducible apply L2.SqL.of; walk_at "hp") | (apply Exists.intro; with_reducible apply L2.SqT.of; walk_at "hp") | (apply Or.inr; refine ⟨?_, ?_⟩ <;> omega) | (apply Or.inl; refine ⟨?_, ?_⟩ <;> omega) | decide | (show (0 : Int) < _; first | decide | omega | assumption) | (refine ⟨?_, ?_⟩ <;> decide) | (refine ⟨?_, ?_, ?_⟩ <;> decide) )
local macro_rules | `(tactic| walk_at "ex") => `(tactic| ((fail_if_success (refine L2.exW ?_ ?_)); (fail_if_success (refine L2.hU ?_ ?_)); (fail_if_success (refine L2.exN ?_ ?_)); (fail_if_success (refine L2.exD ?_ ?_)); apply Exists.intro))
local macro_rules | `(tactic| walk_at "go") => `(tactic| repeat (first | (apply And.intro; (walk_at "cl")) | walk_at "ex"))
namespace K19
open PySem L2
def top (i:Nat): Stmt:=PySem.Challenge.pw_leafframe_k19_space_rows.main.body.getD i (.Pass ⟨0,0,0,0⟩)
abbrev i3:Stmt:=top 30
abbrev hX:Stmt:=top 31
abbrev fJ:Stmt:=inClass (top 32) 0
abbrev i4:Stmt:=inClass (top 32) 1
abbrev jJ:Stmt:=inClass (top 32) 2
abbrev eo:Stmt:=inClass (top 32) 3
abbrev dM:Stmt:=inClass (top 32) 4
abbrev kE:Stmt:=inClass (top 32) 5
abbrev eO:Stmt:=inClass (top 32) 9
abbrev gv:Stmt:=inClass (top 32) 7
abbrev fK:Stmt:=inClass (top 32) 8
abbrev gw:Stmt:=inClass (top 32) 10
abbrev hZ:Stmt:=top 13
abbrev yj:Stmt:=top 14
abbrev bG:Stmt:=inClass (top 15) 0
abbrev cZ:Stmt:=inClass (top 15) 1
abbrev kF:Stmt:=inClass (top 16) 0
abbrev gA:Stmt:=inClass (top 16) 1
abbrev gB:Stmt:=inClass (top 17) 0
abbrev mh:Stmt:=inClass (top 17) 1
abbrev h_:Stmt:=inClass (top 17) 2
abbrev ic:Stmt:=inClass (top 18) 0
abbrev oy:Stmt:=inClass (top 18) 1
abbrev i5:Stmt:=inClass (top 18) 2
abbrev fL:Stmt:=inClass (top 19) 0
abbrev kG:Stmt:=inClass (top 19) 1
abbrev gC:Stmt:=inClass (top 19) 2
abbrev bx:Stmt:=inClass (top 7) 0
abbrev bz:Stmt:=inClass (top 8) 0
abbrev fM:Stmt:=top 21
abbrev uW:Stmt:=top 22
abbrev gD:Stmt:=inClass (top 23) 0
abbrev ie:Stmt:=inClass (top 23) 1
abbrev ig:Stmt:=inClass (top 23) 2
abbrev kH:Stmt:=inClass (top 23) 3
abbrev mj:Stmt:=inClass (top 23) 4
abbrev gb:Stmt:=inClass (top 23) 5
abbrev kI:Stmt:=inClass (top 23) 6
abbrev i6:Stmt:=inClass (top 23) 7
abbrev fN:Stmt:=inClass (top 25) 0
abbrev jK:Stmt:=inClass (top 25) 6
abbrev kJ:Stmt:=inClass (top 25) 7
abbrev jL:Stmt:=inClass (top 25) 8
abbrev ip:Stmt:=inClass (top 25) 9
abbrev dU:Stmt:=inClass (top 25) 4
abbrev kK:Stmt:=inClass (top 25) 1
abbrev jM:Stmt:=inClass (top 25) 2
abbrev iq:Stmt:=inClass (top 25) 3
abbrev jN:Stmt:=inClass (top 25) 5
abbrev jO:Stmt:=inClass (top 25) 10
abbrev iu:Stmt:=top 34
abbrev jP:Stmt:=top 35
abbrev jQ:Stmt:=top 36
abbrev i7:Stmt:=top 37
abbrev kL:Stmt:=top 38
abbrev mo:Stmt:=top 39
abbrev kM:Stmt:=top 40
abbrev kN:Stmt:=top 41
abbrev i8:Stmt:=top 42
abbrev mq:Stmt:=top 43
abbrev kP:Stmt:=top 44
abbrev gE:Stmt:=top 45
abbrev cX:Stmt:=top 46
abbrev c6:Stmt:=top 47
abbrev kQ:Stmt:=top 48
abbrev gi:Stmt:=top 49
abbrev cP:Stmt:=top 50
abbrev sJ:List Str:=["widths", "low", "width"]
theorem kR:aC sJ ["widths", "low"] (au i3):=⟨rfl,rfl,rfl,by decide +kernel,rfl,by decide +kernel,by decide +kernel⟩
abbrev rc:List Str:=["number", "bound"]
theorem pS:aC rc ["number", "bound"] (au hX):=⟨rfl,rfl,rfl,by decide +kernel,rfl,by decide +kernel,by decide +kernel⟩
abbrev oz:List Str:=["self", "widths", "low"]
theorem m_:aC oz ["self", "widths", "low"] (au fJ):=⟨rfl,rfl,rfl,by decide +kernel,rfl,by decide +kernel,by decide +kernel⟩
abbrev sK:List Str:=["self"]
theorem rd:aC sK ["self"] (au i4):=⟨rfl,rfl,rfl,by decide +kernel,rfl,by decide +kernel,by decide +kernel⟩
abbrev uX:List Str:=["self"]
theorem sL:aC uX ["self"] (au jJ):=⟨rfl,rfl,rfl,by decide +kernel,rfl,by decide +kernel,by decide +kernel⟩
abbrev lO:List Str:=["self"]
theorem kS:aC lO ["self"] (au eo):=⟨rfl,rfl,rfl,by decide +kernel,rfl,by decide +kernel,by decide +kernel⟩
abbrev kh:List Str:=["self", "address"]
theorem jR:aC kh ["self", "address"] (au dM):=⟨rfl,rfl,rfl,by decide +kernel,rfl,by decide +kernel,by decide +kernel⟩
abbrev wN:List Str:=["self", "address", "rest", "parts", "width"]
theorem fh:aC wN ["self", "address"] (au kE):=⟨rfl,rfl,rfl,by decide +kernel,rfl,by decide +kernel,by decide +kernel⟩
abbrev mr:List Str:=["self", "page", "place"]
theorem lP:aC mr ["self", "page", "place"] (au eO):=⟨rfl,rfl,rfl,by decide +kernel,rfl,by decide +kernel,by decide +kernel⟩
abbrev pT:List Str:=["self", "address"]
theorem oA:aC pT ["self", "address"] (au gv):=⟨rfl,rfl,rfl,by decide +kernel,rfl,by decide +kernel,by decide +kernel⟩
abbrev oB:List Str:=["self", "address"]
theorem ng:aC oB ["self", "address"] (au fK):=⟨rfl,rfl,rfl,by decide +kernel,rfl,by decide +kernel,by decide +kernel⟩
abbrev pU:List Str:=["self", "first", "many"]
theorem oC:aC pU ["self", "first", "many"] (au gw):=⟨rfl,rfl,rfl,by decide +kernel,rfl,by decide +kernel,by decide +kernel⟩
abbrev rg:List Str:=["rights"]
theorem pV:aC rg ["rights"] (au hZ):=⟨rfl,rfl,rfl,by decide +kernel,rfl,by decide +kernel,by decide +kernel⟩
abbrev Ft:List Str:=["rights", "deed"]
theorem DU:aC Ft ["rights", "deed"] (au yj):=⟨rfl,rfl,rfl,by decide +kernel,rfl,by decide +kernel,by decide +kernel⟩
abbrev pW:List Str:=["self", "rights"]
theorem oE:aC pW ["self", "rights"] (au bG):=⟨rfl,rfl,rfl,by decide +kernel,rfl,by decide +kernel,by decide +kernel⟩
abbrev yk:List Str:=["self", "deed"]
theorem wO:aC yk ["self", "deed"] (au cZ):=⟨rfl,rfl,rfl,by decide +kernel,rfl,by decide +kernel,by decide +kernel⟩
abbrev wQ:List Str:=["self"]
theorem uY:aC wQ ["self"] (au kF):=⟨rfl,rfl,rfl,by decide +kernel,rfl,by decide +kernel,by decide +kernel⟩
abbrev pX:List Str:=["self", "rights"]
theorem oF:aC pX ["self", "rights"] (au gA):=⟨rfl,rfl,rfl,by decide +kernel,rfl,by decide +kernel,by decide +kernel⟩
abbrev pY:List Str:=["self", "rights", "frame"]
theorem oG:aC pY ["self", "rights", "frame"] (au gB):=⟨rfl,rfl,rfl,by decide +kernel,rfl,by decide +kernel,by decide +kernel⟩
abbrev ym:List Str:=["self"]
theorem wR:aC ym ["self"] (au mh):=⟨rfl,rfl,rfl,by decide +kernel,rfl,by decide +kernel,by decide +kernel⟩
abbrev rh:List Str:=["self", "rights"]
theorem pZ:aC rh ["self", "rights"] (au h_):=⟨rfl,rfl,rfl,by decide +kernel,rfl,by decide +kernel,by decide +kernel⟩
abbrev rj:List Str:=["self", "rights", "slot"]
theorem p4:aC rj ["self", "rights", "slot"] (au ic):=⟨rfl,rfl,rfl,by decide +kernel,rfl,by decide +kernel,by decide +kernel⟩
abbrev AH:List Str:=["self"]
theorem yn:aC AH ["self"] (au oy):=⟨rfl,rfl,rfl,by decide +kernel,rfl,by decide +kernel,by decide +kernel⟩
abbrev sM:List Str:=["self", "rights"]
theorem rk:aC sM ["self", "rights"] (au i5):=⟨rfl,rfl,rfl,by decide +kernel,rfl,by decide +kernel,by decide +kernel⟩
abbrev oH:List Str:=["self", "rights", "name", "part"]
theorem nh:aC oH ["self", "rights", "name", "part"] (au fL):=⟨rfl,rfl,rfl,by decide +kernel,rfl,by decide +kernel,by decide +kernel⟩
abbrev wU:List Str:=["self"]
theorem uZ:aC wU ["self"] (au kG):=⟨rfl,rfl,rfl,by decide +kernel,rfl,by decide +kernel,by decide +kernel⟩
abbrev p5:List Str:=["self", "rights"]
theorem oJ:aC p5 ["self", "rights"] (au gC):=⟨rfl,rfl,rfl,by decide +kernel,rfl,by decide +kernel,by decide +kernel⟩
abbrev oK:List Str:=["self", "page"]
theorem ni:aC oK ["self", "page"] (au bx):=⟨rfl,rfl,rfl,by decide +kernel,rfl,by decide +kernel,by decide +kernel⟩
abbrev oM:List Str:=["self", "task", "address", "deed"]
theorem nj:aC oM ["self", "task", "address", "deed"] (au bz):=⟨rfl,rfl,rfl,by decide +kernel,rfl,by decide +kernel,by decide +kernel⟩
abbrev oN:List Str:=["nodes", "width", "below", "number", "table", "index"]
theorem cY:aC oN ["nodes", "width"] (au fM):=⟨rfl,rfl,rfl,by decide +kernel,rfl,by decide +kernel,by decide +kernel⟩
abbrev DV:List Str:=["path", "indexes", "level"]
theorem wV:aC DV ["path", "indexes"] (au uW):=⟨rfl,rfl,rfl,by decide +kernel,rfl,by decide +kernel,by decide +kernel⟩
abbrev p6:List Str:=["self", "shape"]
theorem oO:aC p6 ["self", "shape"] (au gD):=⟨rfl,rfl,rfl,by decide +kernel,rfl,by decide +kernel,by decide +kernel⟩
abbrev rm:List Str:=["self", "page"]
theorem p7:aC rm ["self", "page"] (au ie):=⟨rfl,rfl,rfl,by decide +kernel,rfl,by decide +kernel,by decide +kernel⟩
abbrev rn:List Str:=["self", "indexes", "path", "index"]
theorem gF:aC rn ["self", "indexes"] (au ig):=⟨rfl,rfl,rfl,by decide +kernel,rfl,by decide +kernel,by decide +kernel⟩
abbrev wW:List Str:=["self", "page", "node", "index"]
theorem gU:aC wW ["self", "page"] (au kH):=⟨rfl,rfl,rfl,by decide +kernel,rfl,by decide +kernel,by decide +kernel⟩
abbrev yo:List Str:=["self", "page", "leaf", "indexes", "table", "index"]
theorem gj:aC yo ["self", "page", "leaf"] (au mj):=⟨rfl,rfl,rfl,by decide +kernel,rfl,by decide +kernel,by decide +kernel⟩
abbrev pz:List Str:=["self", "page", "indexes", "path", "leaf"]
theorem gW:aC pz ["self", "page"] (au gb):=⟨rfl,rfl,rfl,by decide +kernel,rfl,by decide +kernel,by decide +kernel⟩
abbrev wX:List Str:=["self", "nodes", "width"]
theorem gX:aC wX ["self"] (au kI):=⟨rfl,rfl,rfl,by decide +kernel,rfl,by decide +kernel,by decide +kernel⟩
abbrev sN:List Str:=["self", "nodes", "many", "width"]
theorem dc:aC sN ["self"] (au i6):=⟨rfl,rfl,rfl,by decide +kernel,rfl,by decide +kernel,by decide +kernel⟩
abbrev oP:List Str:=["self", "shape", "task"]
theorem nr:aC oP ["self", "shape", "task"] (au fN):=⟨rfl,rfl,rfl,by decide +kernel,rfl,by decide +kernel,by decide +kernel⟩
abbrev u_:List Str:=["self", "page"]
theorem sO:aC u_ ["self", "page"] (au jK):=⟨rfl,rfl,rfl,by decide +kernel,rfl,by decide +kernel,by decide +kernel⟩
abbrev wY:List Str:=["self", "page", "leaf"]
theorem va:aC wY ["self", "page", "leaf"] (au kJ):=⟨rfl,rfl,rfl,by decide +kernel,rfl,by decide +kernel,by decide +kernel⟩
abbrev vb:List Str:=["self"]
theorem sP:aC vb ["self"] (au jL):=⟨rfl,rfl,rfl,by decide +kernel,rfl,by decide +kernel,by decide +kernel⟩
abbrev ro:List Str:=["self"]
theorem p8:aC ro ["self"] (au ip):=⟨rfl,rfl,rfl,by decide +kernel,rfl,by decide +kernel,by decide +kernel⟩
abbrev kT:List Str:=["self", "pages", "deed", "page"]
theorem fF:aC kT ["self", "pages", "deed"] (au dU):=⟨rfl,rfl,rfl,by decide +kernel,rfl,by decide +kernel,by decide +kernel⟩
abbrev wZ:List Str:=["self", "first", "leaves", "pages", "page", "leaf"]
theorem fj:aC wZ ["self", "first", "leaves"] (au kK):=⟨rfl,rfl,rfl,by decide +kernel,rfl,by decide +kernel,by decide +kernel⟩
abbrev vd:List Str:=["self", "first", "many", "pages"]
theorem lW:aC vd ["self", "first", "many"] (au jM):=⟨rfl,rfl,rfl,by decide +kernel,rfl,by decide +kernel,by decide +kernel⟩
abbrev rp:List Str:=["self", "first", "many", "rights", "pages", "page"]
theorem gG:aC rp ["self", "first", "many", "rights"] (au iq):=⟨rfl,rfl,rfl,by decide +kernel,rfl,by decide +kernel,by decide +kernel⟩
abbrev ve:List Str:=["self", "address", "deed", "page", "leaf"]
theorem i9:aC ve ["self", "address", "deed"] (au jN):=⟨rfl,rfl,rfl,by decide +kernel,rfl,by decide +kernel,by decide +kernel⟩
abbrev vf:List Str:=["self", "task", "other", "page", "leaf"]
theorem fW:aC vf ["self", "task"] (au jO):=⟨rfl,rfl,rfl,by decide +kernel,rfl,by decide +kernel,by decide +kernel⟩
abbrev rq:List Str:=["_law_script", "_law_k"]
theorem p9:aC rq ["_law_script", "_law_k"] (au iu):=⟨rfl,rfl,rfl,by decide +kernel,rfl,by decide +kernel,by decide +kernel⟩
abbrev vg:List Str:=["_law_found"]
theorem sQ:aC vg ["_law_found"] (au jP):=⟨rfl,rfl,rfl,by decide +kernel,rfl,by decide +kernel,by decide +kernel⟩
abbrev vh:List Str:=["_law_cell", "_law_by", "_law_prime", "_law_many"]
theorem sR:aC vh ["_law_cell", "_law_by", "_law_prime", "_law_many"] (au jQ):=⟨rfl,rfl,rfl,by decide +kernel,rfl,by decide +kernel,by decide +kernel⟩
abbrev sS:List Str:=["_law_cell", "_law_most", "_law_bys"]
theorem iw:aC sS ["_law_cell"] (au i7):=⟨rfl,rfl,rfl,by decide +kernel,rfl,by decide +kernel,by decide +kernel⟩
abbrev w5:List Str:=["_law_number"]
theorem vj:aC w5 ["_law_number"] (au kL):=⟨rfl,rfl,rfl,by decide +kernel,rfl,by decide +kernel,by decide +kernel⟩
abbrev yp:List Str:=["_law_cell", "_law_kind", "_law_number", "_law_rights"]
theorem iP:aC yp ["_law_cell"] (au mo):=⟨rfl,rfl,rfl,by decide +kernel,rfl,by decide +kernel,by decide +kernel⟩
abbrev w8:List Str:=["_law_row_here"]
theorem vm:aC w8 ["_law_row_here"] (au kM):=⟨rfl,rfl,rfl,by decide +kernel,rfl,by decide +kernel,by decide +kernel⟩
abbrev w9:List Str:=["_law_found", "_law_due", "_law_k"]
theorem nu:aC w9 ["_law_found", "_law_due"] (au kN):=⟨rfl,rfl,rfl,by decide +kernel,rfl,by decide +kernel,by decide +kernel⟩
abbrev sT:List Str:=["_law_own", "_law_widths_here", "_law_seen", "_law_page", "_law_rest", "_law_k"]
theorem df:aC sT ["_law_own", "_law_widths_here"] (au i8):=⟨rfl,rfl,rfl,by decide +kernel,rfl,by decide +kernel,by decide +kernel⟩
abbrev yq:List Str:=["_law_space", "_law_own", "_law_widths_here", "_law_page", "_law_told", "_law_pages", "_law_k", "_law_many", "_law_leaf_here"]
theorem eT:aC yq ["_law_space", "_law_own", "_law_widths_here", "_law_page"] (au mq):=⟨rfl,rfl,rfl,by decide +kernel,rfl,by decide +kernel,by decide +kernel⟩
abbrev w_:List Str:=["_law_space", "_law_way", "_law_first", "_law_rows", "_law_rights", "_law_found", "_law_refusal", "e"]
theorem d5:aC w_ ["_law_space", "_law_way", "_law_first", "_law_rows", "_law_rights"] (au kP):=⟨rfl,rfl,rfl,by decide +kernel,rfl,by decide +kernel,by decide +kernel⟩
abbrev p_:List Str:=["_law_refusal", "_law_task", "_law_address", "_law_way"]
theorem oQ:aC p_ ["_law_refusal", "_law_task", "_law_address", "_law_way"] (au gE):=⟨rfl,rfl,rfl,by decide +kernel,rfl,by decide +kernel,by decide +kernel⟩
abbrev iQ:List Str:=["_law_space", "_law_own", "_law_task", "_law_low", "_law_way", "_law_first", "_law_rows", "_law_rights", "_law_found", "_law_refusal", "_law_k", "_law_row_here"]
theorem d6:aC iQ ["_law_space", "_law_own", "_law_task", "_law_low", "_law_way", "_law_first", "_law_rows", "_law_rights"] (au cX):=⟨rfl,rfl,rfl,by decide +kernel,rfl,by decide +kernel,by decide +kernel⟩
abbrev i_:List Str:=["_law_space", "_law_own", "_law_task", "_law_low", "_law_page", "_law_cell", "_law_deed_here", "_law_address", "_law_found", "_law_refusal", "e"]
theorem cr:aC i_ ["_law_space", "_law_own", "_law_task", "_law_low", "_law_page", "_law_cell"] (au c6):=⟨rfl,rfl,rfl,by decide +kernel,rfl,by decide +kernel,by decide +kernel⟩
abbrev xc:List Str:=["_law_space", "_law_own", "_law_held", "_law_page"]
theorem vn:aC xc ["_law_space", "_law_own", "_law_held", "_law_page"] (au kQ):=⟨rfl,rfl,rfl,by decide +kernel,rfl,by decide +kernel,by decide +kernel⟩
abbrev pA:List Str:=["_law_space", "_law_own", "_law_task", "_law_low", "_law_cell", "_law_base", "_law_window", "_law_first", "_law_many", "_law_rows", "_law_way"]
theorem fk:aC pA ["_law_space", "_law_own", "_law_task", "_law_low", "_law_cell", "_law_base", "_law_window"] (au gi):=⟨rfl,rfl,rfl,by decide +kernel,rfl,by decide +kernel,by decide +kernel⟩
abbrev lX:List Str:=["_law_script", "_law_widths_here", "_law_low", "_law_total", "_law_task", "_law_window", "_law_base", "_law_spaces", "_law_owns", "_law_tasks", "_law_cells", "_law_turn", "_law_held", "_law_k", "_law_at", "_law_page", "_law_j"]
theorem dW:aC lX ["_law_script"] (au cP):=⟨rfl,rfl,rfl,by decide +kernel,rfl,by decide +kernel,by decide +kernel⟩
structure Adr where
 (aY eU aT bL bE bj fm aA aK fq bp bC b9 aZ aU aD az dg:Addr)
structure Txt (w:World)(K:W.Frag)(mg:Str->Option Value)(a:Adr): Prop where
 zb:Cls K a.fq
 dD:Cls K a.bp
 eG:Cls K a.bC
 gH:Cls K a.b9
 dE:Cls K a.aZ
 bN:Cls K a.aU
 aN:Cls K a.aD
 aP:Cls K a.az
 dh:cC K a.bp "rights"
 fw:cC K a.bC "frame"
 dG:cC K a.bC "rights"
 lY:cC K a.fq "rights"
 fz:cC K a.aZ "name"
 fA:cC K a.aZ "part"
 di:cC K a.aZ "rights"
 d7:cC K a.b9 "rights"
 iy:cC K a.b9 "slot"
 dX:cC K a.az "low"
 cQ:cC K a.az "widths"
 b_:cC K a.aD "shape"
 fB:cC K a.aD "task"
 bW:cC K a.aD "tree"
 cf:cC K a.aU "shape"
 c7:cC K a.aU "top"
 iR:qN K a.aY
 iS:mg "LeafError" = some (.ref a.aY)
 jv:qN K a.eU
 oR:mg "NoShape" = some (.ref a.eU)
 kU:qN K a.aT
 xf:mg "NoAddress" = some (.ref a.aT)
 iT:qN K a.bL
 pB:mg "NoStretch" = some (.ref a.bL)
 mw:qN K a.bE
 yr:mg "NoRights" = some (.ref a.bE)
 zc:mg "Taken" = some (.ref a.bj)
 DW:mg "Fault" = some (.ref a.fm)
 jS:mg "Unmapped" = some (.ref a.aA)
 Cv:mg "Barred" = some (.ref a.aK)
 yt:mg "Leaf" = some (.ref a.fq)
 zf:mg "Fresh" = some (.ref a.bp)
 Cw:mg "Held" = some (.ref a.bC)
 Eu:mg "Out" = some (.ref a.b9)
 zg:mg "Named" = some (.ref a.aZ)
 Fu:mg "Tree" = some (.ref a.aU)
 zh:mg "Space" = some (.ref a.aD)
 DX:mg "Shape" = some (.ref a.az)
 cu:XL K a.aA
 gN:gT K a.aA "address"
 jw:gT K a.aA "deed"
 jx:gT K a.aA "task"
 gO:kD K a.aA "address"
 jy:kD K a.aA "deed"
 jz:kD K a.aA "task"
 jA:XL K a.bj
 sU:gT K a.bj "page"
 sV:kD K a.bj "page"
 dH:XL K a.aK
 nw:gT K a.aK "address"
 rA:gT K a.aK "deed"
 rB:gT K a.aK "task"
 nA:kD K a.aK "address"
 rC:kD K a.aK "deed"
 rD:kD K a.aK "task"
 nB:Et K a.aY
 Cy:mg "NEEDED" = some (.ref a.dg)
 dg:TopD w.params K a.dg
 ja:∃t,W.nsIn K a.dg "read" = some (some (.int 1 t))
 iz:∃t,W.nsIn K a.dg "write" = some (some (.int 2 t))
 jT:∃t,mg "MOST_WIDTH" = some (.int 24 t)
 my:∃t,mg "MOST_LOW" = some (.int 6 t)
 jU:∃t,mg "MOST_PAGES" = some (.int 64 t)
 Cz:mg "all" = none
 yu:mg "bool" = none
 yv:mg "dict" = none
 zi:mg "int" = none
 bw:mg "isinstance" = none
 cT:mg "len" = none
 oS:mg "list" = none
 CA:mg "max" = none
 zj:mg "min" = none
 eI:mg "range" = none
 iA:mg "reversed" = none
 nC:mg "sorted" = none
 xh:mg "str" = none
 zm:mg "sum" = none
 lE:mg "tuple" = none
 CB:mg "zip" = none
 vp:XIs K a.bj
 jV:XIs K a.aA
 nD:XIs K a.aK
 pC:XIs K a.aT
 pD:XIs K a.bL
 rE:XIs K a.bE
 isk:IsK K
 pE:W.mroIn K a.aT (.ref a.aY)=some true
 jW:W.mroIn K a.aA (.ref a.aY)=some true
 kW:W.mroIn K a.bL (.ref a.aY)=some true
 mz:W.mroIn K a.bE (.ref a.aY)=some true
 rF:W.mroIn K a.aK (.ref a.aY)=some true
 vq:W.mroIn K a.bj (.ref a.aY)=some true
 Fv:W.kitOne K (.ref a.bj) (.ref a.bj)=some true
 Gv:W.kitOne K (.ref a.bj) (.ref a.aA)=some false
 Gw:W.kitOne K (.ref a.bj) (.ref a.fm)=some false
 Gx:W.kitOne K (.ref a.aA) (.ref a.bj)=some false
 DY:W.kitOne K (.ref a.aA) (.ref a.aA)=some true
 Fw:W.kitOne K (.ref a.aA) (.ref a.fm)=some true
 Gy:W.kitOne K (.ref a.aK) (.ref a.bj)=some false
 Fx:W.kitOne K (.ref a.aK) (.ref a.aA)=some false
 Fy:W.kitOne K (.ref a.aK) (.ref a.fm)=some true
def vv (t:Addr)(low:Int): List (Str×V):=gn "low" (.int low) (gn "widths" (.ref t) [])
theorem iU (t:Addr)(low:Int): (vv t low).lookup ("widths" : Str)=some (.ref t):=by
 unfold vv
 rw[dw,if_neg (by decide +kernel),dw,if_pos rfl]
theorem iB (t:Addr)(low:Int): (vv t low).lookup ("low" : Str)=some (.int low):=by
 unfold vv
 rw[dw,if_pos rfl]
theorem eJ (t:Addr) (low:Int) {m:Str} (h1:¬m = "widths") (h2:¬m = "low"):(vv t low).lookup m=none:=by
 unfold vv
 rw[dw,if_neg h2,dw,if_neg h1]
 rfl
structure Good (ns:List Int)(low:Int): Prop where
 len:ns.length=2\/ns.length=3
 all:∀x∈ns,1<=x/\x<=24
 yw:0<=low
 yx:low<=6
theorem vw {B:Int}: ∀{ns:List Int},(∀x∈ns,1<=x/\x<=B)->(ns.length:Int)<=ns.sum/\ns.sum<=B*ns.length
 | [],_=>by simp
 | n::r,h=>by
  have h1:=h n List.mem_cons_self
  have h2:=vw (ns:=r) fun x hx=>h x (List.mem_cons_of_mem _ hx)
  rw[List.sum_cons,List.length_cons]
  have e:B*((r.length+1:Nat):Int)=B*(r.length:Int)+B:=by rw[Int.natCast_add,Int.mul_add];simp
  rw[e]
  have e2:((r.length+1:Nat):Int)=(r.length:Int)+1:=by simp
  rw[e2]
  omega
theorem Good.sum {ns:List Int}{low:Int}(g:Good ns low): 2<=ns.sum/\ns.sum<=72:=by
 have h:=vw g.all
 have:=g.len
 omega
def iC (C:Addr)(H:Hp)(p:Addr)(ns:List Int)(low:Int): Prop:=∃dx t,H p=some (.ins C dx (vv t low))/\H t=some (.tup (ns.map V.int))
theorem iC.same {C:Addr}{H H':Hp}{p:Addr}{ns:List Int}{low:Int}(S:iC C H p ns low)(sm:Same H H'): iC C H' p ns low:=by
 obtain⟨dx,t,h1,h2⟩:=S
 exact⟨dx,t,sm _ _ h1,sm _ _ h2⟩
def nE (a:Adr): Sp:=fun vs H Q E=>∃(p:Addr) (ns:List Int) (low:Int),vs=[.ref p,.int low]/\H p=some (.lst (ns.map V.int))/\ns.length<=64 ∧
 (Good ns low->∀H',Same H H'->Q .non H')/\(¬Good ns low->∀H',Same H H'->E (.ref a.eU) none H')
def xi (a:Adr): Sp:=fun vs H Q E=>∃(p w dx:Addr) (ns:List Int) (low:Int),vs=[.ref p,.ref w,.int low]/\H p=some (.ins a.az dx [])/\H w=some (.lst (ns.map V.int))/\ns.length<=64 ∧
 (Good ns low->∀H',iC a.az H' p ns low->(∀b o,H b=some o->b≠p->H' b=some o)->Q .non H')/\(¬Good ns low->∀H',Same H H'->E (.ref a.eU) none H')
def qv (a:Adr): Sp:=fun vs H Q _=>∃(p:Addr) (ns:List Int) (low:Int),vs=[.ref p]/\iC a.az H p ns low/\Good ns low/\Q (.int (2^ns.sum.toNat)) H
def vy (a:Adr): Sp:=fun vs H Q _=>∃(p:Addr) (ns:List Int) (low:Int),vs=[.ref p]/\iC a.az H p ns low/\Good ns low/\Q (.int (2^low.toNat)) H
theorem Hq (n:Nat): inV (.int n) [V.int 2,V.int 3]=decide (n=2\/n=3):=by
 have:=wB (n:Int) [2,3]
 rw[show [V.int 2,V.int 3]=([2,3]:List Int).map V.int from rfl,this]
 rw[decide_eq_decide]
 simp only [List.mem_cons,List.not_mem_nil,or_false]
 omega
section
variable {P:Program}{w:World}{K:W.Frag}{mg:Str->Option Value}{base:Heap}{a:Adr}
theorem rG {dvs:List V} (R:cE K mg "check_shape" i3 ["widths", "low"] dvs) (T:Txt w K mg a) :
  HasFn P w K mg base 1 "check_shape" ["widths", "low"] (nE a) dvs:=by
 refine R.ok kR (fun vs H Q E h=>?_) (fun f cdv A outer s H vs Q E hr h=>?_)
 ·obtain⟨p,ns,low,rfl,_⟩:=h
  rfl
 obtain⟨p,ns,low,rfl,hp,hl,k1,k2⟩:=h
 refine⟨_,(@ah _ _ _ _ _ (bD (aW uN (aH aJ (by rfl) T.cT PySem.boot_len (@ae _ _ _ _ _ (pv 0) af rfl)) (@c8 _ _ _ _ _ (@ae _ _ _ _ _ aw (@ae _ _ _ _ _ aw af rfl) rfl)) (by with_unfolding_all rfl)) (@aq _ _ _ (hJ T.jv rfl (by rfl) T.oR ao (@ae _ _ _ _ _ b5 af rfl))) aQ)
   (@ah _ _ _ _ _ (cM bU rfl (eY (pv 0)) (bn (i:=2) kR.nd rfl (by first | exact Or.inl rfl | exact Or.inr rfl))
   (@aq _ _ _ (bD (cA (jo ku ku aw (pv 2) (qR (by rfl) T.jT))) (@aq _ _ _ (hJ T.jv rfl (by rfl) T.oR ao (@ae _ _ _ _ _ b5 af rfl))) aQ)))
   (@aq _ _ _ (bD (cA (jo ku ku aw (pv 1) (qR (by rfl) T.my))) (@aq _ _ _ (hJ T.jv rfl (by rfl) T.oR ao (@ae _ _ _ _ _ b5 af rfl))) aQ)))),?_⟩
 refine⟨_,rfl,p,_,rfl,.inl (SqL.of hp),aS (by show 2<=1000;decide),fun t ht=>⟨t,_,rfl,.inr (SqT.of aj),rfl,rfl,_,rfl,?_⟩⟩
 have sm:Same H (upd H t (.tup [V.int 2,V.int 3])):=aB ht
 generalize upd H t (.tup [V.int 2,V.int 3])=H1 at sm
 show if (!inV (.int ((ns.map V.int).length:Nat)) [V.int 2,V.int 3])=true then _ else _
 rw[Hq,List.length_map]
 refine pO (fun c=>?_) (fun c=>?_)
 ·exact⟨aR,k2 (fun g=>c g.len) _ sm⟩
 ·refine⟨_,rfl,p,rfl,⟨_,SqL.of (sm _ _ hp)⟩,g7 (xs:=ns.map V.int) (fun i σ H'=>(∃v,σ=[some (.ref p),some (.int low),v])/\H'=H1/\∀(j:Nat) (x:Int),j < i->ns[j]?=some x->1<=x/\x<=24) ⟨⟨none,rfl⟩,rfl,fun j x hj=>by omega⟩ (fun i σ H' _ z=>by rw[z.2.1];exact SqL.of (sm _ _ hp)) ?_ ?_⟩
  ·rintro i v σ H' hi ⟨⟨w,rfl⟩,rfl,al⟩
   obtain⟨x,rfl,hx⟩:=cW hi
   have bad:¬(1<=x/\x<=24)->¬Good ns low:=fun z g=>z (g.all x (List.mem_of_getElem? hx))
   refine⟨_,rfl,_,_,rfl,rfl,_,rfl,lL (fun c0=>?_) (fun c0=>?_)⟩
   ·refine⟨_,_,rfl,rfl,_,rfl,pO (fun c1=>?_) (fun c1=>?_)⟩
    ·exact⟨aR,k2 (bad fun z=>c1 z.2) _ sm⟩
    ·refine⟨⟨_,rfl⟩,rfl,fun j y hj hy=>?_⟩
     by_cases e:j=i
     ·subst e
      rw[hx] at hy
      cases hy
      exact⟨c0,c1⟩
     ·exact al j y (by omega) hy
   ·exact⟨_,rfl,sE ⟨aR,k2 (bad fun z=>c0 z.1) _ sm⟩⟩
  ·rintro σ H' ⟨⟨w,rfl⟩,rfl,al⟩
   have al':∀x∈ns,1<=x/\x<=24:=fun x hx=>by
    obtain⟨j,hj,e⟩:=List.getElem_of_mem hx
    exact al j x (by rw[List.length_map];exact hj) (by rw[List.getElem?_eq_getElem hj,e])
   refine⟨_,rfl,_,_,rfl,rfl,_,rfl,lL (fun c0=>?_) (fun c0=>?_)⟩
   ·refine⟨_,_,rfl,rfl,_,rfl,pO (fun c1=>?_) (fun c1=>?_)⟩
    ·exact⟨aR,k2 (fun g=>c1 g.yx) _ sm⟩
    ·exact k1 ⟨c,al',c0,c1⟩ _ sm
   ·exact⟨_,rfl,sE ⟨aR,k2 (fun g=>c0 g.yw) _ sm⟩⟩
theorem nF {dvs:List V} (R:kA K a.az "Shape.__init__" fJ ["self", "widths", "low"] dvs) (T:Txt w K mg a)
  (jc:HasFn P w K mg base 1 "check_shape" ["widths", "low"] (nE a) []) :
  eB P w K mg base a.az 2 ["self", "widths", "low"] (xi a) dvs:=by
 refine R.ok m_ (fun vs H Q E h=>?_) (fun f cdv A outer s H vs Q E hr h=>?_)
 ·obtain⟨p,w',dx,ns,low,rfl,_⟩:=h
  rfl
 obtain⟨p,w',dx,ns,low,rfl,hp,hw,hl,k1,k2⟩:=h
 refine⟨_,(@ah _ _ _ _ _ (bu (bv jc (hr.mono (by decide)) (by rfl) ao (@ae _ _ _ _ _ (pv 1) (@ae _ _ _ _ _ (pv 2) af rfl) rfl)))
   (@ah _ _ _ _ _ (gp (pv 0) (jt sD (by rfl) T.lE PyProof.Rows.Boot.«tuple» (@ae _ _ _ _ _ (pv 1) af rfl)) rfl)
   (@aq _ _ _ (gp (pv 0) (pv 2) rfl)))),?_⟩
 refine⟨_,rfl,_,rfl,w',ns,low,rfl,hw,hl,fun g H1 sm=>?_,fun g H1 sm=>k2 g H1 sm⟩
 refine⟨_,rfl,w',_,rfl,.inl ⟨SqL.of (sm _ _ hw),fun t ht=>⟨_,rfl,p,a.az,dx,[],rfl,aB ht _ _ (sm _ _ hp),T.aP,T.cQ,(by show 0 < 1000;decide),?_⟩⟩⟩
 refine⟨_,rfl,_,rfl,p,a.az,dx,_,rfl,aj,T.aP,T.dX,(by show 1 < 1000;decide),?_⟩
 have npt:=ay (sm _ _ hp) ht
 refine k1 g _ ⟨dx,t,aj,?_⟩ fun b o hb nb=>?_
 ·rw[av npt.symm,av npt.symm,aj]
 ·rw[av nb,av nb]
  exact aB ht _ _ (sm _ _ hb)
theorem rH {dvs:List V} (R:bB K a.az "pages" "Shape.pages" i4 ["self"] dvs) (T:Txt w K mg a) :
  aE P w K mg base a.az 1 "pages" ["self"] (qv a) dvs:=by
 refine R.ok rd (fun vs H Q E h=>?_) (fun f cdv A outer s H vs Q E hr h=>?_)
 ·obtain⟨p,ns,low,rfl,_⟩:=h
  rfl
 obtain⟨p,ns,low,rfl,S,g,k⟩:=h
 refine⟨_,(@aq _ _ _ (@aG _ _ _ _ (aM kr aw (aH (Ak rfl) (by rfl) T.zm PyProof.Rows.Boot.«sum» (@ae _ _ _ _ _ (bg (pv 0) rfl) af rfl))))),?_⟩
 obtain⟨dx,t,h1,h2⟩:=id S
 have hs:=g.sum
 refine⟨_,rfl,p,a.az,dx,_,_,rfl,h1,T.aP,T.cQ,iU t low,t,ns,rfl,SqT.of h2,_,_,rfl,rfl,⟨by omega,by omega,by decide⟩,?_⟩
 show Q (.int (1*2^ns.sum.toNat)) H
 rw[Int.one_mul]
 exact k
theorem sW {dvs:List V} (R:bB K a.az "size" "Shape.size" jJ ["self"] dvs) (T:Txt w K mg a) :
  aE P w K mg base a.az 1 "size" ["self"] (vy a) dvs:=by
 refine R.ok sL (fun vs H Q E h=>?_) (fun f cdv A outer s H vs Q E hr h=>?_)
 ·obtain⟨p,ns,low,rfl,_⟩:=h
  rfl
 obtain⟨p,ns,low,rfl,S,g,k⟩:=h
 refine⟨_,(@aq _ _ _ (@aG _ _ _ _ (aM kr aw (bg (pv 0) rfl)))),?_⟩
 obtain⟨dx,t,h1,h2⟩:=id S
 have h6:=g.yx
 have h0:=g.yw
 refine⟨_,rfl,p,a.az,dx,_,_,rfl,h1,T.aP,T.dX,iB t low,_,_,rfl,rfl,⟨by omega,by omega,by decide⟩,?_⟩
 show Q (.int (1*2^low.toNat)) H
 rw[Int.one_mul]
 exact k
end
def rJ (a:Adr): Sp:=fun vs H Q E=>∃n b:Int,vs=[.int n,.int b]/\(0<=n/\n < b->Q .non H)/\(¬(0<=n/\n < b)->E (.ref a.aT) none H)
def pgs (ns:List Int): Int:=2^ns.sum.toNat
def plc (low:Int): Int:=2^low.toNat
theorem two_pos (k:Nat): (0:Int) < 2^k:=Int.pow_pos (by decide)
theorem zn (ns:List Int): 0 < pgs ns:=two_pos _
theorem nG (low:Int): 0 < plc low:=two_pos _
theorem mB {a b:Nat}(h:a<=b): (2:Int)^a<=2^b:=by
 have:=Nat.pow_le_pow_right (show 0 < 2 by decide) h
 have e:∀k:Nat,((2^k:Nat):Int)=(2:Int)^k:=fun k=>by
  rw[Int.natCast_pow]
  rfl
 rw[<-e,<-e]
 omega
theorem Good.CD {ns:List Int}{low:Int}(g:Good ns low): pgs ns<=2^72:=mB (by have:=g.sum;omega)
theorem Good.yy {ns:List Int}{low:Int}(g:Good ns low): plc low<=64:=by
 have:plc low<=2^6:=mB (by have:=g.yx;omega)
 have e:(2:Int)^6=64:=by decide
 omega
def vA (a:Adr): Sp:=fun vs H Q E=>∃(p:Addr) (ns:List Int) (low n:Int),vs=[.ref p,.int n]/\iC a.az H p ns low/\Good ns low/\(0<=n/\n < pgs ns*plc low->Q .non H)/\(¬(0<=n/\n < pgs ns*plc low)->E (.ref a.aT) none H)
section
variable {P:Program}{w:World}{K:W.Frag}{mg:Str->Option Value}{base:Heap}{a:Adr}
theorem qa {dvs:List V} (R:cE K mg "check_inside" hX ["number", "bound"] dvs) (T:Txt w K mg a) :
  HasFn P w K mg base 1 "check_inside" ["number", "bound"] (rJ a) dvs:=by
 refine R.ok pS (fun vs H Q E h=>?_) (fun f cdv A outer s H vs Q E hr h=>?_)
 ·obtain⟨n,b,rfl,_⟩:=h
  rfl
 obtain⟨n,b,rfl,k1,k2⟩:=h
 refine⟨_,(@aq _ _ _ (bD (cA (jo ku Bn aw (pv 0) (pv 1))) (@aq _ _ _ (hJ T.kU rfl (by rfl) T.xf ao (@ae _ _ _ _ _ b5 af rfl))) aQ)),?_⟩
 refine⟨_,rfl,_,_,rfl,rfl,_,rfl,lL (fun c0=>?_) (fun c0=>?_)⟩
 ·refine⟨_,rfl,_,_,rfl,rfl,_,rfl,pO (fun c1=>?_) (fun c1=>?_)⟩
  ·exact⟨aR,k2 fun z=>c1 z.2⟩
  ·exact k1 ⟨c0,c1⟩
 ·exact⟨_,rfl,sE ⟨aR,k2 fun z=>c0 z.1⟩⟩
theorem jX {dvs:List V} (R:bB K a.az "check_address" "Shape.check_address" dM ["self", "address"] dvs) (T:Txt w K mg a)
  (cR:HasFn P w K mg base 1 "check_inside" ["number", "bound"] (rJ a) [])
  (cg:aE P w K mg base a.az 1 "pages" ["self"] (qv a) [])
  (cG:aE P w K mg base a.az 1 "size" ["self"] (vy a) []) :
  aE P w K mg base a.az 2 "check_address" ["self", "address"] (vA a) dvs:=by
 refine R.ok jR (fun vs H Q E h=>?_) (fun f cdv A outer s H vs Q E hr h=>?_)
 ·obtain⟨p,ns,low,n,rfl,_⟩:=h
  rfl
 obtain⟨p,ns,low,n,rfl,S,g,k1,k2⟩:=h
 refine⟨_,(@aq _ _ _ (bu (bv cR (hr.mono (by decide)) (by rfl) ao (@ae _ _ _ _ _ (pv 1) (@ae _ _ _ _ _ (aM qC (gq (pv 0) T.aP cg (hr.mono (by decide)) ao) (gq (pv 0) T.aP cG (hr.mono (by decide)) ao)) af rfl) rfl)))),?_⟩
 obtain⟨dx,t,h1,h2⟩:=id S
 have hp:=zn ns
 have h6:=g.yy
 have h0:=nG low
 exact⟨_,rfl,_,rfl,p,dx,_,rfl,h1,eJ t low (by decide +kernel) (by decide +kernel),p,ns,low,rfl,S,g,_,rfl,p,dx,_,rfl,h1,eJ t low (by decide +kernel) (by decide +kernel),p,ns,low,rfl,S,g,_,_,rfl,rfl,
  .inr (by show -(2^64) < plc low/\plc low < 2^64;omega),n,_,rfl,fun c=>k1 c,fun c=>k2 c⟩
end
def xj (a:Adr): Sp:=fun vs H Q E=>∃(p:Addr) (ns:List Int) (low n:Int),vs=[.ref p,.int n]/\iC a.az H p ns low/\Good ns low/\(0<=n/\n < pgs ns*plc low->Q (.int (n / plc low)) H)/\(¬(0<=n/\n < pgs ns*plc low)->E (.ref a.aT) none H)
def uq (a:Adr): Sp:=fun vs H Q E=>∃(p:Addr) (ns:List Int) (low n:Int),vs=[.ref p,.int n]/\iC a.az H p ns low/\Good ns low/\(0<=n/\n < pgs ns*plc low->Q (.int (n%plc low)) H)/\(¬(0<=n/\n < pgs ns*plc low)->E (.ref a.aT) none H)
def rK (a:Adr): Sp:=fun vs H Q E=>∃(p:Addr) (ns:List Int) (low n m:Int),vs=[.ref p,.int n,.int m]/\iC a.az H p ns low/\Good ns low/\((0<=n/\n < pgs ns)/\0<=m/\m < plc low->Q (.int (n*plc low+m)) H)/\(¬((0<=n/\n < pgs ns)/\0<=m/\m < plc low)->E (.ref a.aT) none H)
def nH (ns:List Int)(first many:Int): Prop:=(1<=many/\many<=64)/\0<=first/\first+many<=pgs ns
def lF (a:Adr): Sp:=fun vs H Q E=>∃(p:Addr) (ns:List Int) (low n m:Int),vs=[.ref p,.int n,.int m]/\iC a.az H p ns low/\Good ns low ∧
 (nH ns n m->∀q H',Same H H'->H' q=some (.lst ((kB n m.toNat).map V.int))->H q=none->Q (.ref q) H')/\(¬nH ns n m->E (.ref a.bL) none H)
section
variable {P:Program}{w:World}{K:W.Frag}{mg:Str->Option Value}{base:Heap}{a:Adr}
theorem oU {dvs:List V} (R:bB K a.az "page_of" "Shape.page_of" gv ["self", "address"] dvs) (T:Txt w K mg a)
  (a_:aE P w K mg base a.az 2 "check_address" ["self", "address"] (vA a) []) :
  aE P w K mg base a.az 3 "page_of" ["self", "address"] (xj a) dvs:=by
 refine R.ok oA (fun vs H Q E h=>?_) (fun f cdv A outer s H vs Q E hr h=>?_)
 ·obtain⟨p,ns,low,n,rfl,_⟩:=h
  rfl
 obtain⟨p,ns,low,n,rfl,S,g,k1,k2⟩:=h
 refine⟨_,(@ah _ _ _ _ _ (bu (cq (pv 0) T.aP a_ (hr.mono (by decide)) ao (@ae _ _ _ _ _ (pv 1) af rfl)))
   (@aq _ _ _ (@aG _ _ _ _ (aM uH (pv 1) (bg (pv 0) rfl))))),?_⟩
 obtain⟨dx,t,h1,h2⟩:=id S
 exact⟨_,rfl,p,dx,_,rfl,h1,eJ t low (by decide +kernel) (by decide +kernel),_,rfl,p,ns,low,n,rfl,S,g,fun c=>⟨_,rfl,_,rfl,p,a.az,dx,_,_,rfl,h1,T.aP,T.dX,iB t low,_,_,rfl,rfl,g.yw,k1 c⟩,fun c=>k2 c⟩
theorem nI {dvs:List V} (R:bB K a.az "place_of" "Shape.place_of" fK ["self", "address"] dvs) (T:Txt w K mg a)
  (a_:aE P w K mg base a.az 2 "check_address" ["self", "address"] (vA a) [])
  (cG:aE P w K mg base a.az 1 "size" ["self"] (vy a) []) :
  aE P w K mg base a.az 3 "place_of" ["self", "address"] (uq a) dvs:=by
 refine R.ok ng (fun vs H Q E h=>?_) (fun f cdv A outer s H vs Q E hr h=>?_)
 ·obtain⟨p,ns,low,n,rfl,_⟩:=h
  rfl
 obtain⟨p,ns,low,n,rfl,S,g,k1,k2⟩:=h
 refine⟨_,(@ah _ _ _ _ _ (bu (cq (pv 0) T.aP a_ (hr.mono (by decide)) ao (@ae _ _ _ _ _ (pv 1) af rfl)))
   (@aq _ _ _ (@aG _ _ _ _ (aM xS (pv 1) (aM iZ (gq (pv 0) T.aP cG (hr.mono (by decide)) ao) aw))))),?_⟩
 obtain⟨dx,t,h1,h2⟩:=id S
 refine⟨_,rfl,p,dx,_,rfl,h1,eJ t low (by decide +kernel) (by decide +kernel),_,rfl,p,ns,low,n,rfl,S,g,fun c=>⟨_,rfl,_,rfl,p,dx,_,rfl,h1,eJ t low (by decide +kernel) (by decide +kernel),p,ns,low,rfl,S,g,_,_,rfl,rfl,_,_,rfl,rfl,?_⟩,fun c=>k2 c⟩
 show Q (.int (Builtin.bitAnd n (2^low.toNat-1))) H
 rw[W.kbt_mask]
 exact k1 c
theorem lQ {dvs:List V} (R:bB K a.az "address_of" "Shape.address_of" eO ["self", "page", "place"] dvs) (T:Txt w K mg a)
  (cR:HasFn P w K mg base 1 "check_inside" ["number", "bound"] (rJ a) [])
  (cg:aE P w K mg base a.az 1 "pages" ["self"] (qv a) [])
  (cG:aE P w K mg base a.az 1 "size" ["self"] (vy a) []) :
  aE P w K mg base a.az 2 "address_of" ["self", "page", "place"] (rK a) dvs:=by
 refine R.ok lP (fun vs H Q E h=>?_) (fun f cdv A outer s H vs Q E hr h=>?_)
 ·obtain⟨p,ns,low,n,m,rfl,_⟩:=h
  rfl
 obtain⟨p,ns,low,n,m,rfl,S,g,k1,k2⟩:=h
 refine⟨_,(@ah _ _ _ _ _ (bu (bv cR (hr.mono (by decide)) (by rfl) ao (@ae _ _ _ _ _ (pv 1) (@ae _ _ _ _ _ (gq (pv 0) T.aP cg (hr.mono (by decide)) ao) af rfl) rfl)))
   (@ah _ _ _ _ _ (bu (bv cR (hr.mono (by decide)) (by rfl) ao (@ae _ _ _ _ _ (pv 2) (@ae _ _ _ _ _ (gq (pv 0) T.aP cG (hr.mono (by decide)) ao) af rfl) rfl)))
   (@aq _ _ _ (@aG _ _ _ _ (aM Ef (aM y7 (pv 1) (bg (pv 0) rfl)) (pv 2)))))),?_⟩
 obtain⟨dx,t,h1,h2⟩:=id S
 refine⟨_,rfl,_,rfl,p,dx,_,rfl,h1,eJ t low (by decide +kernel) (by decide +kernel),p,ns,low,rfl,S,g,n,_,rfl,fun c=>?_,fun c=>k2 fun z=>c z.1⟩
 refine⟨_,rfl,_,rfl,p,dx,_,rfl,h1,eJ t low (by decide +kernel) (by decide +kernel),p,ns,low,rfl,S,g,m,_,rfl,fun c2=>?_,fun c2=>k2 fun z=>c2 z.2⟩
 refine⟨_,rfl,_,rfl,p,a.az,dx,_,_,rfl,h1,T.aP,T.dX,iB t low,_,_,rfl,rfl,⟨g.yw,by have:=g.yx;omega,?_⟩,_,rfl,_,_,rfl,rfl,?_⟩
 ·have h:=g.CD
  have c1:n < pgs ns:=c.2
  have c0:0<=n:=c.1
  exact Fl c0 (by omega)
 ·show Q (.int (Builtin.bitOr (n*2^low.toNat) m)) H
  rw[wF c.1 c2.1 c2.2]
  exact k1 ⟨c,c2⟩
theorem oV {dvs:List V} (R:bB K a.az "stretch" "Shape.stretch" gw ["self", "first", "many"] dvs) (T:Txt w K mg a)
  (cg:aE P w K mg base a.az 1 "pages" ["self"] (qv a) []) :
  aE P w K mg base a.az 2 "stretch" ["self", "first", "many"] (lF a) dvs:=by
 refine R.ok oC (fun vs H Q E h=>?_) (fun f cdv A outer s H vs Q E hr h=>?_)
 ·obtain⟨p,ns,low,n,m,rfl,_⟩:=h
  rfl
 obtain⟨p,ns,low,n,m,rfl,S,g,k1,k2⟩:=h
 refine⟨_,(@ah _ _ _ _ _ (bD (cA (jo ku ku aw (pv 2) (qR (by rfl) T.jU))) (@aq _ _ _ (hJ T.iT rfl (by rfl) T.pB ao (@ae _ _ _ _ _ b5 af rfl))) aQ)
   (@ah _ _ _ _ _ (bD (cA (jo ku ku aw (pv 1) (aM iZ (gq (pv 0) T.aP cg (hr.mono (by decide)) ao) (pv 2)))) (@aq _ _ _ (hJ T.iT rfl (by rfl) T.pB ao (@ae _ _ _ _ _ b5 af rfl))) aQ)
   (@aq _ _ _ (@aG _ _ _ _ (jt (sG rfl) (by rfl) T.oS PyProof.Rows.Boot.«list» (@ae _ _ _ _ _ (An (by rfl) T.eI (@ae _ _ _ _ _ (pv 1) (@ae _ _ _ _ _ (aM cB (pv 1) (pv 2)) af rfl) rfl)) af rfl)))))),?_⟩
 obtain⟨dx,t,h1,h2⟩:=id S
 have hp:=g.CD
 refine⟨_,rfl,_,_,rfl,rfl,_,rfl,lL (fun c0=>?_) (fun c0=>?_)⟩
 ·refine⟨_,_,rfl,rfl,_,rfl,pO (fun c1=>?_) (fun c1=>?_)⟩
  ·exact⟨aR,k2 fun z=>c1 z.1.2⟩
  ·refine⟨_,rfl,_,_,rfl,rfl,_,rfl,lL (fun c2=>?_) (fun c2=>?_)⟩
   ·refine⟨_,rfl,p,dx,_,rfl,h1,eJ t low (by decide +kernel) (by decide +kernel),p,ns,low,rfl,S,g,_,rfl,_,_,rfl,rfl,_,_,rfl,rfl,_,rfl,pO (fun c3=>?_) (fun c3=>?_)⟩
    ·exact⟨aR,k2 fun z=>c3 (by have:=z.2.2;show n<=pgs ns-m;omega)⟩
    ·have c3':n<=pgs ns-m:=c3
     refine⟨_,rfl,_,rfl,_,rfl,_,_,rfl,rfl,n,n+m,rfl,fun r hr'=>⟨r,n,n+m,rfl,aj,by omega,fun q hq=>?_⟩⟩
     have e:(n+m-n).toNat=m.toNat:=by omega
     rw[e]
     exact k1 ⟨⟨c0,c1⟩,c2,by omega⟩ q _ ((aB hr').trans (aB hq)) aj ((aB hr').free hq)
   ·exact⟨_,rfl,sE ⟨aR,k2 fun z=>c2 z.2.1⟩⟩
 ·exact⟨_,rfl,sE ⟨aR,k2 fun z=>c0 z.1.1⟩⟩
end
def zo (a:Adr): Sp:=fun vs H Q _=>∃(p:Addr) (ns:List Int) (low:Int),vs=[.ref p]/\iC a.az H p ns low/\Good ns low/\∀t H',Same H H'->H' t=some (.tup ((ns++[low]).map V.int))->Q (.ref t) H'
def Ew (a:Adr): Sp:=fun vs H Q E=>∃(p:Addr) (ns:List Int) (low n:Int),vs=[.ref p,.int n]/\iC a.az H p ns low/\Good ns low ∧
 (0<=n/\n < pgs ns*plc low->∀t H',Same H H'->H' t=some (.tup ((parts (ns++[low]) n).map V.int))->Q (.ref t) H')/\(¬(0<=n/\n < pgs ns*plc low)->E (.ref a.aT) none H)
theorem Good.ws {ns:List Int}{low:Int}(g:Good ns low): ∀w∈ns++[low],0<=w/\w<=24:=fun w hw=>by
 rcases List.mem_append.mp hw with h | h
 ·have:=g.all w h;omega
 ·rw[List.mem_singleton] at h
  subst h
  have:=g.yw
  have:=g.yx
  omega
theorem DZ {ws:List Int}{n:Int}{ps:List Int}(h:mZ ws.reverse n=ps): ps.reverse=parts ws n:=by
 unfold parts
 rw[h]
section
variable {P:Program}{w:World}{K:W.Frag}{mg:Str->Option Value}{base:Heap}{a:Adr}
theorem kX {dvs:List V} (R:bB K a.az "part_widths" "Shape.part_widths" eo ["self"] dvs) (T:Txt w K mg a) :
  aE P w K mg base a.az 1 "part_widths" ["self"] (zo a) dvs:=by
 refine R.ok kS (fun vs H Q E h=>?_) (fun f cdv A outer s H vs Q E hr h=>?_)
 ·obtain⟨p,ns,low,rfl,_⟩:=h
  rfl
 obtain⟨p,ns,low,rfl,S,g,k⟩:=h
 refine⟨_,(@aq _ _ _ (@aG _ _ _ _ (aM yQ (bg (pv 0) rfl) (@c8 _ _ _ _ _ (@ae _ _ _ _ _ (bg (pv 0) rfl) af rfl))))),?_⟩
 obtain⟨dx,t,h1,h2⟩:=id S
 have hlen:=g.len
 refine⟨_,rfl,p,a.az,dx,_,_,rfl,h1,T.aP,T.cQ,iU t low,_,rfl,p,a.az,dx,_,_,rfl,h1,T.aP,T.dX,iB t low,aR,fun q hq=>?_⟩
 refine⟨t,q,_,_,rfl,rfl,SqT.of (aB hq _ _ h2),SqT.of aj,?_,?_,⟨fun z=>(by cases z),fun _ r hr'=>?_⟩⟩
 ·intro z
  have:=congrArg List.length z
  rw[List.length_map] at this
  simp at this
  rw[this] at hlen
  simp at hlen
 ·rw[List.length_map,sizeLine_eq];show ns.length+1<=_;omega
 ·refine k r _ ((aB hq).trans (aB hr')) ?_
  rw[aj,List.map_append]
  rfl
theorem vB {dvs:List V} (R:bB K a.az "cut" "Shape.cut" kE ["self", "address"] dvs) (T:Txt w K mg a)
  (a_:aE P w K mg base a.az 2 "check_address" ["self", "address"] (vA a) [])
  (ez:aE P w K mg base a.az 1 "part_widths" ["self"] (zo a) []) :
  aE P w K mg base a.az 3 "cut" ["self", "address"] (Ew a) dvs:=by
 refine R.ok fh (fun vs H Q E h=>?_) (fun f cdv A outer s H vs Q E hr h=>?_)
 ·obtain⟨p,ns,low,n,rfl,_⟩:=h
  rfl
 obtain⟨p,ns,low,n,rfl,S,g,k1,k2⟩:=h
 refine⟨_,(@ah _ _ _ _ _ (bu (cq (pv 0) T.aP a_ (hr.mono (by decide)) ao (@ae _ _ _ _ _ (pv 1) af rfl)))
   (@ah _ _ _ _ _ (@aI _ _ 2 _ _ _ _ fh.nd rfl (by first | exact Or.inl rfl | exact Or.inr rfl) (pv 1) (by rfl) (by first | exact Or.inl rfl | exact Or.inr rfl))
   (@ah _ _ _ _ _ (@aI _ _ 3 _ _ _ _ fh.nd rfl (by first | exact Or.inl rfl | exact Or.inr rfl) (@eh _ _ _ _ af) (by rfl) (by first | exact Or.inl rfl | exact Or.inr rfl))
   (@ah _ _ _ _ _ (cM bU rfl (DG (by rfl) T.iA (gq (pv 0) T.aP ez (hr.mono (by decide)) ao)) (bn (i:=4) fh.nd rfl (by first | exact Or.inl rfl | exact Or.inr rfl))
   (@ah _ _ _ _ _ (bu (tR PySem.F.plainAttrs_list PySem.F.slot_list_append PySem.F.type_list_append fH (pv 3) (@ae _ _ _ _ _ (aM xS (pv 2) (aM iZ (aM kr aw (pv 4)) aw)) af rfl)))
   (@aq _ _ _ (@aI _ _ 2 _ _ _ _ fh.nd rfl (by first | exact Or.inl rfl | exact Or.inr rfl) (aM uH (pv 2) (pv 4)) (by rfl) (by first | exact Or.inl rfl | exact Or.inr rfl)))))
   (@aq _ _ _ (@aG _ _ _ _ (uT rfl (by rfl) T.lE (by rfl) T.iA (pv 3)))))))),?_⟩
 obtain⟨dx,t0,h1,h2⟩:=id S
 have hws:=g.ws
 have hlen:=g.len
 refine⟨_,rfl,p,dx,_,rfl,h1,eJ t0 low (by decide +kernel) (by decide +kernel),_,rfl,p,ns,low,n,rfl,S,g,fun c=>?_,fun c=>k2 c⟩
 refine⟨_,rfl,aS (by show 0<=1000;decide),fun q hq=>?_⟩
 have s1:=aB (u:=.lst []) hq
 have q1:(upd H q (.lst [])) q=some (.lst []):=aj
 generalize upd H q (.lst [])=H1 at s1 q1
 refine⟨_,rfl,p,dx,_,rfl,s1 _ _ h1,eJ t0 low (by decide +kernel) (by decide +kernel),p,ns,low,rfl,S.same s1,g,fun t H2 s2 ht=>⟨t,_,rfl,SqT.of ht,?_⟩⟩
 generalize hW:ns++[low]=ws at hws ht k1
 have wl:ws.length<=4:=by rw[<-hW,List.length_append];show ns.length+1<=4;omega
 refine B8 (xs:=ws.map V.int) (fun i σ H'=>∃(rest:Int) (ps:List Int) (v:Option V),σ=[some (.ref p),some (.int n),some (.int rest),some (.ref q),v]/\H' q=some (.lst (ps.map V.int))/\(∀b o,H2 b=some o->b≠q->H' b=some o)/\ps.length=i/\0<=rest/\mZ ws.reverse n=ps++mZ (ws.reverse.drop i) rest)
  ⟨n,[],none,rfl,s2 _ _ q1,fun b o hb _=>hb,rfl,c.1,rfl⟩ (fun i σ H' _ z=>?_) ?_ ?_
 ·obtain⟨_,_,_,_,hq',fr,_⟩:=z
  exact SqT.of (fr _ _ ht (L2.tI ht (s2 _ _ q1) (by intro z;cases z)))
 ·rintro i v σ H' hi ⟨rest,ps,u,rfl,hq',fr,hp,r0,e⟩
  rw[<-List.map_reverse] at hi
  obtain⟨w',rfl,hw⟩:=cW hi
  have wm:w'∈ws:=List.mem_reverse.mp (List.mem_of_getElem? hw)
  have wb:=hws w' wm
  refine⟨_,rfl,.inl ⟨rfl,_,SqL.of hq'⟩,_,rfl,_,rfl,_,_,rfl,rfl,⟨by omega,by omega,by decide⟩,_,_,rfl,rfl,_,_,rfl,rfl,q,_,_,rfl,rfl,hq',?_,?_⟩
  ·have:=(List.getElem?_eq_some_iff.mp hw).1
   rw[List.length_reverse] at this
   rw[List.length_map,sizeLine_eq]
   omega
  refine⟨_,rfl,_,rfl,_,_,rfl,rfl,wb.1,rest / 2^w'.toNat,ps++[rest%2^w'.toNat],_,rfl,?_,fun b o hb nb=>?_,by rw[List.length_append,hp];rfl,ya r0,?_⟩
  ·rw[aj,List.map_append]
   show some (HO.lst (ps.map V.int++[V.int (Builtin.bitAnd rest (1*2^w'.toNat-1))]))=_
   rw[Int.one_mul,W.kbt_mask]
   rfl
  ·rw[av nb];exact fr b o hb nb
  ·have hd:ws.reverse.drop i=w'::ws.reverse.drop (i+1):=by
    have:=(List.getElem?_eq_some_iff.mp hw)
    obtain⟨hlt,he⟩:=this
    rw[List.drop_eq_getElem_cons hlt,he]
   rw[e,hd,mZ,List.append_assoc]
   rfl
 ·rintro σ H' ⟨rest,ps,v,rfl,hq',fr,hp,r0,e⟩
  rw[List.length_map] at e
  rw[List.drop_eq_nil_of_le (by rw[List.length_reverse];exact Nat.le_refl _)] at e
  refine⟨_,rfl,q,_,rfl,SqL.of hq',fun r hr'=>?_⟩
  have sm:Same H H':=fun b o hb=>fr b o (s2 _ _ (s1 _ _ hb)) (ay hb hq)
  refine k1 c r _ (sm.trans (aB hr')) ?_
  rw[aj,<-List.map_reverse]
  have e':mZ ws.reverse n=ps:=by rw[e];simp[mZ]
  rw[DZ e']
end
end K19

set_option maxHeartbeats 4000000
namespace K19
open PySem L2
abbrev Ix:=List Int
structure rL (H:Hp)(d:Addr)(ch:Int->Option Addr)(cn:Nat): Prop where
 at':∃kvs,H d=some (.dK kvs)/\(∃ks:List Int,fe kvs ks)/\(kvs.map (·.1)).Nodup/\(∀i:Int,bq kvs (.inl i)=(ch i).map V.ref)/\kvs.length<=cn
structure eD (H:Hp)(n:Nat)(top:Addr)(nd:Ix->Option Addr)(fp:List Addr)(cn:Nat): Prop where
 tp:nd []=some top
 tb:∀π d,π.length < n->nd π=some d->rL H d (fun i=>nd (π++[i])) cn/\d∈fp
 inj:∀π ρ d,π.length < n->ρ.length < n->nd π=some d->nd ρ=some d->π=ρ
 up:∀π i x,nd (π++[i])=some x->∃d,nd π=some d
 lg:∀π x,nd π=some x->π.length<=n
 lv:∀b∈fp,∃kvs:List (Key×V),H b=some (.dK kvs)
def Full (n:Nat)(nd:Ix->Option Addr): Prop:=∀π d,nd π=some d->π≠[]->π.length < n->∃i x,nd (π++[i])=some x
theorem rL.keep {H H':Hp}{d:Addr}{ch:Int->Option Addr}{cn:Nat}(T:rL H d ch cn)(k:∀kvs:List (Key×V),H d=some (.dK kvs)->H' d=some (.dK kvs)): rL H' d ch cn:=by
 obtain⟨kvs,h,r⟩:=T
 exact⟨kvs,k _ h,r⟩
theorem rL.mono {H:Hp}{d:Addr}{ch:Int->Option Addr}{cn cn':Nat}(T:rL H d ch cn)(h:cn<=cn'): rL H d ch cn':=by
 obtain⟨kvs,h1,h2,h3,h4,h5⟩:=T
 exact⟨kvs,h1,h2,h3,h4,Nat.le_trans h5 h⟩
theorem eD.keep {H H':Hp}{n:Nat}{top:Addr}{nd:Ix->Option Addr}{fp:List Addr}{cn:Nat}(S:eD H n top nd fp cn)(k:∀b u,H b=some u->b∈fp->H' b=some u): eD H' n top nd fp cn :=
 { S with
  tb:=fun π d h1 h2=>by
   obtain⟨T,m⟩:=S.tb π d h1 h2
   exact⟨T.keep fun kvs e=>k _ _ e m,m⟩
  lv:=fun b hb=>by
   obtain⟨kvs,e⟩:=S.lv b hb
   exact⟨kvs,k _ _ e hb⟩ }
theorem eD.same {H H':Hp}{n:Nat}{top:Addr}{nd:Ix->Option Addr}{fp:List Addr}{cn:Nat}(S:eD H n top nd fp cn)(s:Same H H'): eD H' n top nd fp cn:=S.keep fun b u e _=>s _ _ e
theorem eD.mono {H:Hp}{n:Nat}{top:Addr}{nd:Ix->Option Addr}{fp:List Addr}{cn cn':Nat}(S:eD H n top nd fp cn)(h:cn<=cn'): eD H n top nd fp cn' :=
 { S with tb:=fun π d h1 h2=>⟨(S.tb π d h1 h2).1.mono h,(S.tb π d h1 h2).2⟩ }
theorem ur {kvs:List (Key×V)}{k:Key}{v v0:V}(h:bq kvs k=some v0): (putK kvs k v).map (·.1)=kvs.map (·.1):=by
 unfold putK
 have e:(kvs.any fun kv=>decide (kv.1=k))=true:=by rw[fc,h];rfl
 rw[if_pos e,List.map_map]
 refine List.map_congr_left fun p _=>?_
 show (if p.1=k then (p.1,v) else p).1=p.1
 split<;>rfl
theorem rM {kvs:List (Key×V)}{ks:List Int}(i:Int)(v:V)(ek:fe kvs ks)(nd:(kvs.map (·.1)).Nodup): (∃ks':List Int,fe (putK kvs (.inl i) v) ks')/\((putK kvs (.inl i) v).map (·.1)).Nodup:=by
 cases e:bq kvs (.inl i) with
 | none=>exact⟨⟨ks++[i],by unfold fe;rw[qG _ e,List.map_append,List.map_append,ek];rfl⟩,yW _ nd e⟩
 | some w=>exact⟨⟨ks,by unfold fe;rw[ur e];exact ek⟩,by rw[ur e];exact nd⟩
theorem jY (kvs:List (Key×V))(k j:Key): bq (dA kvs k) j=if j=k then none else bq kvs j:=by
 induction kvs with
 | nil=>unfold bq dA;simp
 | cons p r ih =>
  by_cases e:p.1=k
  ·rw[oi e,ih]
   by_cases q:j=k
   ·rw[if_pos q,if_pos q]
   ·rw[if_neg q,if_neg q]
    unfold bq
    rw[List.find?_cons_of_neg]
    simpa using fun z:p.1=j=>q (z.symm.trans e)
  ·rw[oj e]
   by_cases z:p.1=j
   ·subst z
    rw[if_neg e]
    unfold bq
    rw[List.find?_cons_of_pos (by simp),List.find?_cons_of_pos (by simp)]
   ·have e1:bq (p::dA r k) j=bq (dA r k) j:=by
     unfold bq;rw[List.find?_cons_of_neg (by simpa using z)]
    have e2:bq (p::r) j=bq r j:=by
     unfold bq;rw[List.find?_cons_of_neg (by simpa using z)]
    rw[e1,e2,ih]
theorem lG {k:Int}: ∀{kvs:List (Key×V)} {ks:List Int},fe kvs ks->fe (dA kvs (.inl k)) (ks.filter fun j=>decide (j≠k))
 | [],[],_=>rfl
 | [],k'::ks,h=>by cases h
 | p::r,[],h=>by cases h
 | p::r,j::ks,h=>by
  have h':=List.cons.inj h
  have ih:=lG (k:=k) h'.2
  have hp:p.1=.inl j:=h'.1
  by_cases e:j=k
  ·rw[oi (by rw[hp,e]),List.filter_cons_of_neg (by simpa using e)];exact ih
  ·rw[oj (fun w=>e (Sum.inl.inj (hp.symm.trans w))),List.filter_cons_of_pos (by simpa using e)]
   unfold fe at ih ⊢
   rw[List.map_cons,List.map_cons,ih,hp]
theorem zp {π ρ:Ix}{i j:Int}(h:¬(π=ρ/\i=j)): π++[i]≠ρ++[j]:=fun z=>by
 have:=List.append_inj' z rfl
 exact h ⟨this.1,by simpa using this.2⟩
section
variable {H:Hp}{n:Nat}{top:Addr}{nd:Ix->Option Addr}{fp:List Addr}{cn:Nat}
def bH (nd:Ix->Option Addr)(ι:Ix)(v:Option Addr): Ix->Option Addr:=fun ρ=>if ρ=ι then v else nd ρ
theorem eD.at1 (S:eD H n top nd fp cn){H':Hp}{π:Ix}{d:Addr}{i:Int}{v:Option Addr}{kvs':List (Key×V)}{fp':List Addr}{cn':Nat}(cc:cn<=cn')(hl:π.length < n)(hd:nd π=some d)(h':H' d=some (.dK kvs'))(ik:∃ks:List Int,fe kvs' ks)(nk:(kvs'.map (·.1)).Nodup)
  (vi:bq kvs' (.inl i)=v.map V.ref) (vo:∀j:Int,j≠i->bq kvs' (.inl j)=(nd (π++[j])).map V.ref) (ln:kvs'.length<=cn') (no:∀j,nd (π++[i]++[j])=none)
  (kp:∀b u,H b=some u->b∈fp->b≠d->H' b=some u) (sub:∀b∈fp,b∈fp')
  (new:∀e,v=some e->π.length+1 < n->H' e=some (.dK [])/\e∉fp/\e∈fp') (lv':∀b∈fp',∃kvs:List (Key×V),H' b=some (.dK kvs)):eD H' n top (bH nd (π++[i]) v) fp' cn':=by
 have ne0:([]:Ix)≠π++[i]:=fun z=>by have:=congrArg List.length z;simp at this
 have pp:bH nd (π++[i]) v π=some d:=by
  unfold bH;rw[if_neg fun z=>by have:=congrArg List.length z;simp at this];exact hd
 have lpi:(π++[i]).length=π.length+1:=by simp
 refine⟨by unfold bH;rw[if_neg ne0];exact S.tp,fun ρ e h1 h2=>?_,fun ρ τ e h1 h2 h3 h4=>?_,fun ρ j x h=>?_,fun ρ x h=>?_,lv'⟩
 ·by_cases c:ρ=π++[i]
  ·subst c
   unfold bH at h2
   rw[if_pos rfl] at h2
   rw[lpi] at h1
   obtain⟨q1,q2,q3⟩:=new e h2 h1
   refine⟨⟨[],q1,⟨[],rfl⟩,List.nodup_nil,fun j=>?_,Nat.zero_le _⟩,q3⟩
   unfold bH
   rw[if_neg fun z=>by have:=congrArg List.length z;simp at this,no j]
   rfl
  ·have h2':nd ρ=some e:=by unfold bH at h2;rw[if_neg c] at h2;exact h2
   by_cases c2:ρ=π
   ·subst c2
    rw[hd] at h2'
    cases h2'
    refine⟨⟨kvs',h',ik,nk,fun j=>?_,ln⟩,sub _ (S.tb ρ d hl hd).2⟩
    unfold bH
    by_cases c3:j=i
    ·subst c3;rw[if_pos rfl];exact vi
    ·rw[if_neg (zp fun w=>c3 w.2)];exact vo j c3
   ·obtain⟨T,m⟩:=S.tb ρ e h1 h2'
    have ed:e≠d:=fun z=>c2 (S.inj ρ π d h1 hl (by rw[<-z];exact h2') hd)
    have T':=(T.keep fun kvs q=>kp _ _ q m ed).mono cc
    obtain⟨kvs,t1,t2,t3,t4,t5⟩:=T'
    refine⟨⟨kvs,t1,t2,t3,fun j=>?_,t5⟩,sub _ m⟩
    unfold bH
    rw[if_neg (zp fun w=>c2 w.1)]
    exact t4 j
 ·unfold bH at h3 h4
  by_cases c1:ρ=π++[i]
  ·rw[if_pos c1] at h3
   by_cases c2:τ=π++[i]
   ·rw[c1,c2]
   ·rw[if_neg c2] at h4
    have:π.length+1 < n:=by rw[c1,lpi] at h1;exact h1
    exact absurd (S.tb τ e h2 h4).2 (new e h3 this).2.1
  ·rw[if_neg c1] at h3
   by_cases c2:τ=π++[i]
   ·rw[if_pos c2] at h4
    have:π.length+1 < n:=by rw[c2,lpi] at h2;exact h2
    exact absurd (S.tb ρ e h1 h3).2 (new e h4 this).2.1
   ·rw[if_neg c2] at h4
    exact S.inj ρ τ e h1 h2 h3 h4
 ·unfold bH at h
  by_cases c:ρ++[j]=π++[i]
  ·have:=List.append_inj' c rfl
   rw[this.1]
   exact⟨d,pp⟩
  ·rw[if_neg c] at h
   obtain⟨e,q⟩:=S.up ρ j x h
   unfold bH
   by_cases c2:ρ=π++[i]
   ·rw[c2,no j] at h;cases h
   ·exact⟨e,by rw[if_neg c2];exact q⟩
 ·unfold bH at h
  by_cases c:ρ=π++[i]
  ·rw[c,lpi];exact hl
  ·rw[if_neg c] at h;exact S.lg ρ x h
theorem eD.above (S:eD H n top nd fp cn){π:Ix}(h:nd π=none): ∀j,nd (π++[j])=none:=fun j=>by
 cases e:nd (π++[j]) with
 | none=>rfl
 | some x=>obtain⟨d,q⟩:=S.up π j x e;rw[h] at q;cases q
end
end K19

set_option maxHeartbeats 4000000
namespace K19
open PySem L2
structure jd (a:Adr)(H:Hp)(p:Addr)(ns:List Int)(low:Int)(nd:Ix->Option Addr)(fp:List Addr)(cn:Nat): Prop where
 ob:∃dx sh top,H p=some (.ins a.aU dx [("shape",.ref sh),("top",.ref top)])/\iC a.az H sh ns low/\eD H ns.length top nd fp cn
 g:Good ns low
 fu:Full ns.length nd
 ib:∀π x,nd π=some x->Fit (ns.take π.length) π
theorem jd.same {a:Adr}{H H':Hp}{p:Addr}{ns:List Int}{low:Int}{nd:Ix->Option Addr}{fp:List Addr}{cn:Nat}(S:jd a H p ns low nd fp cn)(s:Same H H'): jd a H' p ns low nd fp cn:=by
 obtain⟨⟨dx,sh,top,h1,h2,h3⟩,g,fu,ib⟩:=S
 exact⟨⟨dx,sh,top,s _ _ h1,h2.same s,h3.same s⟩,g,fu,ib⟩
theorem dj (ns:List Int)(n:Int): (parts ns n).length=ns.length:=by
 unfold parts
 rw[List.length_reverse]
 have:∀(ws:List Int) (n:Int),(mZ ws n).length=ws.length:=by
  intro ws
  induction ws with
  | nil=>intro n;rfl
  | cons w ws ih=>intro n;show (mZ ws _).length+1=_;rw[ih];rfl
 rw[this,List.length_reverse]
theorem CF (ws:List Int)(h:1<=ws.length): lK (ws.map V.int) none (some (-1))=(ws.take (ws.length-1)).map V.int:=by
 unfold lK
 rw[HT.wk,List.length_map,List.drop_zero,List.map_take]
 have e:HT.sIx ws.length ws.length (some (-1))=ws.length-1:=by
  show (if (-1:Int) < 0 then ((-1:Int)+(ws.length:Int)).toNat else min (-1:Int).toNat ws.length)=_
  rw[if_pos (by decide)]
  omega
 rw[e,Nat.sub_zero]
theorem lH (ws:List Int)(x:Int): lK ((ws++[x]).map V.int) none (some (-1))=ws.map V.int:=by
 rw[CF _ (by rw[List.length_append];show 1<=ws.length+1;omega),List.length_append]
 show ((ws++[x]).take (ws.length+1-1)).map V.int=_
 rw[Nat.add_sub_cancel,List.take_left' rfl]
theorem eD.pre {H:Hp}{n:Nat}{top:Addr}{nd:Ix->Option Addr}{fp:List Addr}{cn:Nat}(S:eD H n top nd fp cn): ∀(k:Nat) {ι:Ix} {x:Addr},ι.length=k->nd ι=some x->∀j,∃d,nd (ι.take j)=some d:=by
 intro k
 induction k with
 | zero =>
  intro ι x hk h j
  have:ι=[]:=List.eq_nil_of_length_eq_zero hk
  subst this
  rw[List.take_nil];exact⟨x,h⟩
 | succ k ih =>
  intro ι x hk h j
  by_cases c:ι.length<=j
  ·rw[List.take_of_length_le c];exact⟨x,h⟩
  ·have ne:ι≠[]:=fun z=>by rw[z] at hk;cases hk
   have e:=List.dropLast_concat_getLast ne
   rw[<-e] at h
   obtain⟨d,q⟩:=S.up _ _ _ h
   have l:ι.dropLast.length=k:=by rw[List.length_dropLast,hk];rfl
   obtain⟨d',q'⟩:=ih l q j
   refine⟨d',?_⟩
   rw[<-q']
   congr 1
   rw[List.dropLast_eq_take,List.take_take]
   congr 1
   omega
def zq (a:Adr): Sp:=fun vs H Q _=>∃(p sh dx:Addr) (ns:List Int) (low:Int),vs=[.ref p,.ref sh]/\H p=some (.ins a.aU dx [])/\iC a.az H sh ns low/\Good ns low ∧
 ∀top H',H top=none->jd a H' p ns low (fun π=>if π=[] then some top else none) [top] 0->(∀b u,H b=some u->b≠p->H' b=some u)->Q .non H'
def zt (a:Adr): Sp:=fun vs H Q E=>∃(p:Addr) (ns:List Int) (low n:Int) (nd:Ix->Option Addr) (fp:List Addr) (cn:Nat),vs=[.ref p,.int n]/\jd a H p ns low nd fp cn ∧
 (0<=n/\n < pgs ns->∀t H',Same H H'->H' t=some (.tup ((parts ns n).map V.int))->Q (.ref t) H')/\(¬(0<=n/\n < pgs ns)->E (.ref a.aT) none H)
def ndV:Option Addr->V
 | some x=>.ref x
 | none=>.non
def zu (a:Adr): Sp:=fun vs H Q E=>∃(p:Addr) (ns:List Int) (low n:Int) (nd:Ix->Option Addr) (fp:List Addr) (cn:Nat),vs=[.ref p,.int n]/\jd a H p ns low nd fp cn ∧
 (0<=n/\n < pgs ns->∀H',Same H H'->Q (ndV (nd (parts ns n))) H')/\(¬(0<=n/\n < pgs ns)->E (.ref a.aT) none H)
section
variable {P:Program}{w:World}{K:W.Frag}{mg:Str->Option Value}{base:Heap}{a:Adr}
theorem oW {dvs:List V} (R:kA K a.aU "Tree.__init__" gD ["self", "shape"] dvs) (T:Txt w K mg a) :
  eB P w K mg base a.aU 1 ["self", "shape"] (zq a) dvs:=by
 refine R.ok oO (fun vs H Q E h=>?_) (fun f cdv A outer s H vs Q E hr h=>?_)
 ·obtain⟨p,sh,dx,ns,low,rfl,_⟩:=h
  rfl
 obtain⟨p,sh,dx,ns,low,rfl,hp,S,g,k⟩:=h
 refine⟨_,(@ah _ _ _ _ _ (gp (pv 0) (pv 1) rfl)
   (@aq _ _ _ (gp (pv 0) qK rfl))),?_⟩
 have t1:=T.bN;have t2:=T.cf;have t3:=T.c7
 walk_at "go"
 intro d hd
 have hdp:d≠p:=fun z=>by rw[z,aj] at hd;cases hd
 have hd0:H d=none:=by rw[av hdp] at hd;exact hd
 walk_at "go"
 rw[jH,j9 (by decide +kernel),jH]
 obtain⟨dxs,ts,hs,hw⟩:=id S
 have nps:p≠sh:=fun z=>by
  rw[z,hs] at hp
  injection hp with hp
  injection hp with _ _ hf
  have:=iB ts low
  rw[hf] at this
  cases this
 have npt:p≠ts:=tI hp hw (by intro z;cases z)
 have kp:∀b u,H b=some u->b≠p->upd (upd (upd H p (.ins a.aU dx [("shape",.ref sh)])) d (.dK [])) p (.ins a.aU dx [("shape",.ref sh),("top",.ref d)]) b=some u:=fun b u e nb=>by
  rw[av nb,av (ay e hd0),av nb];exact e
 have hd3:upd (upd (upd H p (.ins a.aU dx [("shape",.ref sh)])) d (.dK [])) p (.ins a.aU dx [("shape",.ref sh),("top",.ref d)]) d=some (.dK []):=by rw[av hdp];exact aj
 refine k d _ hd0 ⟨⟨dx,sh,d,aj,⟨dxs,ts,kp _ _ hs nps.symm,kp _ _ hw npt.symm⟩,?_⟩,g,fun π e h hn _=>(by rw[if_neg hn] at h;cases h),fun π x h=>?_⟩ kp
 case refine_2 =>
  by_cases c:π=[]
  ·rw[c];exact trivial
  ·rw[if_neg c] at h;cases h
 refine⟨if_pos rfl,fun π e h1 h2=>?_,fun π ρ e h1 h2 h3 h4=>?_,fun π i x h=>?_,fun π x h=>?_,fun b hb=>?_⟩
 ·by_cases c:π=[]
  ·rw[if_pos c] at h2
   cases h2
   refine⟨⟨[],hd3,⟨[],rfl⟩,List.nodup_nil,fun i=>?_,Nat.le_refl _⟩,by simp⟩
   rw[if_neg (by simp)];rfl
  ·rw[if_neg c] at h2;cases h2
 ·by_cases c:π=[]
  ·by_cases c2:ρ=[]
   ·rw[c,c2]
   ·rw[if_neg c2] at h4;cases h4
  ·rw[if_neg c] at h3;cases h3
 ·rw[if_neg (by simp)] at h;cases h
 ·by_cases c:π=[]
  ·rw[c];exact Nat.zero_le _
  ·rw[if_neg c] at h;cases h
 ·rw[List.mem_singleton] at hb;rw[hb];exact⟨[],hd3⟩
theorem qb {dvs:List V} (R:bB K a.aU "indexes" "Tree.indexes" ie ["self", "page"] dvs) (T:Txt w K mg a)
  (kY:aE P w K mg base a.az 3 "cut" ["self", "address"] (Ew a) [])
  (b6:aE P w K mg base a.az 2 "address_of" ["self", "page", "place"] (rK a) []) :
  aE P w K mg base a.aU 4 "indexes" ["self", "page"] (zt a) dvs:=by
 refine R.ok p7 (fun vs H Q E h=>?_) (fun f cdv A outer s H vs Q E hr h=>?_)
 ·obtain⟨p,ns,low,n,nd,fp,cn,rfl,_⟩:=h
  rfl
 obtain⟨p,ns,low,n,nd,fp,cn,rfl,S,k1,k2⟩:=h
 refine⟨_,(@aq _ _ _ (@aG _ _ _ _ (fZ oh (cq (bg (pv 0) rfl) T.aP kY (hr.mono (by decide)) ao (@ae _ _ _ _ _ (cq (bg (pv 0) rfl) T.aP b6 (hr.mono (by decide)) ao (@ae _ _ _ _ _ (pv 1) (@ae _ _ _ _ _ aw af rfl) rfl)) af rfl)) jE (gR (kq g9 aw))))),?_⟩
 have t1:=T.bN;have t2:=T.cf;have t3:=T.c7;have t4:=T.aP
 obtain⟨⟨dx,sh,top,h1,h2,h3⟩,g,fu,ib⟩:=S
 obtain⟨dxs,ts,hs,_⟩:=id h2
 have pl:=nG low
 have f1:=eJ ts low (m := "cut") (by decide +kernel) (by decide +kernel)
 have f2:=eJ ts low (m := "address_of") (by decide +kernel) (by decide +kernel)
 have e0:0<=n/\n < pgs ns->(n*plc low+0) / 2^low.toNat=n:=fun _=>by
  rw[Int.add_zero]
  exact Int.mul_ediv_cancel n (Int.ne_of_gt pl)
 walk_at "go"
 refine⟨fun c=>?_,fun c=>k2 fun z=>c ⟨z,by decide,pl⟩⟩
 have inn:0<=n*plc low+0/\n*plc low+0 < pgs ns*plc low:=by
  rw[Int.add_zero]
  exact⟨Int.mul_nonneg c.1.1 (Int.le_of_lt pl),Int.mul_lt_mul_of_pos_right c.1.2 pl⟩
 walk_at "go"
 refine⟨fun _ t H1 s1 ht=>?_,fun z=>absurd inn z⟩
 rw[eN,e0 c.1] at ht
 have pl2:=dj ns n
 have gl:=g.len
 walk_at "go"
 refine⟨fun z=>?_,fun q hq=>?_⟩
 ·have z2:=z.2
  rw[List.length_map,List.length_append] at z2
  have e:HT.sIx ((parts ns n).length+1) ((parts ns n).length+1) (some (-1))=(parts ns n).length:=by
   show (if (-1:Int) < 0 then ((-1:Int)+((((parts ns n).length+1:Nat)):Int)).toNat else min (-1:Int).toNat ((parts ns n).length+1))=_
   rw[if_pos (by decide)]
   omega
  have z3:HT.sIx ((parts ns n).length+1) ((parts ns n).length+1) (some (-1))=(parts ns n).length+1:=z2
  rw[e] at z3
  omega
 ·rw[lH]
  exact k1 c.1 q _ (s1.trans (aB hq)) aj
theorem vC {dvs:List V} (R:bB K a.aU "leaf" "Tree.leaf" kH ["self", "page"] dvs) (T:Txt w K mg a)
  (bX:aE P w K mg base a.aU 4 "indexes" ["self", "page"] (zt a) []) :
  aE P w K mg base a.aU 5 "leaf" ["self", "page"] (zu a) dvs:=by
 refine R.ok gU (fun vs H Q E h=>?_) (fun f cdv A outer s H vs Q E hr h=>?_)
 ·obtain⟨p,ns,low,n,nd,fp,cn,rfl,_⟩:=h
  rfl
 obtain⟨p,ns,low,n,nd,fp,cn,rfl,S,k1,k2⟩:=h
 refine⟨_,(@ah _ _ _ _ _ (@aI _ _ 2 _ _ _ _ gU.nd rfl (by first | exact Or.inl rfl | exact Or.inr rfl) (bg (pv 0) rfl) (by rfl) (by first | exact Or.inl rfl | exact Or.inr rfl))
   (@ah _ _ _ _ _ (cM bU rfl (qA (cq (pv 0) T.bN bX (hr.mono (by decide)) ao (@ae _ _ _ _ _ (pv 1) af rfl))) (bn (i:=3) gU.nd rfl (by first | exact Or.inl rfl | exact Or.inr rfl))
   (@ah _ _ _ _ _ (bD (aW (gZ hr.u1) (pv 3) (pv 2) (by with_unfolding_all rfl)) (@aq _ _ _ (@aG _ _ _ _ eX)) aQ)
   (@aq _ _ _ (@aI _ _ 2 _ _ _ _ gU.nd rfl (by first | exact Or.inl rfl | exact Or.inr rfl) (gS hr.u1 (pv 2) (pv 3) (fun _ _=>rfl)) (by rfl) (by first | exact Or.inl rfl | exact Or.inr rfl)))))
   (@aq _ _ _ (@aG _ _ _ _ (pv 2))))),?_⟩
 have t1:=T.bN;have t2:=T.cf;have t3:=T.c7
 have SA:=S
 obtain⟨⟨dx,sh,top,h1,h2,h3⟩,g,fu,ib⟩:=S
 walk_at "go"
 refine⟨fun c t H1 s1 ht=>?_,fun c=>k2 c⟩
 have I1:=h3.same s1
 have pl2:=dj ns n
 walk_at "go"
 refine mP (xs:=(parts ns n).map V.int) (fun i σ H'=>(∃(x:Addr) (v:Option V),σ=[some (.ref p),some (.int n),some (.ref x),v]/\nd ((parts ns n).take i)=some x)/\H'=H1) ⟨⟨top,_,rfl,by rw[List.take_zero];exact h3.tp⟩,rfl⟩ (fun i σ H' _ z=>by rw[z.2];exact SqT.of ht) ?_ ?_
 ·rintro i v σ H' hi ⟨⟨x,v3,rfl,hx⟩,rfl⟩
  obtain⟨ix,rfl,hix⟩:=cW hi
  have il:i < (parts ns n).length:=(List.getElem?_eq_some_iff.mp hix).1
  have tk:(parts ns n).take (i+1)=(parts ns n).take i++[ix]:=by rw[List.take_add_one,hix];rfl
  have li:((parts ns n).take i).length < ns.length:=by rw[List.length_take];omega
  obtain⟨⟨kvs,q1,q2,q3,q4,q5⟩,_⟩:=I1.tb _ x li hx
  have gg:=dv.k (k:=Sum.inl ix) q1
  rw[q4 ix,<-tk] at gg
  cases e:nd ((parts ns n).take (i+1)) with
  | none =>
   rw[e] at gg
   walk_at "go"
   have nn:nd (parts ns n)=none:=by
    cases e2:nd (parts ns n) with
    | none=>rfl
    | some y=>obtain⟨d,q⟩:=h3.pre _ rfl e2 (i+1);rw[e] at q;cases q
   have:=k1 c _ s1
   rw[nn] at this
   exact this
  | some y =>
   rw[e] at gg
   walk_at "go"
   exact⟨⟨y,_,rfl,rfl⟩,rfl⟩
 ·rintro σ H' ⟨⟨x,v3,rfl,hx⟩,rfl⟩
  rw[List.length_map,List.take_of_length_le (Nat.le_refl _)] at hx
  walk_at "go"
  have:=k1 c _ s1
  rw[hx] at this
  exact this
end
end K19

set_option maxHeartbeats 4000000
namespace K19
open PySem L2
structure Put (nd:Ix->Option Addr)(ι:Ix)(x:Addr)(nd':Ix->Option Addr): Prop where
 at':nd' ι=some x
 old:∀π d,nd π=some d->π≠ι->nd' π=some d
 oth:∀π,(∀j,π≠ι.take j)->nd' π=nd π
def CG (a:Adr): Sp:=fun vs H Q E=>∃(p x:Addr) (ns:List Int) (low n:Int) (nd:Ix->Option Addr) (fp:List Addr) (cn:Nat),vs=[.ref p,.int n,.ref x]/\jd a H p ns low nd fp cn/\cn < 100000/\(∃u,H x=some u) ∧
 (0<=n/\n < pgs ns->∀nd' fp' H',jd a H' p ns low nd' fp' (cn+1)->Put nd (parts ns n) x nd'->Fr fp fp' H H'->(∀b∈fp,b∈fp')->Q .non H')/\(¬(0<=n/\n < pgs ns)->E (.ref a.aT) none H)
theorem xk (κ:List Int)(z:Int): atI ((κ++[z]).map V.int) (-1)=some (.int z):=by
 have l:((κ++[z]).map V.int).length=κ.length+1:=by rw[List.length_map,List.length_append];rfl
 unfold atI ixN
 rw[if_neg (by decide),l,if_pos (by omega)]
 have e:((-1:Int)+((κ.length+1:Nat):Int)).toNat=κ.length:=by omega
 rw[e]
 show ((κ++[z]).map V.int)[κ.length]?=_
 rw[List.getElem?_map,List.getElem?_append_right (Nat.le_refl _),Nat.sub_self]
 rfl
theorem xm:∀{ws ps:List Int} (j:Nat),Fit ws ps->Fit (ws.take j) (ps.take j)
 | [],[],j,_=>by rw[List.take_nil];exact trivial
 | _::_,_::_,0,_=>trivial
 | _::_,_::_,j+1,h=>⟨h.1,xm j h.2⟩
 | [],_::_,_,h=>h.elim
 | _::_,[],_,h=>h.elim
theorem Put.ib {ns:List Int}{nd nd':Ix->Option Addr}{ι:Ix}{x:Addr}(P:Put nd ι x nd')(ib:∀π x,nd π=some x->Fit (ns.take π.length) π)(f:Fit ns ι): ∀π x,nd' π=some x->Fit (ns.take π.length) π:=fun π x h=>by
 by_cases c:∃j,π=ι.take j
 ·obtain⟨j,rfl⟩:=c
  have hl:=f.length
  by_cases c2:j<=ι.length
  ·rw[List.length_take,Nat.min_eq_left c2];exact xm j f
  ·have e:ι.take j=ι:=List.take_of_length_le (by omega)
   rw[e,<-hl,List.take_length];exact f
 ·exact ib π x (by rw[<-P.oth π fun j z=>c ⟨j,z⟩];exact h)
def Cov (N:Nat)(nd:Ix->Option Addr)(L:List Ix): Prop:=∀π x,nd π=some x->π.length=N->π∈L
structure Down (H0 H:Hp)(N:Nat)(top:Addr)(nd nd':Ix->Option Addr)(fp fp':List Addr)(cn:Nat)(ι:Ix)(i:Nat)(d:Addr): Prop where
 tr:eD H N top nd' fp' (cn+1)
 at':nd' (ι.take i)=some d
 old:∀π e,nd π=some e->nd' π=some e
 oth:∀π,(∀j,j<=i->π≠ι.take j)->nd' π=nd π
 fre:∀j,i<=j->j < N->∀e,nd' (ι.take j)=some e->rL H e (fun k=>nd' (ι.take j++[k])) cn
 fr:Fr fp fp' H0 H
 sub:∀b∈fp,b∈fp'
 ful:∀π e,nd' π=some e->π≠[]->π.length < N->π≠ι.take i->∃k y,nd' (π++[k])=some y
theorem Down.same {H0 H H':Hp}{N:Nat}{top:Addr}{nd nd':Ix->Option Addr}{fp fp':List Addr}{cn:Nat}{ι:Ix}{i:Nat}{d:Addr}(D:Down H0 H N top nd nd' fp fp' cn ι i d)(s:Same H H'): Down H0 H' N top nd nd' fp fp' cn ι i d :=
 { D with tr:=D.tr.same s,fre:=fun j h1 h2 e h=>(D.fre j h1 h2 e h).keep fun kvs q=>s _ _ q,fr:=D.fr.trans (Fr.same s) }
theorem Down.go {H0 H:Hp}{N:Nat}{top:Addr}{nd nd':Ix->Option Addr}{fp fp':List Addr}{cn:Nat}{ι:Ix}{i:Nat}{d e:Addr}(D:Down H0 H N top nd nd' fp fp' cn ι i d)(hi:i < ι.length)(h:nd' (ι.take (i+1))=some e): Down H0 H N top nd nd' fp fp' cn ι (i+1) e :=
 { D with
  at':=h
  oth:=fun π hp=>D.oth π fun j hj=>hp j (by omega)
  fre:=fun j h1 h2=>D.fre j (by omega) h2
  ful:=fun π x q1 q2 q3 q4=>by
   by_cases c:π=ι.take i
   ·have e1:ι.take (i+1)=ι.take i++[ι[i]]:=by rw[List.take_add_one,List.getElem?_eq_getElem hi];rfl
    exact⟨ι[i],e,by rw[c,<-e1];exact h⟩
   ·exact D.ful π x q1 q2 q3 c }
theorem Down.new {H0 H H':Hp}{N:Nat}{top:Addr}{nd nd':Ix->Option Addr}{fp fp':List Addr}{cn:Nat}{ι:Ix}{i:Nat}{d e:Addr}{ix:Int}{kvs:List (Key×V)}(D:Down H0 H N top nd nd' fp fp' cn ι i d)(hN:ι.length=N)(hi:i+1 < N)(hx:ι[i]?=some ix)(h:nd' (ι.take (i+1))=none)(hd:H d=some (.dK kvs))(he:H e=none)
  (eH:H'=upd (upd H e (.dK [])) d (.dK (putK kvs (.inl ix) (.ref e)))):Down H0 H' N top nd (bH nd' (ι.take (i+1)) (some e)) fp (e::fp') cn ι (i+1) e:=by
 have tk:ι.take (i+1)=ι.take i++[ix]:=by rw[List.take_add_one,hx];rfl
 obtain⟨CH,q1,⟨ks,q2⟩,q3,q4,q5⟩:=D.fre i (Nat.le_refl _) (by omega) d D.at'
 rw[hd] at q1
 cases q1
 have li:(ι.take i).length < N:=by rw[List.length_take];omega
 obtain⟨ik,nk⟩:=rM ix (.ref e) q2 q3
 have ned:d≠e:=ay hd he
 have dm:d∈fp':=(D.tr.tb _ d li D.at').2
 have Hd:H' d=some (.dK (putK kvs (.inl ix) (.ref e))):=by rw[eH];exact aj
 have He:H' e=some (.dK []):=by rw[eH,av ned.symm];exact aj
 have kpb:∀b u,H b=some u->b≠d->H' b=some u:=fun b u q nb=>by rw[eH,av nb,av (ay q he)];exact q
 have nef:e∉fp':=fun w=>by obtain⟨kv,q⟩:=D.tr.lv e w;rw[he] at q;cases q
 have no:∀j,nd' (ι.take (i+1)++[j])=none:=D.tr.above h
 have lp:=eS kvs (.inl ix) (V.ref e)
 have TR:=D.tr.at1 (H':=H') (π:=ι.take i) (i:=ix) (v:=some e) (fp':=e::fp') (cn':=cn+1) (Nat.le_refl _) li D.at' Hd ik nk (by rw[g_,if_pos rfl];rfl) (fun j hj=>by rw[g_,if_neg (fun w=>hj (Sum.inl.inj w))];exact q4 j) (by omega) (fun j=>by rw[<-tk];exact no j) (fun b u q _ nb=>kpb b u q nb) (fun b hb=>List.mem_cons_of_mem _ hb)
  (fun e' w _=>by cases w;exact⟨He,nef,List.mem_cons_self⟩) (fun b hb=>by
   by_cases c:b=d
   ·rw[c];exact⟨_,Hd⟩
   ·rcases List.mem_cons.mp hb with w | w
    ·rw[w];exact⟨_,He⟩
    ·obtain⟨kv,q⟩:=D.tr.lv b w
     exact⟨kv,kpb _ _ q c⟩)
 rw[<-tk] at TR
 refine { tr:=TR,at':=if_pos rfl,old:=fun π x w=>?_,oth:=fun π w=>?_,fre:=fun j h1 h2 x w=>?_,fr:=?_,sub:=fun b hb=>List.mem_cons_of_mem _ (D.sub b hb),ful:=fun π x w1 w2 w3 w4=>?_ }
 ·have q:=D.old π x w
  unfold bH
  rw[if_neg fun z=>by rw[z,h] at q;cases q]
  exact q
 ·unfold bH
  rw[if_neg (w (i+1) (Nat.le_refl _))]
  exact D.oth π fun j hj=>w j (by omega)
 ·unfold bH at w
  by_cases c:ι.take j=ι.take (i+1)
  ·rw[if_pos c] at w
   cases w
   refine⟨[],He,⟨[],rfl⟩,List.nodup_nil,fun k=>?_,Nat.zero_le _⟩
   unfold bH
   rw[c,if_neg fun z=>by have:=congrArg List.length z;simp at this,no k]
   rfl
  ·rw[if_neg c] at w
   obtain⟨d',q⟩:=D.tr.pre _ rfl w (i+1)
   rw[List.take_take,Nat.min_eq_left h1,h] at q
   cases q
 ·rw[eH]
  exact D.fr.trans ((Fr.new he).trans (Fr.put (List.mem_cons_of_mem _ dm)))
 ·unfold bH at w1
  rw[if_neg w4] at w1
  by_cases c:π=ι.take i
  ·exact⟨ix,e,by unfold bH;rw[c,<-tk,if_pos rfl]⟩
  ·obtain⟨k,y,q⟩:=D.ful π x w1 w2 w3 c
   refine⟨k,y,?_⟩
   unfold bH
   rw[if_neg fun z=>by rw[z,h] at q;cases q]
   exact q
section
variable {P:Program}{w:World}{K:W.Frag}{mg:Str->Option Value}{base:Heap}{a:Adr}
theorem xn {dvs:List V} (R:bB K a.aU "put" "Tree.put" mj ["self", "page", "leaf"] dvs) (T:Txt w K mg a)
  (bX:aE P w K mg base a.aU 4 "indexes" ["self", "page"] (zt a) []) :
  aE P w K mg base a.aU 5 "put" ["self", "page", "leaf"] (CG a) dvs:=by
 refine R.ok gj (fun vs H Q E h=>?_) (fun f cdv A outer s H vs Q E hr h=>?_)
 ·obtain⟨p,x,ns,low,n,nd,fp,cn,rfl,_⟩:=h
  rfl
 obtain⟨p,x,ns,low,n,nd,fp,cn,rfl,S,IB,xl,k1,k2⟩:=h
 refine⟨_,(@ah _ _ _ _ _ (@aI _ _ 3 _ _ _ _ gj.nd rfl (by first | exact Or.inl rfl | exact Or.inr rfl) (cq (pv 0) T.bN bX (hr.mono (by decide)) ao (@ae _ _ _ _ _ (pv 1) af rfl)) (by rfl) (by first | exact Or.inl rfl | exact Or.inr rfl))
   (@ah _ _ _ _ _ (@aI _ _ 4 _ _ _ _ gj.nd rfl (by first | exact Or.inl rfl | exact Or.inr rfl) (bg (pv 0) rfl) (by rfl) (by first | exact Or.inl rfl | exact Or.inr rfl))
   (@ah _ _ _ _ _ (cM bU rfl (qA (fZ oh (pv 3) jE (gR (kq g9 aw)))) (bn (i:=5) gj.nd rfl (by first | exact Or.inl rfl | exact Or.inr rfl))
   (@aq _ _ _ (@aI _ _ 4 _ _ _ _ gj.nd rfl (by first | exact Or.inl rfl | exact Or.inr rfl) (pP (pv 4) (pv 5) qK ⟨rfl,rfl,rfl,rfl⟩) (by rfl) (by first | exact Or.inl rfl | exact Or.inr rfl))))
   (@aq _ _ _ (@mS _ _ _ _ _ _ _ _ _ hr.u1 (pv 4) (@aX _ _ _ _ _ _ _ ck (pv 3) (kq g9 aw) (fun _ _=>rfl)) (pv 2) (by rfl)))))),?_⟩
 have t1:=T.bN;have t2:=T.cf;have t3:=T.c7
 have SA:=S
 obtain⟨⟨dx,sh,top,h1,h2,h3⟩,g,fu,ib⟩:=S
 walk_at "go"
 refine⟨fun c t H1 s1 ht=>?_,fun c=>k2 c⟩
 have I1:=h3.same s1
 have pl2:=dj ns n
 have gl:=g.len
 have h11:=s1 _ _ h1
 obtain⟨κ,z,ek⟩:∃κ z,parts ns n=κ++[z]:=by
  have ne:parts ns n≠[]:=fun w=>by rw[w] at pl2;simp at pl2;omega
  exact⟨_,_,(List.dropLast_concat_getLast ne).symm⟩
 have kl:κ.length+1=ns.length:=by rw[ek,List.length_append] at pl2;exact pl2
 rw[ek] at ht
 walk_at "go"
 refine⟨fun w=>?_,fun q hq=>?_⟩
 ·have z2:=w.2
  rw[List.length_map,List.length_append] at z2
  have e:HT.sIx (κ.length+1) (κ.length+1) (some (-1))=κ.length:=by
   show (if (-1:Int) < 0 then ((-1:Int)+(((κ.length+1:Nat)):Int)).toNat else min (-1:Int).toNat (κ.length+1))=_
   rw[if_pos (by decide)]
   omega
  have z3:HT.sIx (κ.length+1) (κ.length+1) (some (-1))=κ.length+1:=z2
  rw[e] at z3
  omega
 rw[lH]
 have s2:Same H1 (upd H1 q (.tup (κ.map V.int))):=aB hq
 have e2:upd H1 q (.tup (κ.map V.int)) q=some (.tup (κ.map V.int)):=aj
 generalize upd H1 q (.tup (κ.map V.int))=H2 at s2 e2
 have ht2:=s2 _ _ ht
 have I2:=I1.same s2
 have D0:Down H2 H2 ns.length top nd nd fp fp cn (κ++[z]) 0 top:={
  tr:=I2.mono (Nat.le_succ _),at':=by rw[List.take_zero];exact I2.tp,old:=fun _ _ e=>e,oth:=fun _ _=>rfl
  fre:=fun j _ h2 e h=>(I2.tb _ e (by rw[List.length_take];omega) h).1,fr:=Fr.refl _ _,sub:=fun _ h=>h
  ful:=fun π e q1 q2 q3 _=>fu π e q1 q2 q3 }
 walk_at "go"
 refine mP (xs:=κ.map V.int) (fun i σ H'=>∃(nd':Ix->Option Addr) (fp':List Addr) (d:Addr) (v:Option V),σ=[some (.ref p),some (.int n),some (.ref x),some (.ref t),some (.ref d),v]/\Down H2 H' ns.length top nd nd' fp fp' cn (κ++[z]) i d) ⟨nd,fp,top,_,rfl,D0⟩ (fun i σ H' _ w=>?_) ?_ ?_
 ·obtain⟨nd',fp',d,v,_,D⟩:=w
  have nq:q∉fp:=fun w=>by obtain⟨kv,e⟩:=I2.lv q w;rw[e2] at e;cases e
  exact SqT.of (D.fr.1 _ _ e2 nq)
 ·rintro i v σ H3 hi ⟨nd',fp',d,v5,rfl,D⟩
  obtain⟨ix,rfl,hix⟩:=cW hi
  have il:i < κ.length:=(List.getElem?_eq_some_iff.mp hix).1
  have hx:(κ++[z])[i]?=some ix:=by rw[List.getElem?_append_left il];exact hix
  have tk:(κ++[z]).take (i+1)=(κ++[z]).take i++[ix]:=by rw[List.take_add_one,hx];rfl
  obtain⟨kvs,q1,q2,q3,q4,q5⟩:=D.fre i (Nat.le_refl _) (by omega) d D.at'
  have id1:IsD H3 d:=.inl ⟨kvs,Rd.of q1⟩
  have zz:kvs.length < sizeLine:=by rw[sizeLine_eq];omega
  have kn:V.int ix=kV (Sum.inl ix:Key):=rfl
  walk_at "go"
  intro e he
  have q1':=aB (u:=.dK []) he _ _ q1
  walk_at "go"
  refine⟨fun v hv=>?_,fun hn=>?_⟩
  ·rw[q4 ix,<-tk] at hv
   cases e':nd' ((κ++[z]).take (i+1)) with
   | none=>rw[e'] at hv;cases hv
   | some y =>
    rw[e'] at hv
    cases hv
    exact⟨nd',fp',y,_,rfl,(D.same (aB he)).go (by rw[List.length_append];show i < κ.length+1;omega) e'⟩
  ·rw[q4 ix,<-tk] at hn
   have hn':nd' ((κ++[z]).take (i+1))=none:=by
    cases e':nd' ((κ++[z]).take (i+1)) with
    | none=>rfl
    | some y=>rw[e'] at hn;cases hn
   exact⟨_,e::fp',e,_,rfl,D.new (by rw[List.length_append];exact kl) (by omega) hx hn' q1 he rfl⟩
 ·rintro σ H3 ⟨nd',fp',d,v5,rfl,D⟩
  rw[List.length_map] at D
  have tkk:(κ++[z]).take κ.length=κ:=List.take_left' rfl
  obtain⟨kvs,q1,⟨ks,q2⟩,q3,q4,q5⟩:=D.fre κ.length (Nat.le_refl _) (by omega) d D.at'
  rw[tkk] at q4
  have hat:=D.at'
  rw[tkk] at hat
  have ntf:t∉fp:=fun w=>by obtain⟨kv,e⟩:=I2.lv t w;rw[ht2] at e;cases e
  have ht3:=D.fr.1 _ _ ht2 ntf
  have al:=xk κ z
  have dp:=pN.k (k:=Sum.inl z) (v:=V.ref x) q1 (by rw[sizeLine_eq];omega)
  walk_at "go"
  have lk:κ.length < ns.length:=by omega
  have dm:d∈fp':=(D.tr.tb _ d lk hat).2
  obtain⟨ik,nk⟩:=rM z (.ref x) q2 q3
  have lp:=eS kvs (.inl z) (V.ref x)
  have kpb:∀b u,H3 b=some u->b≠d->upd H3 d (.dK (putK kvs (.inl z) (.ref x))) b=some u:=fun b u e nb=>by rw[av nb];exact e
  have TR:=D.tr.at1 (H':=upd H3 d (.dK (putK kvs (.inl z) (.ref x)))) (π:=κ) (i:=z) (v:=some x) (fp':=fp') (cn':=cn+1) (Nat.le_refl _) lk hat aj ik nk (by rw[g_,if_pos rfl];rfl) (fun j hj=>by rw[g_,if_neg (fun w=>hj (Sum.inl.inj w))];exact q4 j) (by omega)
   (fun j=>by
    cases e:nd' (κ++[z]++[j]) with
    | none=>rfl
    | some y=>have:=D.tr.lg _ _ e;rw[List.length_append,List.length_append] at this;simp at this;omega)
   (fun b u e _ nb=>kpb b u e nb) (fun b hb=>hb) (fun e _ w=>by omega) (fun b hb=>by
    by_cases c:b=d
    ·rw[c];exact⟨_,aj⟩
    ·obtain⟨kv,e⟩:=D.tr.lv b hb
     exact⟨kv,kpb _ _ e c⟩)
  have kO:∀b u,H2 b=some u->(∀kv,u≠.dK kv)->upd H3 d (.dK (putK kvs (.inl z) (.ref x))) b=some u:=fun b u e h=>by
   have n1:b∉fp:=fun w=>by obtain⟨kv,e'⟩:=I2.lv b w;rw[e'] at e;cases e;exact h _ rfl
   have e3:=D.fr.1 _ _ e n1
   exact kpb _ _ e3 fun w=>by rw[w,q1] at e3;cases e3;exact h _ rfl
  have s12:=s1.trans s2
  obtain⟨dxs,ts,hs,hw⟩:=id h2
  have PU:Put nd (parts ns n) x (bH nd' (κ++[z]) (some x)):=by
   rw[ek]
   refine⟨if_pos rfl,fun π e w1 w2=>?_,fun π w=>?_⟩
   ·unfold bH
    rw[if_neg w2]
    exact D.old π e w1
   ·unfold bH
    rw[if_neg (by have:=w (κ++[z]).length;rw[List.take_length] at this;exact this)]
    exact D.oth π fun j _=>w j
  refine k1 c (bH nd' (κ++[z]) (some x)) fp' _ ⟨⟨dx,sh,top,kO _ _ (s12 _ _ h1) (fun _ w=>by cases w),⟨dxs,ts,kO _ _ (s12 _ _ hs) (fun _ w=>by cases w),kO _ _ (s12 _ _ hw) (fun _ w=>by cases w)⟩,TR⟩,g,fun π e w1 w2 w3=>?_,PU.ib ib (Am ns n)⟩ PU (((Fr.same s12).trans D.fr).trans (Fr.put dm)) D.sub
  ·unfold bH at w1
   rw[if_neg fun w=>by rw[w,List.length_append] at w3;simp at w3;omega] at w1
   by_cases c2:π=κ
   ·exact⟨z,x,by unfold bH;rw[c2,if_pos rfl]⟩
   ·obtain⟨k,y,q⟩:=D.ful π e w1 w2 w3 (by rw[tkk];exact c2)
    unfold bH
    by_cases c3:π++[k]=κ++[z]
    ·exact⟨k,x,by rw[if_pos c3]⟩
    ·exact⟨k,y,by rw[if_neg c3];exact q⟩
end
end K19

set_option maxHeartbeats 4000000
namespace K19
open PySem L2
theorem fO:∀{kvs:List (Key×V)} {ks:List Int} {k:Int},fe kvs ks->(k∈ks↔(bq kvs (.inl k)).isSome=true)
 | [],[],k,_=>by unfold bq;simp
 | [],_::_,_,h=>by cases h
 | _::_,[],_,h=>by cases h
 | p::r,j::ks,k,h=>by
  have h':=List.cons.inj h
  have hp:p.1=.inl j:=h'.1
  have ih:=fO (k:=k) h'.2
  by_cases e:k=j
  ·subst e
   unfold bq
   rw[List.find?_cons_of_pos (by simpa using hp)]
   simp
  ·have e1:bq (p::r) (.inl k)=bq r (.inl k):=by
    unfold bq;rw[List.find?_cons_of_neg (by rw[hp];simpa using fun z=>e z.symm)]
   rw[e1,<-ih,List.mem_cons]
   simp[e]
def yz (N:Nat)(nd:Ix->Option Addr)(ex:Ix): Prop:=∀π d,nd π=some d->π≠[]->π.length < N->π≠ex->∃k y,nd (π++[k])=some y
structure Cut (nd:Ix->Option Addr)(ι:Ix)(nd':Ix->Option Addr): Prop where
 sub:∀π x,nd' π=some x->nd π=some x
 oth:∀π,(∀j,π≠ι.take j)->nd' π=nd π
theorem uv (xs:List V)(y:V): atI (xs++[y]) (-1)=some y:=by
 have l:(xs++[y]).length=xs.length+1:=by rw[List.length_append];rfl
 unfold atI ixN
 rw[if_neg (by decide),l,if_pos (by omega)]
 have e:((-1:Int)+((xs.length+1:Nat):Int)).toNat=xs.length:=by omega
 rw[e]
 show (xs++[y])[xs.length]?=_
 rw[List.getElem?_append_right (Nat.le_refl _),Nat.sub_self]
 rfl
structure Way (nd:Ix->Option Addr)(ι:Ix)(ds:List Addr): Prop where
 at':∀(j:Nat) (d:Addr),ds[j]?=some d->nd (ι.take j)=some d
def zv (a:Adr): Sp:=fun vs H Q _=>∃(p t:Addr) (ns:List Int) (low:Int) (nd:Ix->Option Addr) (fp:List Addr) (cn:Nat) (ι:Ix),vs=[.ref p,.ref t]/\jd a H p ns low nd fp cn/\H t=some (.tup (ι.map V.int))/\ι.length=ns.length ∧
 ∀q ds H',H' q=some (.lst (ds.map V.ref))->Way nd ι ds->1<=ds.length->ds.length<=ns.length->(ds.length < ns.length->nd (ι.take ds.length)=none)->Same H H'->H q=none->Q (.ref q) H'
def zx:Sp:=fun vs H Q _=>∃(q t:Addr) (N:Nat) (top:Addr) (nd:Ix->Option Addr) (fp:List Addr) (cn:Nat) (ι:Ix) (ds:List Addr),vs=[.ref q,.ref t]/\eD H N top nd fp cn/\H q=some (.lst (ds.map V.ref))/\ds.length=N/\Way nd ι ds/\H t=some (.tup (ι.map V.int))/\ι.length=N/\1<=N/\N<=3/\yz N nd (ι.take (N-1)) ∧
 ∀nd' H',eD H' N top nd' fp cn->Full N nd'->Cut nd ι nd'->Fr fp fp H H'->Q .non H'
theorem eD.out {H:Hp}{N:Nat}{top:Addr}{nd:Ix->Option Addr}{fp:List Addr}{cn:Nat}(S:eD H N top nd fp cn){π:Ix}{d:Addr}{i:Int}{kvs:List (Key×V)}(hl:π.length < N)(hd:nd π=some d)(hk:H d=some (.dK kvs))(no:∀j,nd (π++[i]++[j])=none):
  eD (upd H d (.dK (dA kvs (.inl i)))) N top (bH nd (π++[i]) none) fp cn:=by
 obtain⟨⟨CH,q1,⟨ks,q2⟩,q3,q4,q5⟩,dm⟩:=S.tb π d hl hd
 rw[hk] at q1
 cases q1
 refine S.at1 (Nat.le_refl _) hl hd aj ⟨_,lG q2⟩ (qL q3) (by rw[jY,if_pos rfl];rfl) (fun j hj=>by rw[jY,if_neg (fun w=>hj (Sum.inl.inj w))];exact q4 j) (Nat.le_trans (wq _ _) q5) no (fun b u e _ nb=>by rw[av nb];exact e) (fun b hb=>hb) (fun e w=>by cases w) fun b hb=>?_
 by_cases c:b=d
 ·rw[c];exact⟨_,aj⟩
 ·obtain⟨kv,e⟩:=S.lv b hb
  exact⟨kv,by rw[av c];exact e⟩
theorem rL.empty {H:Hp}{d:Addr}{ch:Int->Option Addr}{cn:Nat}(T:rL H d ch cn){kvs:List (Key×V)}(h:H d=some (.dK kvs)): (kvs.length=0->∀i,ch i=none)/\(kvs.length≠0->∃i x,ch i=some x):=by
 obtain⟨CH,q1,⟨ks,q2⟩,q3,q4,q5⟩:=T
 rw[h] at q1
 cases q1
 constructor
 ·intro z i
  have e:kvs=[]:=List.eq_nil_of_length_eq_zero z
  have q:=q4 i
  rw[e] at q
  cases c:ch i with
  | none=>rfl
  | some x=>rw[c] at q;cases q
 ·intro z
  cases kvs with
  | nil=>exact absurd rfl z
  | cons p r =>
   cases ks with
   | nil=>cases q2
   | cons k ks =>
    have:=(fO (k:=k) q2).mp List.mem_cons_self
    rw[q4 k] at this
    cases c:ch k with
    | none=>rw[c] at this;cases this
    | some x=>exact⟨k,x,c⟩
section
variable {P:Program}{w:World}{K:W.Frag}{mg:Str->Option Value}{base:Heap}{a:Adr}
theorem CI {dvs:List V} (R:cE K mg "prune" uW ["path", "indexes"] dvs) (T:Txt w K mg a) :
  HasFn P w K mg base 1 "prune" ["path", "indexes"] (zx) dvs:=by
 refine R.ok wV (fun vs H Q E h=>?_) (fun f cdv A outer s H vs Q E hr h=>?_)
 ·obtain⟨q,t,N,top,nd,fp,cn,ι,ds,rfl,_⟩:=h
  rfl
 obtain⟨q,t,N,top,nd,fp,cn,ι,ds,rfl,S,hq,dl,W,ht,il,N1,N3,fx,k⟩:=h
 refine⟨_,(@aq _ _ _ (cM bU rfl (Ar (by rfl) T.eI (@ae _ _ _ _ _ (aM iZ (aH aJ (by rfl) T.cT PySem.boot_len (@ae _ _ _ _ _ (pv 0) af rfl)) aw) (@ae _ _ _ _ _ aw (@ae _ _ _ _ _ (kq g9 aw) af rfl) rfl) rfl)) (bn (i:=2) wV.nd rfl (by first | exact Or.inl rfl | exact Or.inr rfl))
   (@aq _ _ _ (bD (aW fb (aH zY (by rfl) T.cT PySem.boot_len (@ae _ _ _ _ _ (@aX _ _ _ _ _ _ _ aV (pv 0) (pv 2) (fun _ _=>rfl)) af rfl)) aw (bo _)) (@aq _ _ _ (bu (wu (@aX _ _ _ _ _ _ _ aV (pv 0) (aM iZ (pv 2) aw) (fun _ _=>rfl)) (@aX _ _ _ _ _ _ _ ck (pv 1) (aM iZ (pv 2) aw) (fun _ _=>rfl)) ⟨rfl,rfl,rfl,rfl⟩))) aQ)))),?_⟩
 have lq:(ds.map V.ref).length=N:=by rw[List.length_map];exact dl
 have nq:q∉fp:=fun w=>by obtain⟨kv,e⟩:=S.lv q w;rw[hq] at e;cases e
 have nt:t∉fp:=fun w=>by obtain⟨kv,e⟩:=S.lv t w;rw[ht] at e;cases e
 walk_at "go"
 rw[lq]
 have en:((N:Int)-1-0).toNat=N-1:=by omega
 rw[en]
 refine wJ (fun i σ H'=>∃(nd':Ix->Option Addr) (v:Option V),σ=[some (.ref q),some (.ref t),v]/\eD H' N top nd' fp cn/\yz N nd' (ι.take (N-1-i))/\Cut nd ι nd'/\(∀(j:Nat) (d:Addr),j<=N-1-i->ds[j]?=some d->nd' (ι.take j)=some d)/\Fr fp fp H H') ⟨nd,_,rfl,S,fx,⟨fun _ _ e=>e,fun _ _=>rfl⟩,fun j d _ e=>W.at' j d e,Fr.refl _ _⟩ ?_ ?_
 ·rintro i σ H1 hi ⟨nd',v,rfl,S1,f1,C1,W1,r1⟩
  obtain⟨L,hL⟩:∃L:Nat,N-1-i=L+1:=⟨N-2-i,by omega⟩
  have eL:(N:Int)-1-(i:Int)=((L+1:Nat):Int):=by omega
  have eL2:N-1-(i+1)=L:=by omega
  rw[eL]
  rw[hL] at f1 W1
  have hd:L+1 < ds.length:=by omega
  have g1:ds[L+1]?=some ds[L+1]:=List.getElem?_eq_getElem hd
  have g0:ds[L]?=some ds[L]:=List.getElem?_eq_getElem (by omega)
  have gx:ι[L]?=some ι[L]:=List.getElem?_eq_getElem (by omega)
  generalize ds[L+1]=d1 at g1
  generalize ds[L]=d0 at g0
  generalize ι[L]=ix at gx
  have n1:=W1 (L+1) d1 (Nat.le_refl _) g1
  have n0:=W1 L d0 (by omega) g0
  have tk:ι.take (L+1)=ι.take L++[ix]:=by rw[List.take_add_one,gx];rfl
  have l0:(ι.take L).length=L:=by rw[List.length_take];omega
  have l1:(ι.take (L+1)).length=L+1:=by rw[List.length_take];omega
  have T1:=(S1.tb _ d1 (by omega) n1).1
  have T0:=(S1.tb _ d0 (by omega) n0).1
  obtain⟨kvs,hk,_⟩:=id T1
  obtain⟨CH,hk0,_,nk0,vk0,_⟩:=id T0
  have emp:=rL.empty T1 hk
  have hq1:=r1.1 _ _ hq nq
  have ht1:=r1.1 _ _ ht nt
  have a1:atI (ds.map V.ref) ((L+1:Nat):Int)=some (.ref d1):=by exact dN (by rw[List.getElem?_map,g1];rfl)
  have a0:atI (ds.map V.ref) (((L+1:Nat):Int)-1)=some (.ref d0):=by
   have:((L+1:Nat):Int)-1=(L:Int):=by omega
   rw[this];exact dN (by rw[List.getElem?_map,g0];rfl)
  have ax:atI (ι.map V.int) (((L+1:Nat):Int)-1)=some (.int ix):=by
   have:((L+1:Nat):Int)-1=(L:Int):=by omega
   rw[this];exact dN (by rw[List.getElem?_map,gx];rfl)
  have kx:V.int ix=kV (.inl ix):=rfl
  have vx:True->bq CH (.inl ix)=some (.ref d1):=fun _=>by rw[vk0,<-tk,n1];rfl
  walk_at "go"
  show ite _ _ _
  by_cases c:kvs.length=0
  ·rw[if_pos (by rw[decide_eq_true_eq,c];rfl)]
   have ch:=emp.1 c
   have isd:IsD H1 d0:=.inl ⟨CH,Rd.of hk0⟩
   walk_at "go"
   refine⟨vx trivial,?_⟩
   have O:=S1.out (i:=ix) (by omega:(ι.take L).length < N) n0 hk0 (fun j=>by rw[<-tk];exact ch j)
   rw[<-tk] at O
   have tn:∀j,j<=L->ι.take j≠ι.take (L+1):=fun j hj z=>by
    have:=congrArg List.length z
    rw[l1,List.length_take] at this
    omega
   refine⟨_,_,rfl,O,fun π e w1 w2 w3 w4=>?_,⟨fun π x w=>?_,fun π w=>?_⟩,fun j d w1 w2=>?_,r1.trans (Fr.put (S1.tb _ d0 (by omega) n0).2)⟩
   ·rw[eL2] at w4
    unfold bH at w1
    by_cases c2:π=ι.take (L+1)
    ·rw[if_pos c2] at w1;cases w1
    ·rw[if_neg c2] at w1
     obtain⟨k,y,w⟩:=f1 π e w1 w2 w3 c2
     refine⟨k,y,?_⟩
     unfold bH
     rw[if_neg fun z=>w4 (by rw[tk] at z;exact(List.append_inj' z rfl).1)]
     exact w
   ·unfold bH at w
    by_cases c2:π=ι.take (L+1)
    ·rw[if_pos c2] at w;cases w
    ·rw[if_neg c2] at w;exact C1.sub π x w
   ·unfold bH
    rw[if_neg (w _)];exact C1.oth π w
   ·unfold bH
    rw[if_neg (tn j (by omega))]
    exact W1 j d (by omega) w2
  ·rw[if_neg (by rw[decide_eq_true_eq];intro z;injection z with z;omega)]
   obtain⟨j,y,hy⟩:=emp.2 c
   refine⟨nd',_,rfl,S1,fun π e w1 w2 w3 w4=>?_,C1,fun j d w1 w2=>W1 j d (by omega) w2,r1⟩
   by_cases c2:π=ι.take (L+1)
   ·exact⟨j,y,by rw[c2];exact hy⟩
   ·exact f1 π e w1 w2 w3 c2
 ·rintro σ H1 ⟨nd',v,rfl,S1,f1,C1,W1,r1⟩
  refine k nd' H1 S1 (fun π d h1 h2 h3=>f1 π d h1 h2 h3 ?_) C1 r1
  rw[Nat.sub_self,List.take_zero];exact h2
theorem qc {dvs:List V} (R:bB K a.aU "path_to" "Tree.path_to" ig ["self", "indexes"] dvs) (T:Txt w K mg a) :
  aE P w K mg base a.aU 1 "path_to" ["self", "indexes"] (zv a) dvs:=by
 refine R.ok gF (fun vs H Q E h=>?_) (fun f cdv A outer s H vs Q E hr h=>?_)
 ·obtain⟨p,t,ns,low,nd,fp,cn,ι,rfl,_⟩:=h
  rfl
 obtain⟨p,t,ns,low,nd,fp,cn,ι,rfl,S,ht,il,k⟩:=h
 refine⟨_,(@ah _ _ _ _ _ (@aI _ _ 2 _ _ _ _ gF.nd rfl (by first | exact Or.inl rfl | exact Or.inr rfl) (@eh _ _ _ _ (@ae _ _ _ _ _ (bg (pv 0) rfl) af rfl)) (by rfl) (by first | exact Or.inl rfl | exact Or.inr rfl))
   (@ah _ _ _ _ _ (cM bU rfl (qA (fZ oh (pv 1) jE (gR (kq g9 aw)))) (bn (i:=3) gF.nd rfl (by first | exact Or.inl rfl | exact Or.inr rfl))
   (@ah _ _ _ _ _ (bD (aW (gZ hr.u1) (pv 3) (@aX _ _ _ _ _ _ _ aV (pv 2) (kq g9 aw) (fun _ _=>rfl)) (by with_unfolding_all rfl)) (@aq _ _ _ Bi) aQ)
   (@aq _ _ _ (bu (tR PySem.F.plainAttrs_list PySem.F.slot_list_append PySem.F.type_list_append fH (pv 2) (@ae _ _ _ _ _ (gS hr.u1 (@aX _ _ _ _ _ _ _ aV (pv 2) (kq g9 aw) (fun _ _=>rfl)) (pv 3) (fun _ _=>rfl)) af rfl))))))
   (@aq _ _ _ (@aG _ _ _ _ (pv 2))))),?_⟩
 have t1:=T.bN;have t2:=T.cf;have t3:=T.c7
 have SA:=S
 obtain⟨⟨dx,sh,top,h1,h2,h3⟩,g,fu,ib⟩:=S
 have gl:=g.len
 obtain⟨κ,z,ek⟩:∃κ z,ι=κ++[z]:=by
  have ne:ι≠[]:=fun w=>by rw[w] at il;simp at il;omega
  exact⟨_,_,(List.dropLast_concat_getLast ne).symm⟩
 have kl:κ.length+1=ns.length:=by rw[ek,List.length_append] at il;exact il
 walk_at "go"
 intro q hq0
 have s1:Same H (upd H q (.lst [.ref top])):=aB hq0
 have hq:upd H q (.lst [.ref top]) q=some (.lst [.ref top]):=aj
 generalize upd H q (.lst [.ref top])=H1 at s1 hq
 have h11:=s1 _ _ h1
 have ht1:=s1 _ _ ht
 rw[ek] at ht1
 walk_at "go"
 refine⟨fun w=>?_,fun y hy=>?_⟩
 ·have z2:=w.2
  rw[List.length_map,List.length_append] at z2
  have e:HT.sIx (κ.length+1) (κ.length+1) (some (-1))=κ.length:=by
   show (if (-1:Int) < 0 then ((-1:Int)+(((κ.length+1:Nat)):Int)).toNat else min (-1:Int).toNat (κ.length+1))=_
   rw[if_pos (by decide)]
   omega
  have z3:HT.sIx (κ.length+1) (κ.length+1) (some (-1))=κ.length+1:=z2
  rw[e] at z3
  omega
 rw[lH]
 have s2:Same H1 (upd H1 y (.tup (κ.map V.int))):=aB hy
 have e2:upd H1 y (.tup (κ.map V.int)) y=some (.tup (κ.map V.int)):=aj
 generalize upd H1 y (.tup (κ.map V.int))=H2 at s2 e2
 have hq2:=s2 _ _ hq
 have nyq:y≠q:=fun w=>by rw[w,hq] at hy;cases hy
 have s02:=s1.trans s2
 walk_at "go"
 refine mP (xs:=κ.map V.int) (fun i σ H'=>∃(ds:List Addr) (v:Option V),σ=[some (.ref p),some (.ref t),some (.ref q),v]/\H' q=some (.lst (ds.map V.ref))/\ds.length=i+1/\Way nd ι ds/\Same H H'/\H' y=some (.tup (κ.map V.int))) ⟨[top],_,rfl,hq2,rfl,⟨fun j d w=>?_⟩,s02,e2⟩ (fun i σ H' _ w=>?_) ?_ ?_
 ·cases j with
  | zero=>cases w;rw[List.take_zero];exact h3.tp
  | succ j=>cases w
 ·obtain⟨ds,v,_,_,_,_,_,w⟩:=w
  exact SqT.of w
 ·rintro i v σ H3 hi ⟨ds,v5,rfl,g1,g2,W,s3,g3⟩
  obtain⟨ix,rfl,hix⟩:=cW hi
  have il':i < κ.length:=(List.getElem?_eq_some_iff.mp hix).1
  have hx:ι[i]?=some ix:=by rw[ek,List.getElem?_append_left il'];exact hix
  have tk:ι.take (i+1)=ι.take i++[ix]:=by rw[List.take_add_one,hx];rfl
  obtain⟨es,d,ed⟩:∃es d,ds=es++[d]:=by
   have ne:ds≠[]:=fun w=>by rw[w] at g2;cases g2
   exact⟨_,_,(List.dropLast_concat_getLast ne).symm⟩
  have el:es.length=i:=by rw[ed,List.length_append] at g2;exact Nat.succ.inj g2
  have hd:=W.at' i d (by rw[ed,List.getElem?_append_right (by omega),el,Nat.sub_self];rfl)
  have em:ds.map V.ref=es.map V.ref++[.ref d]:=by rw[ed,List.map_append];rfl
  have lst:=uv (es.map V.ref) (.ref d)
  have I3:=h3.same s3
  obtain⟨kvs,q1,q2,q3,q4,q5⟩:=(I3.tb _ d (by rw[List.length_take];omega) hd).1
  rw[em] at g1
  have gg:=dv.k (k:=Sum.inl ix) q1
  rw[q4 ix,<-tk] at gg
  cases e:nd (ι.take (i+1)) with
  | none =>
   rw[e] at gg
   walk_at "go"
   refine k q ds H3 (by rw[em];exact g1) W (by omega) (by omega) (fun _=>by rw[g2];exact e) s3 hq0
  | some x =>
   rw[e] at gg
   walk_at "go"
   refine⟨by rw[<-em,List.length_map,sizeLine_eq];omega,ds++[x],_,rfl,?_,by rw[List.length_append,g2];rfl,⟨fun j y' w=>?_⟩,fun b u w=>?_,?_⟩
   ·rw[aj,List.map_append,em];rfl
   ·by_cases c:j < ds.length
    ·rw[List.getElem?_append_left c] at w;exact W.at' j y' w
    ·have jl:=(List.getElem?_eq_some_iff.mp w).1
     rw[List.length_append] at jl
     have ej:j=i+1:=by simp at jl;omega
     rw[ej,List.getElem?_append_right (by omega),g2,Nat.sub_self] at w
     cases w
     rw[ej];exact e
   ·rw[av (ay w hq0)];exact s3 _ _ w
   ·rw[av nyq];exact g3
 ·rintro σ H3 ⟨ds,v5,rfl,g1,g2,W,s3,g3⟩
  rw[List.length_map] at g2
  walk_at "go"
  exact k q ds H3 g1 W (by omega) (by omega) (fun w=>by omega) s3 hq0
end
structure Gone (N:Nat)(nd:Ix->Option Addr)(ι:Ix)(nd':Ix->Option Addr): Prop where
 no:nd' ι=none
 oth:∀π,π.length=N->π≠ι->nd' π=nd π
 sub:∀π x,nd' π=some x->nd π=some x
theorem Cut.gone {nd nd':Ix->Option Addr}{ι:Ix}(C:Cut (bH nd ι none) ι nd'): Gone ι.length nd ι nd':=by
 refine⟨?_,fun π h1 h2=>?_,fun π x h=>?_⟩
 ·cases e:nd' ι with
  | none=>rfl
  | some x=>have:=C.sub ι x e;unfold bH at this;rw[if_pos rfl] at this;cases this
 ·rw[C.oth π fun j z=>by
   have:=congrArg List.length z
   rw[List.length_take] at this
   exact h2 (by rw[z,List.take_of_length_le (by omega)])]
  unfold bH
  rw[if_neg h2]
 ·have:=C.sub π x h
  unfold bH at this
  by_cases c:π=ι
  ·rw[if_pos c] at this;cases this
  ·rw[if_neg c] at this;exact this
theorem jd.kept {a:Adr} {H H':Hp} {p:Addr} {ns:List Int} {low:Int} {nd nd':Ix->Option Addr} {fp fp':List Addr} {cn cn':Nat} {dx sh top:Addr} (h1:H p=some (.ins a.aU dx [("shape",.ref sh),("top",.ref top)])) (h2:iC a.az H sh ns low) (S:eD H ns.length top nd fp cn) (g:Good ns low) (S':eD H' ns.length top nd' fp' cn') (fu:Full ns.length nd') (ib:∀π x,nd' π=some x->Fit (ns.take π.length) π) (r:∀b u,H b=some u->b∉fp->H' b=some u):jd a H' p ns low nd' fp' cn':=by
 have nf:∀b u,H b=some u->(∀kv,u≠.dK kv)->b∉fp:=fun b u e h w=>by obtain⟨kv,e'⟩:=S.lv b w;rw[e'] at e;cases e;exact h _ rfl
 obtain⟨dxs,ts,hs,hw⟩:=id h2
 exact⟨⟨dx,sh,top,r _ _ h1 (nf _ _ h1 fun _ w=>by cases w),⟨dxs,ts,r _ _ hs (nf _ _ hs fun _ w=>by cases w),r _ _ hw (nf _ _ hw fun _ w=>by cases w)⟩,S'⟩,g,fu,ib⟩
def zy (a:Adr): Sp:=fun vs H Q E=>∃(p:Addr) (ns:List Int) (low n:Int) (nd:Ix->Option Addr) (fp:List Addr) (cn:Nat),vs=[.ref p,.int n]/\jd a H p ns low nd fp cn ∧
 (0<=n/\n < pgs ns->∀nd' H',jd a H' p ns low nd' fp cn->Gone ns.length nd (parts ns n) nd'->Fr fp fp H H'->Q (ndV (nd (parts ns n))) H')/\(¬(0<=n/\n < pgs ns)->E (.ref a.aT) none H)
section
variable {P:Program}{w:World}{K:W.Frag}{mg:Str->Option Value}{base:Heap}{a:Adr}
theorem vD {dvs:List V} (R:bB K a.aU "drop" "Tree.drop" gb ["self", "page"] dvs) (T:Txt w K mg a)
  (bX:aE P w K mg base a.aU 4 "indexes" ["self", "page"] (zt a) [])
  (iD:aE P w K mg base a.aU 1 "path_to" ["self", "indexes"] (zv a) [])
  (vE:HasFn P w K mg base 1 "prune" ["path", "indexes"] (zx) []) :
  aE P w K mg base a.aU 5 "drop" ["self", "page"] (zy a) dvs:=by
 refine R.ok gW (fun vs H Q E h=>?_) (fun f cdv A outer s H vs Q E hr h=>?_)
 ·obtain⟨p,ns,low,n,nd,fp,cn,rfl,_⟩:=h
  rfl
 obtain⟨p,ns,low,n,nd,fp,cn,rfl,S,k1,k2⟩:=h
 let R4:{t:TS // PSs (dJ (CXE P w) P w K mg base pz "Tree.drop" (au gb) f cdv A outer s H E) ((aO gb).drop 4) t}:=⟨_,(@ah _ _ _ _ _ (bu (bv vE (hr.mono (by decide)) (by rfl) ao (@ae _ _ _ _ _ (pv 3) (@ae _ _ _ _ _ (pv 2) af rfl) rfl)))
   (@aq _ _ _ (@aG _ _ _ _ (pv 4))))⟩
 refine⟨_,(@ah _ _ _ _ _ (@aI _ _ 2 _ _ _ _ gW.nd rfl (by first | exact Or.inl rfl | exact Or.inr rfl) (cq (pv 0) T.bN bX (hr.mono (by decide)) ao (@ae _ _ _ _ _ (pv 1) af rfl)) (by rfl) (by first | exact Or.inl rfl | exact Or.inr rfl))
   (@ah _ _ _ _ _ (@aI _ _ 3 _ _ _ _ gW.nd rfl (by first | exact Or.inl rfl | exact Or.inr rfl) (cq (pv 0) T.bN iD (hr.mono (by decide)) ao (@ae _ _ _ _ _ (pv 2) af rfl)) (by rfl) (by first | exact Or.inl rfl | exact Or.inr rfl))
   (@ah _ _ _ _ _ (bD (aW Bn (aH aJ (by rfl) T.cT PySem.boot_len (@ae _ _ _ _ _ (pv 3) af rfl)) (aH aJ (by rfl) T.cT PySem.boot_len (@ae _ _ _ _ _ (pv 2) af rfl)) (bo _)) (@aq _ _ _ (@aG _ _ _ _ eX)) aQ)
   (@ah _ _ _ _ _ (@aI _ _ 4 _ _ _ _ gW.nd rfl (by first | exact Or.inl rfl | exact Or.inr rfl) (By (@aX _ _ _ _ _ _ _ aV (pv 3) (kq g9 aw) (fun _ _=>rfl)) (@aX _ _ _ _ _ _ _ ck (pv 2) (kq g9 aw) (fun _ _=>rfl)) eX ⟨rfl,rfl,rfl,rfl⟩) (by rfl) (by first | exact Or.inl rfl | exact Or.inr rfl))
   R4.2)))),?_⟩
 have t1:=T.bN;have t2:=T.cf;have t3:=T.c7
 have SA:=S
 obtain⟨⟨dx,sh,top,h1,h2,h3⟩,g,fu,ib⟩:=S
 walk_at "go"
 refine⟨fun c t H1 s1 ht=>?_,fun c=>k2 c⟩
 have pl:=dj ns n
 have SA1:=SA.same s1
 have h11:=s1 _ _ h1
 have gl:=g.len
 generalize parts ns n=ι at ht pl k1
 walk_at "go"
 intro q ds H2 hq W l1 l2 sh2 s2 qn
 have s12:=s1.trans s2
 have I2:=h3.same s12
 have ht2:=s2 _ _ ht
 have em:(ds.map V.ref).length=ds.length:=List.length_map ..
 have em2:(ι.map V.int).length=ns.length:=by rw[List.length_map];exact pl
 walk_at "go"
 show ite _ _ _
 rw[em,em2]
 by_cases c1:ds.length < ns.length
 ·rw[if_pos (by rw[decide_eq_true_eq];exact Int.ofNat_lt.mpr c1)]
  walk_at "go"
  have nn:nd ι=none:=by
   cases e2:nd ι with
   | none=>rfl
   | some y=>obtain⟨d,q⟩:=h3.pre _ rfl e2 ds.length;rw[sh2 c1] at q;cases q
  have:=k1 c nd H2 (SA.same s12) ⟨nn,fun _ _ _=>rfl,fun _ _ w=>w⟩ (Fr.same s12)
  rw[nn] at this
  exact this
 ·rw[if_neg (by rw[decide_eq_true_eq];intro z;exact c1 (Int.ofNat_lt.mp z))]
  have dl:ds.length=ns.length:=by omega
  have tail:∀H3,eD H3 ns.length top (bH nd ι none) fp cn->Fr fp fp H2 H3->R4.1 { nx:=fun x H'=>Q V.non H',rt:=Q } [some (.ref p),some (.int n),some (.ref t),some (.ref q),some (ndV (nd ι))] H3:=by
   intro H3 I3 r3
   have nq:q∉fp:=fun w=>by obtain⟨kv,e⟩:=I2.lv q w;rw[hq] at e;cases e
   have nt:t∉fp:=fun w=>by obtain⟨kv,e⟩:=I2.lv t w;rw[ht2] at e;cases e
   have hq3:=r3.1 _ _ hq nq
   have ht3:=r3.1 _ _ ht2 nt
   have n1:1<=ns.length:=by omega
   have n3:ns.length<=3:=by omega
   have W3:Way (bH nd ι none) ι ds:=⟨fun j d w=>by
    unfold bH
    rw[if_neg fun z=>by
     have:=congrArg List.length z
     have jl:=(List.getElem?_eq_some_iff.mp w).1
     rw[List.length_take] at this
     omega]
    exact W.at' j d w⟩
   have fx:yz ns.length (bH nd ι none) (ι.take (ns.length-1)):=fun π d w1 w2 w3 w4=>by
    unfold bH at w1
    rw[if_neg fun z=>by rw[z] at w3;omega] at w1
    obtain⟨k,y,w⟩:=fu π d w1 w2 w3
    refine⟨k,y,?_⟩
    unfold bH
    rw[if_neg fun z=>by
     apply w4
     rw[<-pl,<-z,List.length_append]
     exact(List.take_left' rfl).symm]
    exact w
   walk_at "go"
   intro nd' H4 I4 f4 C4 r4
   walk_at "go"
   have gg:=C4.gone
   rw[pl] at gg
   exact k1 c nd' H4 (jd.kept h1 h2 h3 g I4 f4 (fun π x w=>ib π x (gg.sub π x w)) (fun b u w1 w2=>r4.1 _ _ (r3.1 _ _ (s12 _ _ w1) w2) w2)) gg (((Fr.same s12).trans r3).trans r4)
  obtain⟨κ,z,ek⟩:∃κ z,ι=κ++[z]:=by
   have ne:ι≠[]:=fun w=>by rw[w] at pl;simp at pl;omega
   exact⟨_,_,(List.dropLast_concat_getLast ne).symm⟩
  obtain⟨es,d,ed⟩:∃es d,ds=es++[d]:=by
   have ne:ds≠[]:=fun w=>by rw[w] at dl;simp at dl;omega
   exact⟨_,_,(List.dropLast_concat_getLast ne).symm⟩
  have kl:κ.length+1=ns.length:=by rw[ek,List.length_append] at pl;exact pl
  have el:es.length+1=ns.length:=by rw[ed,List.length_append] at dl;exact dl
  have hd:=W.at' es.length d (by rw[ed,List.getElem?_append_right (Nat.le_refl _),Nat.sub_self];rfl)
  have tkk:ι.take es.length=κ:=by rw[ek];exact List.take_left' (by omega)
  rw[tkk] at hd
  have a1:atI (ds.map V.ref) (-1)=some (.ref d):=by rw[ed,List.map_append];exact uv _ _
  have a2:atI (ι.map V.int) (-1)=some (.int z):=by rw[ek];exact xk κ z
  obtain⟨kvs,hk,_,_,vk,_⟩:=(I2.tb κ d (by omega) hd).1
  have isd:IsD H2 d:=.inl ⟨kvs,Rd.of hk⟩
  have kz:V.int z=kV (.inl z):=rfl
  have vz:=vk z
  rw[<-ek] at vz
  walk_at "go"
  refine⟨fun v hv=>?_,fun hv=>?_⟩
  ·rw[vz] at hv
   cases e:nd ι with
   | none=>rw[e] at hv;cases hv
   | some y =>
    rw[e] at hv
    cases hv
    have O:=I2.out (i:=z) (by omega:κ.length < ns.length) hd hk (fun j=>by
     cases e:nd (κ++[z]++[j]) with
     | none=>rfl
     | some y=>have:=I2.lg _ _ e;rw[List.length_append,List.length_append] at this;simp at this;omega)
    rw[<-ek] at O
    have:=tail _ O (Fr.put (I2.tb κ d (by omega) hd).2)
    rw[e] at this
    exact this
  ·rw[vz] at hv
   cases e:nd ι with
   | some y=>rw[e] at hv;cases hv
   | none =>
    have en:bH nd ι none=nd:=funext fun π=>by
     unfold bH
     split
     ·rename_i w;rw[w,e]
     ·rfl
    have:=tail H2 (by rw[en];exact I2) (Fr.refl _ _)
    rw[e] at this
    exact this
end
theorem uw {ns:List Int}(s:ns.Pairwise (·<=·))(nd:ns.Nodup): ns.Pairwise (· < ·):=by
 refine List.Pairwise.imp₂ (fun a b h1 h2=>?_) s nd
 have:a≠b:=h2
 omega
theorem nJ {α β:Type}[DecidableEq β](f:α->β): ∀{ms:List α} {L:List β},ms.Nodup->(∀a∈ms,∀b∈ms,f a=f b->a=b)->(∀a∈ms,f a∈L)->ms.length<=L.length
 | [],_,_,_,_=>Nat.zero_le _
 | a::ms,L,h1,h2,h3=>by
  obtain⟨p1,p2⟩:=List.nodup_cons.mp h1
  have m:=h3 a List.mem_cons_self
  have ih:=nJ f (L:=L.erase (f a)) p2 (fun x hx y hy=>h2 x (List.mem_cons_of_mem _ hx) y (List.mem_cons_of_mem _ hy)) (fun x hx=>by
   refine(List.mem_erase_of_ne fun z=>p1 ?_).mpr (h3 x (List.mem_cons_of_mem _ hx))
   rw[<-h2 x (List.mem_cons_of_mem _ hx) a List.mem_cons_self z];exact hx)
  rw[List.length_erase_of_mem m] at ih
  have:=List.length_pos_of_mem m
  rw[List.length_cons]
  omega
theorem Cov.ext {N:Nat}{nd:Ix->Option Addr}{L:List Ix}(fu:Full N nd)(C:Cov N nd L): ∀(k:Nat) {ρ:Ix} {x:Addr},nd ρ=some x->ρ≠[]->ρ.length+k=N->∃τ∈L,τ.take ρ.length=ρ:=by
 intro k
 induction k with
 | zero=>intro ρ x h _ hl;exact⟨ρ,C ρ x h hl,List.take_length⟩
 | succ k ih =>
  intro ρ x h hn hl
  obtain⟨i,y,e⟩:=fu ρ x h hn (by omega)
  obtain⟨τ,t1,t2⟩:=ih e (by simp) (by rw[List.length_append];simp;omega)
  refine⟨τ,t1,?_⟩
  have e2:=congrArg (List.take ρ.length) t2
  rw[List.take_take,List.length_append,List.take_left' rfl,Nat.min_eq_left (by omega)] at e2
  exact e2
theorem Cov.level {N i:Nat}{nd:Ix->Option Addr}{L:List Ix}(fu:Full N nd)(C:Cov N nd L){α:Type}{ms:List α}(f:α->Ix)(h1:ms.Nodup)(h2:∀a∈ms,∀b∈ms,f a=f b->a=b)(h3:∀a∈ms,(f a).length=i/\∃x,nd (f a)=some x)(hi:1<=i)(iN:i<=N): ms.length<=L.length:=by
 have:=nJ f (L:=L.map (List.take i)) h1 h2 fun a ha=>by
  obtain⟨l,x,e⟩:=h3 a ha
  obtain⟨τ,t1,t2⟩:=C.ext fu (N-i) e (fun z=>by rw[z] at l;simp at l;omega) (by omega)
  rw[l] at t2
  exact List.mem_map.mpr ⟨τ,t1,t2⟩
 rw[List.length_map] at this
 exact this
abbrev Rs:=List (Int×Addr)
def nK (R:Rs): Prop:=R.Pairwise fun a b=>a.1 < b.1
structure RAt (H:Hp)(q:Addr)(ts:List Addr)(R:Rs): Prop where
 l:H q=some (.lst (ts.map V.ref))
 n:ts.length=R.length
 t:∀(i:Nat) (t:Addr) (r:Int×Addr),ts[i]?=some t->R[i]?=some r->H t=some (.tup [.int r.1,.ref r.2])
theorem RAt.snoc {H:Hp}{b u y:Addr}{m:Int}{ts:List Addr}{R:Rs}(A:RAt H b ts R)(hu:H u=none): RAt (upd (upd H u (.tup [.int m,.ref y])) b (.lst (ts.map V.ref++[.ref u]))) b (ts++[u]) (R++[(m,y)]):=by
 have ub:u≠b:=fun z=>by rw[z,A.l] at hu;cases hu
 refine⟨by rw[aj,List.map_append];rfl,by rw[List.length_append,List.length_append,A.n];rfl,fun i t r e1 e2=>?_⟩
 by_cases c:i < ts.length
 ·rw[List.getElem?_append_left c] at e1
  rw[List.getElem?_append_left (by rw[<-A.n];exact c)] at e2
  have h:=A.t i t r e1 e2
  rw[av (fun z=>by rw[z,A.l] at h;cases h),av (ay h hu)]
  exact h
 ·have il:=(List.getElem?_eq_some_iff.mp e1).1
  rw[List.length_append] at il
  have ei:i=ts.length:=by simp at il;omega
  rw[List.getElem?_append_right (by omega),ei,Nat.sub_self] at e1
  rw[List.getElem?_append_right (by rw[<-A.n];omega),ei,<-A.n,Nat.sub_self] at e2
  cases e1;cases e2
  rw[av ub];exact aj
theorem nK.snoc {R:Rs}{m:Int}{y:Addr}(r:nK R)(h:∀m' y',(m',y')∈R->m' < m): nK (R++[(m,y)]) :=
 List.pairwise_append.mpr ⟨r,List.pairwise_singleton _ _,fun a ha b hb=>by rw[List.mem_singleton.mp hb];exact h a.1 a.2 ha⟩
def Below (R:Rs)(ch:Int->Int->Option Addr)(w:Int)(m:Int)(y:Addr): Prop:=∃k x j,(k,x)∈R/\ch k j=some y/\m=k*2^w.toNat+j
structure Tb1 (H:Hp)(x:Addr)(ch:Int->Option Addr)(w:Int): Prop where
 at':∃kvs ks,H x=some (.dK kvs)/\fe kvs ks/\ks.length < 64/\ks.Nodup/\(∀i:Int,bq kvs (.inl i)=(ch i).map V.ref)/\∀i∈ks,0<=i/\i < 2^w.toNat
def vF:Sp:=fun vs H Q _=>∃(q:Addr) (w:Int) (ts:List Addr) (R:Rs) (ch:Int->Int->Option Addr),vs=[.ref q,.int w]/\RAt H q ts R/\0<=w/\w<=24/\nK R/\(∀k x,(k,x)∈R->0<=k/\k<=2^80/\Tb1 H x (ch k) w)/\(∀R':Rs,nK R'->(∀m y,(m,y)∈R'->Below R ch w m y)->R'.length < 100) ∧
 ∀q' ts' R' H',RAt H' q' ts' R'->nK R'->(∀m y,(m,y)∈R'↔Below R ch w m y)->Same H H'->H q'=none->Q (.ref q') H'
section
variable {P:Program}{w:World}{K:W.Frag}{mg:Str->Option Value}{base:Heap}{a:Adr}
theorem nL {dvs:List V} (R:cE K mg "one_level_down" fM ["nodes", "width"] dvs) (T:Txt w K mg a) :
  HasFn P w K mg base 1 "one_level_down" ["nodes", "width"] (vF) dvs:=by
 refine R.ok cY (fun vs H Q E h=>?_) (fun f cdv A outer s H vs Q E hr h=>?_)
 ·obtain⟨q,w,ts,R,ch,rfl,_⟩:=h
  rfl
 obtain⟨q,w,ts,R,ch,rfl,S,w0,w1,rs,tb,bd,k⟩:=h
 refine⟨_,(@ah _ _ _ _ _ (@aI _ _ 2 _ _ _ _ cY.nd rfl (by first | exact Or.inl rfl | exact Or.inr rfl) (@eh _ _ _ _ af) (by rfl) (by first | exact Or.inl rfl | exact Or.inr rfl))
   (@ah _ _ _ _ _ (cM bU rfl (eY (pv 0)) (qz (n:=2) rfl (eA (bn (i:=3) cY.nd rfl (by first | exact Or.inl rfl | exact Or.inr rfl)) (eA (bn (i:=4) cY.nd rfl (by first | exact Or.inl rfl | exact Or.inr rfl)) mM)))
   (@aq _ _ _ (cM bU rfl (eY (aH (mY hr.hd) (by rfl) T.nC PyProof.Rows.Boot.«sorted» (@ae _ _ _ _ _ (pv 4) af rfl))) (bn (i:=5) cY.nd rfl (by first | exact Or.inl rfl | exact Or.inr rfl))
   (@aq _ _ _ (bu (tR PySem.F.plainAttrs_list PySem.F.slot_list_append PySem.F.type_list_append fH (pv 2) (@ae _ _ _ _ _ (@c8 _ _ _ _ _ (@ae _ _ _ _ _ (aM Ef (aM y7 (pv 3) (pv 1)) (pv 5)) (@ae _ _ _ _ _ (gS hr.u1 (pv 4) (pv 5) (fun _ _=>rfl)) af rfl) rfl)) af rfl)))))))
   (@aq _ _ _ (@aG _ _ _ _ (pv 2))))),?_⟩
 walk_at "go"
 intro b hb
 have s1:Same H (upd H b (.lst [])):=aB hb
 have e1:upd H b (.lst []) b=some (.lst []):=aj
 generalize upd H b (.lst [])=H1 at s1 e1
 have S1l:=s1 _ _ S.l
 walk_at "go"
 refine g7 (xs:=ts.map V.ref) (fun i σ H'=>∃(ts':List Addr) (R':Rs) (v1 v2 v3:Option V),σ=[some (.ref q),some (.int w),some (.ref b),v1,v2,v3]/\RAt H' b ts' R'/\nK R'/\(∀m y,(m,y)∈R'↔Below (R.take i) ch w m y)/\Same H H') ⟨[],[],_,_,_,rfl,⟨e1,rfl,fun i t r e=>(by cases e)⟩,List.Pairwise.nil,fun m y=>⟨fun z=>(by cases z),fun z=>?_⟩,s1⟩ (fun i σ H' _ z=>?_) ?_ ?_
 ·obtain⟨k,x,j,z,_⟩:=z;cases z
 ·obtain⟨ts',R',v1,v2,v3,_,_,_,_,s⟩:=z
  exact SqL.of (s _ _ S.l)
 ·rintro i v σ H2 hi ⟨ts',R',v1,v2,v3,rfl,A,ri,me,s2⟩
  rw[List.getElem?_map] at hi
  obtain⟨t,ht,rfl⟩:=Option.map_eq_some_iff.mp hi
  have il:i < ts.length:=(List.getElem?_eq_some_iff.mp ht).1
  obtain⟨⟨n,x⟩,hr⟩:∃r,R[i]?=some r:=⟨_,List.getElem?_eq_getElem (by rw[<-S.n];exact il)⟩
  have htt:=s2 _ _ (S.t i t _ ht hr)
  obtain⟨n0,n1,kvs,ks,hx,ik,k64,knd,vk,kb⟩:=tb n x (List.mem_of_getElem? hr)
  have hx2:=s2 _ _ hx
  walk_at "go"
  intro q1 js hq1 pm srt
  have jl:=pm.length_eq
  have jr:=uw srt (pm.nodup_iff.mpr knd)
  have s3:Same H2 (upd H2 q1 (.lst (js.map V.int))):=aB hq1
  have e3:upd H2 q1 (.lst (js.map V.int)) q1=some (.lst (js.map V.int)):=aj
  generalize upd H2 q1 (.lst (js.map V.int))=H3 at s3 e3
  have nbq:b≠q1:=fun z=>by rw[<-z,A.l] at hq1;cases hq1
  have A3:RAt H3 b ts' R':=⟨s3 _ _ A.l,A.n,fun i t r e1 e2=>s3 _ _ (A.t i t r e1 e2)⟩
  have s23:=s2.trans s3
  walk_at "go"
  refine g7 (xs:=js.map V.int) (fun j σ H'=>∃(ts':List Addr) (R':Rs) (v:Option V),σ=[some (.ref q),some (.int w),some (.ref b),some (.int n),some (.ref x),v]/\RAt H' b ts' R'/\nK R'/\(∀m y,(m,y)∈R'↔(Below (R.take i) ch w m y\/∃c∈js.take j,ch n c=some y/\m=n*2^w.toNat+c))/\Same H H'/\H' q1=some (.lst (js.map V.int))) ⟨ts',R',_,rfl,A3,ri,fun m y=>⟨fun z=>.inl ((me m y).mp z),fun z=>?_⟩,s23,e3⟩ (fun j σ H' _ z=>?_) ?_ ?_
  ·rcases z with z | ⟨c,z,_⟩
   ·exact(me m y).mpr z
   ·cases z
  ·obtain⟨ts',R',v,_,_,_,_,_,z⟩:=z
   exact SqL.of z
  ·rintro j v σ H4 hj ⟨ts4,R4,v4,rfl,A4,ri4,me4,s4,e4⟩
   obtain⟨c,rfl,hc⟩:=cW hj
   have cm:c∈ks:=pm.mem_iff.mp (List.mem_of_getElem? hc)
   obtain⟨c0,c1⟩:=kb c cm
   obtain⟨y,hy⟩:∃y,ch n c=some y:=by
    have:=(fO (k:=c) ik).mp cm
    rw[vk c] at this
    cases e:ch n c with
    | none=>rw[e] at this;cases this
    | some y=>exact⟨y,rfl⟩
   have hx4:=s4 _ _ hx
   have gg:=dv.k (k:=Sum.inl c) hx4
   rw[vk c,hy] at gg
   have sh:Gg n w:=⟨w0,by omega,by
    have e:(2:Nat)^80 < 2^1000:=Nat.pow_lt_pow_right (by decide) (by decide)
    have e2:((2^80:Nat):Int)=2^80:=by decide
    omega⟩
   have A4l:=A4.l
   have em:Builtin.bitOr (n*2^w.toNat) c=n*2^w.toNat+c:=wF n0 c0 c1
   have tkj:js.take (j+1)=js.take j++[c]:=by rw[List.take_add_one,hc];rfl
   have tkr:R.take (i+1)=R.take i++[(n,x)]:=by rw[List.take_add_one,hr];rfl
   have rsn:nK (R4++[(n*2^w.toNat+c,y)]):=ri4.snoc fun m' y' hm=>by
    rcases (me4 m' y').mp hm with ⟨k',x',j',z1,z2,z3⟩ | ⟨c',z1,z2,z3⟩
    ·have p1:nK (R.take (i+1)):=rs.sublist (List.take_sublist _ _)
     rw[tkr] at p1
     have lt:k' < n:=(List.pairwise_append.mp p1).2.2 (k',x') z1 (n,x) (by simp)
     obtain⟨_,_,kvs',ks',_,ik',_,_,vk',kb'⟩:=tb k' x' (List.mem_of_mem_take z1)
     have jm:j'∈ks':=(fO (k:=j') ik').mpr (by rw[vk' j',z2];rfl)
     have jb:=kb' j' jm
     have h2:(k'+1)*2^w.toNat<=n*2^w.toNat:=Int.mul_le_mul_of_nonneg_right (by omega) (Int.le_of_lt f7)
     rw[Int.add_mul,Int.one_mul] at h2
     omega
    ·have p1:(js.take (j+1)).Pairwise (· < ·):=jr.sublist (List.take_sublist _ _)
     rw[tkj] at p1
     have:=(List.pairwise_append.mp p1).2.2 c' z1 c (by simp)
     omega
   have men:∀m y',(m,y')∈R4++[(n*2^w.toNat+c,y)]↔(Below (R.take i) ch w m y'\/∃c∈js.take (j+1),ch n c=some y'/\m=n*2^w.toNat+c):=fun m y'=>by
    rw[List.mem_append,me4,tkj]
    constructor
    ·rintro((z | ⟨c',z1,z2,z3⟩) | z)
     ·exact .inl z
     ·exact .inr ⟨c',List.mem_append_left _ z1,z2,z3⟩
     ·obtain⟨rfl,rfl⟩:=Prod.mk.inj (List.mem_singleton.mp z)
      exact .inr ⟨c,by simp,hy,rfl⟩
    ·rintro(z | ⟨c',z1,z2,z3⟩)
     ·exact .inl (.inl z)
     ·rcases List.mem_append.mp z1 with z1 | z1
      ·exact .inl (.inr ⟨c',z1,z2,z3⟩)
      ·have e:=List.mem_singleton.mp z1
       subst e
       rw[hy] at z2
       cases z2
       exact .inr (by rw[z3];simp)
   have bdd:ts4.length < 100:=by
    rw[A4.n]
    refine bd R4 ri4 fun m y hm=>?_
    rcases (me4 m y).mp hm with ⟨k',x',j',z1,z2,z3⟩ | ⟨c',z1,z2,z3⟩
    ·exact⟨k',x',j',List.mem_of_mem_take z1,z2,z3⟩
    ·exact⟨n,x,c',List.mem_of_getElem? hr,z2,z3⟩
   walk_at "go"
   intro u hu
   show zS _ (upd H4 u (HO.tup [V.int (Builtin.bitOr (n*2^w.toNat) c),V.ref y])) _
   rw[em]
   have A4u:upd H4 u (.tup [.int (n*2^w.toNat+c),.ref y]) b=some (.lst (ts4.map V.ref)):=by rw[av (ay A4.l hu)];exact A4.l
   walk_at "go"
   refine⟨by rw[List.length_map,sizeLine_eq];omega,ts4++[u],R4++[(n*2^w.toNat+c,y)],_,rfl,A4.snoc hu,rsn,men,fun d v z=>?_,?_⟩
   ·have h4:=s4 _ _ z
    rw[av (ay z hb),av (ay h4 hu)];exact h4
   ·rw[av nbq.symm,av (ay e4 hu)];exact e4
  ·rintro σ H4 ⟨ts4,R4,v4,rfl,A4,ri4,me4,s4,e4⟩
   rw[List.length_map,List.take_length] at me4
   refine⟨ts4,R4,_,_,_,rfl,A4,ri4,fun m y=>?_,s4⟩
   rw[me4]
   have tk:R.take (i+1)=R.take i++[(n,x)]:=by rw[List.take_add_one,hr];rfl
   constructor
   ·rintro(⟨k',x',j',z1,z2,z3⟩ | ⟨c,z1,z2,z3⟩)
    ·exact⟨k',x',j',by rw[tk];exact List.mem_append_left _ z1,z2,z3⟩
    ·exact⟨n,x,c,by rw[tk];simp,z2,z3⟩
   ·rintro⟨k',x',j',z1,z2,z3⟩
    rw[tk] at z1
    rcases List.mem_append.mp z1 with z1 | z1
    ·exact .inl ⟨k',x',j',z1,z2,z3⟩
    ·obtain⟨rfl,rfl⟩:=Prod.mk.inj (List.mem_singleton.mp z1)
     refine .inr ⟨j',pm.mem_iff.mpr ((fO (k:=j') ik).mpr ?_),z2,z3⟩
     rw[vk j',z2];rfl
 ·rintro σ H2 ⟨ts',R',v1,v2,v3,rfl,A,ri,me,s2⟩
  rw[List.length_map,S.n,List.take_length] at me
  walk_at "go"
  exact k b ts' R' H2 A ri me s2 hb
end
end K19

set_option maxHeartbeats 4000000
namespace K19
open PySem L2
theorem rN {H H':Hp}{q:Addr}(s:Same H H')(h:H' q=none): H q=none:=by
 cases e:H q with
 | none=>rfl
 | some u=>rw[s _ _ e] at h;cases h
theorem nM {kvs:List (Key×V)}{ks:List Int}(h:fe kvs ks)(nd:(kvs.map (·.1)).Nodup): ks.Nodup:=by
 rw[h] at nd
 exact(List.pairwise_map.mp nd).imp fun h z=>h (by rw[z])
def Lvl (ns:List Int)(nd:Ix->Option Addr)(i:Nat)(R:Rs): Prop:=nK R/\∀m x,(m,x)∈R↔(0<=m/\m < span (ns.take i)/\nd (parts (ns.take i) m)=some x)
theorem nK.ints {R:Rs}(r:nK R): (R.map (·.1)).Nodup:=(List.pairwise_map.mpr r).imp fun h=>Int.ne_of_lt h
theorem qw {ns:List Int}{low:Int}(g:Good ns low)(i:Nat): ∀x∈ns.take i,0<=x:=fun x hx=>by
 have:=g.ws x (List.mem_append_left _ (List.mem_of_mem_take hx));omega
theorem AI {ns:List Int}{low:Int}(g:Good ns low)(i:Nat): span (ns.take i)<=2^72:=by
 have e:ns.sum=(ns.take i).sum+(ns.drop i).sum:=by rw[<-List.sum_append,List.take_append_drop]
 have nn:∀{l:List Int},(∀x∈l,0<=x)->0<=l.sum:=by
  intro l h
  induction l with
  | nil=>simp
  | cons a l ih =>
   rw[List.sum_cons]
   have:=h a List.mem_cons_self
   have:=ih fun x hx=>h x (List.mem_cons_of_mem _ hx)
   omega
 have d0:=nn (l:=ns.drop i) fun x hx=>by have:=g.ws x (List.mem_append_left _ (List.mem_of_mem_drop hx));omega
 have:=g.sum
 exact mB (by omega)
section
variable {a:Adr}{H:Hp}{p:Addr}{ns:List Int}{low:Int}{nd:Ix->Option Addr}{fp:List Addr}{cn:Nat}{top:Addr}
theorem Lvl.below {i:Nat}{w:Int}{R:Rs}(g:Good ns low)(S:eD H ns.length top nd fp cn)(ib:∀π x,nd π=some x->Fit (ns.take π.length) π)(hw:ns[i]?=some w)(lv:Lvl ns nd i R)(m:Int)(y:Addr):
  Below R (fun k j=>nd (parts (ns.take i) k++[j])) w m y↔(0<=m/\m < span (ns.take (i+1))/\nd (parts (ns.take (i+1)) m)=some y):=by
 have tk:ns.take (i+1)=ns.take i++[w]:=by rw[List.take_add_one,hw];rfl
 have w0:0<=w:=by have:=g.ws w (List.mem_append_left _ (List.mem_of_getElem? hw));omega
 have il:i < ns.length:=(List.getElem?_eq_some_iff.mp hw).1
 have tl:(ns.take i).length=i:=by rw[List.length_take];omega
 have hp:(0:Int) < 2^w.toNat:=f7
 rw[tk,oq (qw g i) w0,eN]
 constructor
 ·rintro⟨k,x,j,h1,h2,rfl⟩
  obtain⟨q1,q2,q3⟩:=(lv.2 k x).mp h1
  have f:=ib _ y h2
  have l1:(parts (ns.take i) k++[j]).length=i+1:=by rw[List.length_append,dB,tl];rfl
  rw[l1,tk] at f
  obtain⟨_,j0,j1⟩:=f.qT
  have e1:(k*2^w.toNat+j) / 2^w.toNat=k:=by
   rw[Int.mul_comm,Int.mul_add_ediv_left _ _ (Int.ne_of_gt hp),Int.ediv_eq_zero_of_lt j0 j1,Int.add_zero]
  have e2:(k*2^w.toNat+j)%2^w.toNat=j:=by
   rw[Int.mul_comm,Int.mul_add_emod_self_left,Int.emod_eq_of_lt j0 j1]
  rw[e1,e2]
  refine⟨?_,?_,h2⟩
  ·have:=Int.mul_nonneg q1 (Int.le_of_lt hp);omega
  ·have h2:(k+1)*2^w.toNat<=span (ns.take i)*2^w.toNat:=Int.mul_le_mul_of_nonneg_right (by omega) (Int.le_of_lt hp)
   rw[Int.add_mul,Int.one_mul] at h2
   omega
 ·rintro⟨m0,m1,h⟩
  obtain⟨d,hd⟩:=S.up _ _ _ h
  refine⟨m / 2^w.toNat,d,m%2^w.toNat,(lv.2 _ _).mpr ⟨ya m0,B6 m1,hd⟩,h,?_⟩
  have:=Int.mul_ediv_add_emod m (2^w.toNat)
  rw[Int.mul_comm] at this
  exact this.symm
theorem Lvl.small {i:Nat}{L:List Ix}{R:Rs}(g:Good ns low)(fu:Full ns.length nd)(C:Cov ns.length nd L)(l64:L.length < 64)(h1:nK R)(h2:∀m x,(m,x)∈R->(0<=m/\m < span (ns.take i)/\nd (parts (ns.take i) m)=some x))(hi:1<=i)(il:i<=ns.length): R.length < 64:=by
 have tl:(ns.take i).length=i:=by rw[List.length_take];omega
 have:=C.level fu (i:=i) (ms:=R.map (·.1)) (parts (ns.take i)) h1.ints (fun m hm m' hm' e=>by
  obtain⟨⟨m,x⟩,r1,rfl⟩:=List.mem_map.mp hm
  obtain⟨⟨m',x'⟩,r2,rfl⟩:=List.mem_map.mp hm'
  obtain⟨a1,a2,_⟩:=h2 m x r1
  obtain⟨b1,b2,_⟩:=h2 m' x' r2
  have e1:=jI _ (qw g i) a1 a2
  have e2:=jI _ (qw g i) b1 b2
  show m=m'
  rw[<-e1,<-e2]
  exact congrArg (fun z=>glue ((ns.take i).zip z)) e) (fun m hm=>by
  obtain⟨⟨m,x⟩,r1,rfl⟩:=List.mem_map.mp hm
  exact⟨by rw[dB,tl],x,(h2 m x r1).2.2⟩) hi il
 rw[List.length_map] at this
 omega
theorem Lvl.tb {i:Nat}{w:Int}{L:List Ix}{R:Rs}(g:Good ns low)(S:eD H ns.length top nd fp cn)(fu:Full ns.length nd)(ib:∀π x,nd π=some x->Fit (ns.take π.length) π)(C:Cov ns.length nd L)(l64:L.length < 64)(hw:ns[i]?=some w)(lv:Lvl ns nd i R){k:Int}{x:Addr}(h:(k,x)∈R):
  0<=k/\k<=2^80/\Tb1 H x (fun j=>nd (parts (ns.take i) k++[j])) w:=by
 have tk:ns.take (i+1)=ns.take i++[w]:=by rw[List.take_add_one,hw];rfl
 have il:i < ns.length:=(List.getElem?_eq_some_iff.mp hw).1
 have tl:(ns.take i).length=i:=by rw[List.length_take];omega
 obtain⟨q1,q2,q3⟩:=(lv.2 k x).mp h
 have pl:(parts (ns.take i) k).length=i:=by rw[dB,tl]
 obtain⟨kvs,h1,⟨ks,h2⟩,h3,h4,h5⟩:=(S.tb _ x (by omega) q3).1
 have knd:=nM h2 h3
 have mem:∀j∈ks,∃y,nd (parts (ns.take i) k++[j])=some y:=fun j hj=>by
  have:=(fO (k:=j) h2).mp hj
  rw[h4 j] at this
  cases e:nd (parts (ns.take i) k++[j]) with
  | none=>simp only [e] at this;cases this
  | some y=>exact⟨y,rfl⟩
 have sp:=AI g i
 have e80:(2:Int)^72<=2^80:=by decide
 have kl:=C.level fu (i:=i+1) (ms:=ks) (fun j=>parts (ns.take i) k++[j]) knd (fun b _ c _ e=>by have:=(List.append_inj' e rfl).2;simpa using this) (fun j hj=>⟨by rw[List.length_append,pl];rfl,mem j hj⟩) (by omega) (by omega)
 refine⟨q1,by omega,⟨kvs,ks,h1,h2,by omega,knd,h4,fun j hj=>?_⟩⟩
 obtain⟨y,e⟩:=mem j hj
 have f:=ib _ y e
 have l1:(parts (ns.take i) k++[j]).length=i+1:=by rw[List.length_append,pl];rfl
 rw[l1,tk] at f
 exact f.qT.2
theorem Lvl.zero (S:eD H ns.length top nd fp cn): Lvl ns nd 0 [(0,top)]:=by
 refine⟨List.pairwise_singleton _ _,fun m x=>?_⟩
 rw[List.take_zero,parts_nil,S.tp,List.mem_singleton]
 have:span []=1:=by decide
 rw[this]
 constructor
 ·intro z;cases z;exact⟨by decide,by decide,rfl⟩
 ·rintro⟨z1,z2,z3⟩
  have:m=0:=by omega
  cases z3
  rw[this]
end
def zA (a:Adr): Sp:=fun vs H Q _=>∃(p:Addr) (ns:List Int) (low:Int) (nd:Ix->Option Addr) (fp:List Addr) (cn:Nat) (L:List Ix),vs=[.ref p]/\jd a H p ns low nd fp cn/\Cov ns.length nd L/\L.length < 64 ∧
 ∀q ts R H',RAt H' q ts R->Lvl ns nd ns.length R->Same H H'->H q=none->Q (.ref q) H'
def zB (a:Adr): Sp:=fun vs H Q _=>∃(p:Addr) (ns:List Int) (low:Int) (nd:Ix->Option Addr) (fp:List Addr) (cn:Nat) (L:List Ix),vs=[.ref p]/\jd a H p ns low nd fp cn/\Cov ns.length nd L/\L.length < 64 ∧
 ∀(Ls:List Rs) (H':Hp),Ls.length=ns.length->(∀i R,Ls[i]?=some R->Lvl ns nd i R)->Same H H'->Q (.int (((Ls.map List.length).sum:Nat):Int)) H'
section
variable {P:Program}{w:World}{K:W.Frag}{mg:Str->Option Value}{base:Heap}{a:Adr}
theorem vG {dvs:List V} (R:bB K a.aU "rows" "Tree.rows" kI ["self"] dvs) (T:Txt w K mg a)
  (cH:HasFn P w K mg base 1 "one_level_down" ["nodes", "width"] (vF) []) :
  aE P w K mg base a.aU 2 "rows" ["self"] (zA a) dvs:=by
 refine R.ok gX (fun vs H Q E h=>?_) (fun f cdv A outer s H vs Q E hr h=>?_)
 ·obtain⟨p,ns,low,nd,fp,cn,L,rfl,_⟩:=h
  rfl
 obtain⟨p,ns,low,nd,fp,cn,L,rfl,S,C,l64,k⟩:=h
 refine⟨_,(@ah _ _ _ _ _ (@aI _ _ 1 _ _ _ _ gX.nd rfl (by first | exact Or.inl rfl | exact Or.inr rfl) (@eh _ _ _ _ (@ae _ _ _ _ _ (@c8 _ _ _ _ _ (@ae _ _ _ _ _ aw (@ae _ _ _ _ _ (bg (pv 0) rfl) af rfl) rfl)) af rfl)) (by rfl) (by first | exact Or.inl rfl | exact Or.inr rfl))
   (@ah _ _ _ _ _ (cM bU rfl (qA (bg (bg (pv 0) rfl) rfl)) (bn (i:=2) gX.nd rfl (by first | exact Or.inl rfl | exact Or.inr rfl))
   (@aq _ _ _ (@aI _ _ 1 _ _ _ _ gX.nd rfl (by first | exact Or.inl rfl | exact Or.inr rfl) (bv cH (hr.mono (by decide)) (by rfl) ao (@ae _ _ _ _ _ (pv 1) (@ae _ _ _ _ _ (pv 2) af rfl) rfl)) (by rfl) (by first | exact Or.inl rfl | exact Or.inr rfl))))
   (@aq _ _ _ (@aG _ _ _ _ (pv 1))))),?_⟩
 have t1:=T.bN;have t2:=T.cf;have t3:=T.c7;have t4:=T.aP;have t5:=T.cQ
 have SA:=S
 obtain⟨⟨dx,sh,top,h1,h2,h3⟩,g,fu,ib⟩:=S
 obtain⟨dxs,t,h4,h5⟩:=id h2
 have f1:=iU t low
 walk_at "go"
 intro u hu
 have s1:Same H (upd H u (.tup [.int 0,.ref top])):=aB hu
 have e1:upd H u (.tup [.int 0,.ref top]) u=some (.tup [.int 0,.ref top]):=aj
 generalize upd H u (.tup [.int 0,.ref top])=H1 at s1 e1
 refine⟨by rw[sizeLine_eq];exact(by decide:1<=16777216),fun q hq=>?_⟩
 have s2:Same H1 (upd H1 q (.lst [.ref u])):=aB hq
 have e2:upd H1 q (.lst [.ref u]) q=some (.lst [.ref u]):=aj
 have hq0:=rN s1 hq
 generalize upd H1 q (.lst [.ref u])=H2 at s2 e2
 have s12:=s1.trans s2
 have A0:RAt H2 q [u] [(0,top)]:=⟨e2,rfl,fun i t r w1 w2=>by
  cases i with
  | zero=>cases w1;cases w2;exact s2 _ _ e1
  | succ i=>cases w1⟩
 have h12:=s12 _ _ h1
 have h42:=s12 _ _ h4
 have h52:=s12 _ _ h5
 walk_at "go"
 refine mP (xs:=ns.map V.int) (fun i σ H'=>∃(q:Addr) (ts:List Addr) (R:Rs) (v:Option V),σ=[some (.ref p),some (.ref q),v]/\RAt H' q ts R/\Lvl ns nd i R/\Same H H'/\H q=none) ⟨q,[u],_,_,rfl,A0,Lvl.zero h3,s12,hq0⟩ (fun i σ H' _ z=>?_) ?_ ?_
 ·obtain⟨q,ts,R,v,_,_,_,s,_⟩:=z
  exact SqT.of (s _ _ h5)
 ·rintro i v σ H3 hi ⟨q,ts,R,v,rfl,A3,lv,s3,hq⟩
  obtain⟨w,rfl,hw⟩:=cW hi
  have wb:=g.ws w (List.mem_append_left _ (List.mem_of_getElem? hw))
  have il:i < ns.length:=(List.getElem?_eq_some_iff.mp hw).1
  have I3:=h3.same s3
  have bl:=lv.below g I3 ib hw
  walk_at "go"
  refine⟨lv.1,fun k x h=>lv.tb g I3 fu ib C l64 hw h,fun R' r1 r2=>?_,fun q' ts' R' H4 A4 ri me s4 hq4=>?_⟩
  ·have:=Lvl.small g fu C l64 r1 (fun m x hm=>(bl m x).mp (r2 m x hm)) (by omega) (by omega:i+1<=ns.length)
   omega
  ·exact⟨q',ts',R',_,rfl,A4,⟨ri,fun m x=>by rw[me m x];exact bl m x⟩,s3.trans s4,rN s3 hq4⟩
 ·rintro σ H3 ⟨q,ts,R,v,rfl,A3,lv,s3,hq⟩
  rw[List.length_map] at lv
  walk_at "go"
  exact k q ts R H3 A3 lv s3 hq
theorem rO {dvs:List V} (R:bB K a.aU "tables" "Tree.tables" i6 ["self"] dvs) (T:Txt w K mg a)
  (cH:HasFn P w K mg base 1 "one_level_down" ["nodes", "width"] (vF) []) :
  aE P w K mg base a.aU 2 "tables" ["self"] (zB a) dvs:=by
 refine R.ok dc (fun vs H Q E h=>?_) (fun f cdv A outer s H vs Q E hr h=>?_)
 ·obtain⟨p,ns,low,nd,fp,cn,L,rfl,_⟩:=h
  rfl
 obtain⟨p,ns,low,nd,fp,cn,L,rfl,S,C,l64,k⟩:=h
 refine⟨_,(@ah _ _ _ _ _ (@aI _ _ 1 _ _ _ _ dc.nd rfl (by first | exact Or.inl rfl | exact Or.inr rfl) (@eh _ _ _ _ (@ae _ _ _ _ _ (@c8 _ _ _ _ _ (@ae _ _ _ _ _ aw (@ae _ _ _ _ _ (bg (pv 0) rfl) af rfl) rfl)) af rfl)) (by rfl) (by first | exact Or.inl rfl | exact Or.inr rfl))
   (@ah _ _ _ _ _ (@aI _ _ 2 _ _ _ _ dc.nd rfl (by first | exact Or.inl rfl | exact Or.inr rfl) (aH aJ (by rfl) T.cT PySem.boot_len (@ae _ _ _ _ _ (pv 1) af rfl)) (by rfl) (by first | exact Or.inl rfl | exact Or.inr rfl))
   (@ah _ _ _ _ _ (cM bU rfl (qA (fZ oh (bg (bg (pv 0) rfl) rfl) jE (gR (kq g9 aw)))) (bn (i:=3) dc.nd rfl (by first | exact Or.inl rfl | exact Or.inr rfl))
   (@ah _ _ _ _ _ (@aI _ _ 1 _ _ _ _ dc.nd rfl (by first | exact Or.inl rfl | exact Or.inr rfl) (bv cH (hr.mono (by decide)) (by rfl) ao (@ae _ _ _ _ _ (pv 1) (@ae _ _ _ _ _ (pv 3) af rfl) rfl)) (by rfl) (by first | exact Or.inl rfl | exact Or.inr rfl))
   (@aq _ _ _ (@aI _ _ 2 _ _ _ _ dc.nd rfl (by first | exact Or.inl rfl | exact Or.inr rfl) (aM cB (pv 2) (aH aJ (by rfl) T.cT PySem.boot_len (@ae _ _ _ _ _ (pv 1) af rfl))) (by rfl) (by first | exact Or.inl rfl | exact Or.inr rfl)))))
   (@aq _ _ _ (@aG _ _ _ _ (pv 2)))))),?_⟩
 have t1:=T.bN;have t2:=T.cf;have t3:=T.c7;have t4:=T.aP;have t5:=T.cQ
 have SA:=S
 obtain⟨⟨dx,sh,top,h1,h2,h3⟩,g,fu,ib⟩:=S
 obtain⟨dxs,t,h4,h5⟩:=id h2
 have f1:=iU t low
 have gl:=g.len
 obtain⟨κ,z,ek⟩:∃κ z,ns=κ++[z]:=by
  have ne:ns≠[]:=fun w=>by rw[w] at gl;simp at gl
  exact⟨_,_,(List.dropLast_concat_getLast ne).symm⟩
 have kl:κ.length+1=ns.length:=by rw[ek,List.length_append];rfl
 walk_at "go"
 intro u hu
 have s1:Same H (upd H u (.tup [.int 0,.ref top])):=aB hu
 have e1:upd H u (.tup [.int 0,.ref top]) u=some (.tup [.int 0,.ref top]):=aj
 generalize upd H u (.tup [.int 0,.ref top])=H1 at s1 e1
 refine⟨by rw[sizeLine_eq];exact(by decide:1<=16777216),fun q hq=>?_⟩
 have s2:Same H1 (upd H1 q (.lst [.ref u])):=aB hq
 have e2:upd H1 q (.lst [.ref u]) q=some (.lst [.ref u]):=aj
 have hq0:=rN s1 hq
 generalize upd H1 q (.lst [.ref u])=H2 at s2 e2
 have s12:=s1.trans s2
 have A0:RAt H2 q [u] [(0,top)]:=⟨e2,rfl,fun i t r w1 w2=>by
  cases i with
  | zero=>cases w1;cases w2;exact s2 _ _ e1
  | succ i=>cases w1⟩
 have h12:=s12 _ _ h1
 have h42:=s12 _ _ h4
 have h52:=s12 _ _ h5
 rw[ek] at h52
 walk_at "go"
 refine⟨fun w=>?_,fun y hy=>?_⟩
 ·have z2:=w.2
  rw[List.length_map,List.length_append] at z2
  have e:HT.sIx (κ.length+1) (κ.length+1) (some (-1))=κ.length:=by
   show (if (-1:Int) < 0 then ((-1:Int)+(((κ.length+1:Nat)):Int)).toNat else min (-1:Int).toNat (κ.length+1))=_
   rw[if_pos (by decide)]
   omega
  have z3:HT.sIx (κ.length+1) (κ.length+1) (some (-1))=κ.length+1:=z2
  rw[e] at z3
  omega
 rw[lH]
 have s3:Same H2 (upd H2 y (.tup (κ.map V.int))):=aB hy
 have e3:upd H2 y (.tup (κ.map V.int)) y=some (.tup (κ.map V.int)):=aj
 generalize upd H2 y (.tup (κ.map V.int))=H3 at s3 e3
 have s13:=s12.trans s3
 have A3:RAt H3 q [u] [(0,top)]:=⟨s3 _ _ A0.l,A0.n,fun i t r e1 e2=>s3 _ _ (A0.t i t r e1 e2)⟩
 walk_at "go"
 refine mP (xs:=κ.map V.int) (fun i σ H'=>∃(q:Addr) (ts:List Addr) (R:Rs) (Ls:List Rs) (v:Option V),σ=[some (.ref p),some (.ref q),some (.int (((Ls.map List.length).sum:Nat):Int)),v]/\RAt H' q ts R/\Ls.length=i+1/\Ls[i]?=some R/\(∀i R,Ls[i]?=some R->Lvl ns nd i R)/\Same H3 H') ⟨q,[u],[(0,top)],[[(0,top)]],_,rfl,A3,rfl,rfl,fun i R w=>?_,.refl _⟩ (fun i σ H' _ z=>?_) ?_ ?_
 ·cases i with
  | zero=>cases w;exact Lvl.zero h3
  | succ i=>cases w
 ·obtain⟨q,ts,R,Ls,v,_,_,_,_,_,s⟩:=z
  exact SqT.of (s _ _ e3)
 ·rintro i v σ H4 hi ⟨q,ts,R,Ls,v,rfl,A4,ll,lR,lvs,s4⟩
  obtain⟨w,rfl,hw'⟩:=cW hi
  have il:i < κ.length:=(List.getElem?_eq_some_iff.mp hw').1
  have hw:ns[i]?=some w:=by rw[ek,List.getElem?_append_left il];exact hw'
  have wb:=g.ws w (List.mem_append_left _ (List.mem_of_getElem? hw))
  have s04:=s13.trans s4
  have I4:=h3.same s04
  have lv:=lvs i R lR
  have bl:=lv.below g I4 ib hw
  walk_at "go"
  refine⟨lv.1,fun k x h=>lv.tb g I4 fu ib C l64 hw h,fun R' r1 r2=>?_,fun q' ts' R' H5 A5 ri me s5 hq5=>?_⟩
  ·have:=Lvl.small g fu C l64 r1 (fun m x hm=>(bl m x).mp (r2 m x hm)) (by omega) (by omega:i+1<=ns.length)
   omega
  ·have A5l:=A5.l
   have lv5:Lvl ns nd (i+1) R':=⟨ri,fun m x=>by rw[me m x];exact bl m x⟩
   have sm:(((Ls++[R']).map List.length).sum:Nat)=(Ls.map List.length).sum+(ts'.map V.ref).length:=by
    rw[List.map_append,List.sum_append,List.length_map,A5.n];simp
   walk_at "go"
   refine⟨(?_:_=[some (V.ref p),some (V.ref q'),some (V.int ((((Ls++[R']).map List.length).sum:Nat):Int)),some (V.int w)]),A5,by rw[List.length_append,ll];rfl,by rw[List.getElem?_append_right (by omega),ll,Nat.sub_self];rfl,fun j R2 w2=>?_,s4.trans s5⟩
   ·rw[sm]
    show [some (V.ref p),some (V.ref q'),some (V.int (((Ls.map List.length).sum:Int)+((ts'.map V.ref).length:Int))),some (V.int w)]=_
    rw[Int.natCast_add]
   ·by_cases c:j < Ls.length
    ·rw[List.getElem?_append_left c] at w2;exact lvs j R2 w2
    ·have jl:=(List.getElem?_eq_some_iff.mp w2).1
     rw[List.length_append] at jl
     have ej:j=i+1:=by simp at jl;omega
     rw[ej,List.getElem?_append_right (by omega),ll,Nat.sub_self] at w2
     cases w2
     rw[ej];exact lv5
 ·rintro σ H4 ⟨q,ts,R,Ls,v,rfl,A4,ll,lR,lvs,s4⟩
  rw[List.length_map] at ll
  walk_at "go"
  exact k Ls H4 (by omega) lvs (s13.trans s4)
end
end K19

set_option maxHeartbeats 4000000
namespace K19
open PySem L2
inductive Lf where
 | fresh (r:Int) | held (r f:Int) | out (r s:Int) | named (r:Int) (n:Str) (p:Int)
 deriving DecidableEq
def Lf.rights:Lf->Int
 | .fresh r=>r | .held r _=>r | .out r _=>r | .named r _ _=>r
def Lf.lZ (q:Int): Lf->Lf
 | .fresh _=>.fresh q | .held _ f=>.held q f | .out _ s=>.out q s | .named _ n p=>.named q n p
def Lf.row:Lf->List V
 | .fresh r=>[.str "fresh",.int r] | .held r f=>[.str "held",.int r,.int f] | .out r s=>[.str "out",.int r,.int s] | .named r n p=>[.str "named",.int r,.str n,.int p]
def Lf.cls (a:Adr): Lf->Addr
 | .fresh _=>a.bp
 | .held _ _=>a.bC
 | .out _ _=>a.b9
 | .named _ _ _=>a.aZ
def Lf.fs:Lf->List (Str×V)
 | .fresh r=>[("rights",.int r)] | .held r f=>[("rights",.int r),("frame",.int f)] | .out r s=>[("rights",.int r),("slot",.int s)] | .named r n p=>[("rights",.int r),("name",.str n),("part",.int p)]
def Lf.kind:Lf->Nat
 | .fresh _=>0 | .held _ _=>1 | .out _ _=>2 | .named _ _ _=>3
def dn (a:Adr)(H:Hp)(x:Addr)(f:Lf): Prop:=∃dx,H x=some (.ins (f.cls a) dx f.fs)
theorem dn.same {a:Adr}{H H':Hp}{x:Addr}{f:Lf}(h:dn a H x f)(s:Same H H'): dn a H' x f:=let ⟨dx,e⟩:=h;⟨dx,s _ _ e⟩
def OkR (r:Int): Prop:=0<=r/\r<=3
instance (r:Int): Decidable (OkR r):=by unfold OkR;infer_instance
def rP (a:Adr): Sp:=fun vs H Q E=>∃r:Int,vs=[.int r]/\(OkR r->Q .non H)/\(¬OkR r->E (.ref a.bE) none H)
def CJ:Sp:=fun vs H Q _=>∃(r:Int) (d:Str),vs=[.int r,.str d]/\OkR r/\((d = "read" ∧ Q (.bl (decide (r%2=1))) H)\/(d = "write" ∧ Q (.bl (decide (2<=r))) H))
def fP (a:Adr)(K:W.Frag): Sp:=fun vs H Q E=>∃(p dx C:Addr) (r:Int),vs=[.ref p,.int r]/\H p=some (.ins C dx [])/\Cls K C/\cC K C "rights" ∧
 (OkR r->Q .non (upd H p (.ins C dx [("rights",.int r)])))/\(¬OkR r->E (.ref a.bE) none H)
def xq (K:W.Frag): Sp:=fun vs H Q _=>∃(p dx C:Addr) (fs:List (Str×V)) (r:Int) (d:Str),vs=[.ref p,.str d]/\H p=some (.ins C dx fs)/\Cls K C/\cC K C "rights" ∧ fs.lookup ("rights" : Str)=some (.int r)/\OkR r/\((d = "read" ∧ Q (.bl (decide (r%2=1))) H)\/(d = "write" ∧ Q (.bl (decide (2<=r))) H))
theorem Fz {r:Int}(h:OkR r): (!decide (V.int (Builtin.bitAnd r 1)=V.int 0))=decide (r%2=1):=by
 have:r=0\/r=1\/r=2\/r=3:=by have:=h.1;have:=h.2;omega
 rcases this with rfl | rfl | rfl | rfl<;>decide +kernel
theorem FA {r:Int}(h:OkR r): (!decide (V.int (Builtin.bitAnd r 2)=V.int 0))=decide (2<=r):=by
 have:r=0\/r=1\/r=2\/r=3:=by have:=h.1;have:=h.2;omega
 rcases this with rfl | rfl | rfl | rfl<;>decide +kernel
def mC (a:Adr): Sp:=fun vs H Q E=>∃(p dx:Addr) (r f:Int),vs=[.ref p,.int r,.int f]/\H p=some (.ins a.bC dx []) ∧
 (OkR r->Q .non (upd H p (.ins a.bC dx (Lf.held r f).fs)))/\(¬OkR r->E (.ref a.bE) none H)
def oX (a:Adr): Sp:=fun vs H Q E=>∃(p dx:Addr) (r f:Int),vs=[.ref p,.int r,.int f]/\H p=some (.ins a.b9 dx []) ∧
 (OkR r->Q .non (upd H p (.ins a.b9 dx (Lf.out r f).fs)))/\(¬OkR r->E (.ref a.bE) none H)
def kZ (a:Adr): Sp:=fun vs H Q E=>∃(p dx:Addr) (r f:Int) (n:Str),vs=[.ref p,.int r,.str n,.int f]/\H p=some (.ins a.aZ dx []) ∧
 (OkR r->Q .non (upd H p (.ins a.aZ dx (Lf.named r n f).fs)))/\(¬OkR r->E (.ref a.bE) none H)
def cy (a:Adr)(n:Nat): Sp:=fun vs H Q _=>∃(x:Addr) (g:Lf),vs=[.ref x]/\dn a H x g/\g.kind=n/\∀t,H t=none->Q (.ref t) (upd H t (.tup g.row))
def d8 (a:Adr)(n:Nat): Sp:=fun vs H Q E=>∃(x:Addr) (g:Lf) (q:Int),vs=[.ref x,.int q]/\dn a H x g/\g.kind=n ∧
 (OkR q->∀y H',dn a H' y (g.lZ q)->Same H H'->H y=none->Q (.ref y) H')/\(¬OkR q->∀H',Same H H'->E (.ref a.bE) none H')
section
variable {P:Program}{w:World}{K:W.Frag}{mg:Str->Option Value}{base:Heap}{a:Adr}
theorem qd {dvs:List V} (R:cE K mg "check_rights" hZ ["rights"] dvs) (T:Txt w K mg a) :
  HasFn P w K mg base 1 "check_rights" ["rights"] (rP a) dvs:=by
 refine R.ok pV (fun vs H Q E h=>?_) (fun f cdv A outer s H vs Q E hr h=>?_)
 ·obtain⟨r,rfl,_⟩:=h
  rfl
 obtain⟨r,rfl,k1,k2⟩:=h
 refine⟨_,(@aq _ _ _ (bD (cA (jo ku ku aw (pv 0) aw)) (@aq _ _ _ (hJ T.mw rfl (by rfl) T.yr ao (@ae _ _ _ _ _ b5 af rfl))) aQ)),?_⟩
 walk_at "go"
 refine lL (fun c0=>?_) (fun c0=>?_)
 ·walk_at "go"
  exact pO (fun c1=>⟨aR,k2 fun z=>c1 z.2⟩) fun c1=>k1 ⟨c0,c1⟩
 ·walk_at "go"
  exact k2 fun z=>c0 z.1
theorem D3 {dvs:List V} (R:cE K mg "lets" yj ["rights", "deed"] dvs) (T:Txt w K mg a) :
  HasFn P w K mg base 1 "lets" ["rights", "deed"] (CJ) dvs:=by
 refine R.ok DU (fun vs H Q E h=>?_) (fun f cdv A outer s H vs Q E hr h=>?_)
 ·obtain⟨r,d,rfl,_⟩:=h
  rfl
 obtain⟨r,d,rfl,hr0,k⟩:=h
 refine⟨_,(@aq _ _ _ (@aG _ _ _ _ (fU lT (aM xS (pv 0) (Aj (by rfl) T.Cy T.dg (pv 1) (fun _ _=>rfl))) aw (bo _)))),?_⟩
 obtain⟨t1,n1⟩:=T.ja
 obtain⟨t2,n2⟩:=T.iz
 rcases k with ⟨rfl,q⟩ | ⟨rfl,q⟩
 ·refine⟨_,rfl,_,rfl,_,.int 1,_,rfl,n1,⟨_,rfl⟩,?_⟩
  walk_at "go"
  rw[<-Fz hr0] at q
  exact q
 ·refine⟨_,rfl,_,rfl,_,.int 2,_,rfl,n2,⟨_,rfl⟩,?_⟩
  walk_at "go"
  rw[<-FA hr0] at q
  exact q
theorem jB {f:Addr} {oc:Value} {od:Option Addr} {dV kV doc pm:Value} {an:Option Addr} {cdv ct:Value} {osl:Array (Option Value)} (lk:K.lookup f=some ⟨oc,od,.func (W.fnOf "__init__" "Leaf.__init__" (bK bG) (aO bG) (au bG) dV kV doc pm an cdv ct),osl⟩) (hcd:W.codeIn K cdv "Leaf.__init__" = true) (T:Txt w K mg a)
  (cS:HasFn P w K mg base 1 "check_rights" ["rights"] (rP a) []) :
  fY P w K mg base (CXE P w) 2 f (W.fnOf "__init__" "Leaf.__init__" (bK bG) (aO bG) (au bG) dV kV doc pm an cdv ct) ["self", "rights"] (fP a K):=by
 refine pf lk hcd oE (fun vs H Q E h=>?_) (fun A outer s H vs Q E hr h=>?_)
 ·obtain⟨p,dx,C,r,rfl,_⟩:=h
  rfl
 obtain⟨p,dx,C,r,rfl,hp,t1,t2,k1,k2⟩:=h
 refine⟨_,(@ah _ _ _ _ _ (bu (bv cS (hr.mono (by decide)) (by rfl) ao (@ae _ _ _ _ _ (pv 1) af rfl)))
   (@aq _ _ _ (gp (pv 0) (pv 1) rfl))),?_⟩
 walk_at "go"
 refine⟨fun ok=>?_,fun bad=>k2 bad⟩
 walk_at "go"
 exact k1 ok
theorem iV {f:Addr} {oc:Value} {od:Option Addr} {dV kV doc pm:Value} {an:Option Addr} {cdv ct:Value} {osl:Array (Option Value)} (lk:K.lookup f=some ⟨oc,od,.func (W.fnOf "may" "Leaf.may" (bK cZ) (aO cZ) (au cZ) dV kV doc pm an cdv ct),osl⟩) (hcd:W.codeIn K cdv "Leaf.may" = true) (T:Txt w K mg a)
  (oY:HasFn P w K mg base 1 "lets" ["rights", "deed"] (CJ) []) :
  fY P w K mg base (CXE P w) 2 f (W.fnOf "may" "Leaf.may" (bK cZ) (aO cZ) (au cZ) dV kV doc pm an cdv ct) ["self", "deed"] (xq K):=by
 refine pf lk hcd wO (fun vs H Q E h=>?_) (fun A outer s H vs Q E hr h=>?_)
 ·obtain⟨p,dx,C,fs,r,d,rfl,_⟩:=h
  rfl
 obtain⟨p,dx,C,fs,r,d,rfl,hp,t1,t2,hl,h0,k⟩:=h
 refine⟨_,(@aq _ _ _ (@aG _ _ _ _ (bv oY (hr.mono (by decide)) (by rfl) ao (@ae _ _ _ _ _ (bg (pv 0) rfl) (@ae _ _ _ _ _ (pv 1) af rfl) rfl)))),?_⟩
 walk_at "go"
 rcases k with ⟨rfl,q⟩ | ⟨rfl,q⟩
 ·exact .inl ⟨rfl,q⟩
 ·exact .inr ⟨rfl,q⟩
theorem oZ {dvs:List V} (R:kA K a.bC "Held.__init__" gB ["self", "rights", "frame"] dvs) (T:Txt w K mg a)
  (bI:wC P w K mg base a.fq 2 "__init__" ["self", "rights"] (fP a K) []) :
  eB P w K mg base a.bC 3 ["self", "rights", "frame"] (mC a) dvs:=by
 refine R.ok oG (fun vs H Q E h=>?_) (fun f cdv A outer s H vs Q E hr h=>?_)
 ·obtain⟨p,dx,r,f,rfl,_⟩:=h
  rfl
 obtain⟨p,dx,r,f,rfl,hp,k1,k2⟩:=h
 refine⟨_,(@ah _ _ _ _ _ (bu (BW (by rfl) T.yt bI (hr.mono (by decide)) ao (@ae _ _ _ _ _ (pv 0) (@ae _ _ _ _ _ (pv 1) af rfl) rfl)))
   (@aq _ _ _ (gp (pv 0) (pv 2) rfl))),?_⟩
 have d1:=T.eG;have d2:=T.dG;have d3:=T.fw
 walk_at "go"
 refine⟨fun ok=>?_,fun bad=>k2 bad⟩
 walk_at "go"
 rw[j9 (by decide +kernel),jH,dZ]
 exact k1 ok
theorem qe {dvs:List V} (R:kA K a.b9 "Out.__init__" ic ["self", "rights", "slot"] dvs) (T:Txt w K mg a)
  (bI:wC P w K mg base a.fq 2 "__init__" ["self", "rights"] (fP a K) []) :
  eB P w K mg base a.b9 3 ["self", "rights", "slot"] (oX a) dvs:=by
 refine R.ok p4 (fun vs H Q E h=>?_) (fun f cdv A outer s H vs Q E hr h=>?_)
 ·obtain⟨p,dx,r,f,rfl,_⟩:=h
  rfl
 obtain⟨p,dx,r,f,rfl,hp,k1,k2⟩:=h
 refine⟨_,(@ah _ _ _ _ _ (bu (BW (by rfl) T.yt bI (hr.mono (by decide)) ao (@ae _ _ _ _ _ (pv 0) (@ae _ _ _ _ _ (pv 1) af rfl) rfl)))
   (@aq _ _ _ (gp (pv 0) (pv 2) rfl))),?_⟩
 have d1:=T.gH;have d2:=T.d7;have d3:=T.iy
 walk_at "go"
 refine⟨fun ok=>?_,fun bad=>k2 bad⟩
 walk_at "go"
 rw[j9 (by decide +kernel),jH,dZ]
 exact k1 ok
theorem nN {dvs:List V} (R:kA K a.aZ "Named.__init__" fL ["self", "rights", "name", "part"] dvs) (T:Txt w K mg a)
  (bI:wC P w K mg base a.fq 2 "__init__" ["self", "rights"] (fP a K) []) :
  eB P w K mg base a.aZ 3 ["self", "rights", "name", "part"] (kZ a) dvs:=by
 refine R.ok nh (fun vs H Q E h=>?_) (fun f cdv A outer s H vs Q E hr h=>?_)
 ·obtain⟨p,dx,r,f,n,rfl,_⟩:=h
  rfl
 obtain⟨p,dx,r,f,n,rfl,hp,k1,k2⟩:=h
 refine⟨_,(@ah _ _ _ _ _ (bu (BW (by rfl) T.yt bI (hr.mono (by decide)) ao (@ae _ _ _ _ _ (pv 0) (@ae _ _ _ _ _ (pv 1) af rfl) rfl)))
   (@ah _ _ _ _ _ (gp (pv 0) (pv 2) rfl)
   (@aq _ _ _ (gp (pv 0) (pv 3) rfl)))),?_⟩
 have d1:=T.dE;have d2:=T.di;have d3:=T.fz;have d4:=T.fA
 walk_at "go"
 refine⟨fun ok=>?_,fun bad=>k2 bad⟩
 walk_at "go"
 rw[j9 (by decide +kernel),jH,j9 (by decide +kernel),j9 (by decide +kernel),jH,dZ,dZ]
 exact k1 ok
theorem vH {dvs:List V} (R:bB K a.bp "row" "Fresh.row" kF ["self"] dvs) (T:Txt w K mg a) :
  aE P w K mg base a.bp 1 "row" ["self"] (cy a 0) dvs:=by
 refine R.ok uY (fun vs H Q E h=>?_) (fun f cdv A outer s H vs Q E hr h=>?_)
 ·obtain⟨x,g,rfl,_⟩:=h
  rfl
 obtain⟨x,g,rfl,S,hk,k⟩:=h
 refine⟨_,(@aq _ _ _ (@aG _ _ _ _ (@c8 _ _ _ _ _ (@ae _ _ _ _ _ b5 (@ae _ _ _ _ _ (bg (pv 0) rfl) af rfl) rfl)))),?_⟩
 have d1:=T.dD;have d2:=T.dh
 cases g with
 | fresh r =>
  obtain⟨dx,hx⟩:=S
  have hx:H x=some (.ins a.bp dx _):=hx
  unfold Lf.fs at hx
  walk_at "go"
  exact k
 | held _ _=>cases hk
 | out _ _=>cases hk
 | named _ _ _=>cases hk
theorem xr {dvs:List V} (R:bB K a.bC "row" "Held.row" mh ["self"] dvs) (T:Txt w K mg a) :
  aE P w K mg base a.bC 1 "row" ["self"] (cy a 1) dvs:=by
 refine R.ok wR (fun vs H Q E h=>?_) (fun f cdv A outer s H vs Q E hr h=>?_)
 ·obtain⟨x,g,rfl,_⟩:=h
  rfl
 obtain⟨x,g,rfl,S,hk,k⟩:=h
 refine⟨_,(@aq _ _ _ (@aG _ _ _ _ (@c8 _ _ _ _ _ (@ae _ _ _ _ _ b5 (@ae _ _ _ _ _ (bg (pv 0) rfl) (@ae _ _ _ _ _ (bg (pv 0) rfl) af rfl) rfl) rfl)))),?_⟩
 have d1:=T.eG;have d2:=T.dG;have d3:=T.fw
 cases g with
 | fresh _=>cases hk
 | held r f =>
  obtain⟨dx,hx⟩:=S
  have hx:H x=some (.ins a.bC dx _):=hx
  unfold Lf.fs at hx
  walk_at "go"
  exact k
 | out _ _=>cases hk
 | named _ _ _=>cases hk
theorem yA {dvs:List V} (R:bB K a.b9 "row" "Out.row" oy ["self"] dvs) (T:Txt w K mg a) :
  aE P w K mg base a.b9 1 "row" ["self"] (cy a 2) dvs:=by
 refine R.ok yn (fun vs H Q E h=>?_) (fun f cdv A outer s H vs Q E hr h=>?_)
 ·obtain⟨x,g,rfl,_⟩:=h
  rfl
 obtain⟨x,g,rfl,S,hk,k⟩:=h
 refine⟨_,(@aq _ _ _ (@aG _ _ _ _ (@c8 _ _ _ _ _ (@ae _ _ _ _ _ b5 (@ae _ _ _ _ _ (bg (pv 0) rfl) (@ae _ _ _ _ _ (bg (pv 0) rfl) af rfl) rfl) rfl)))),?_⟩
 have d1:=T.gH;have d2:=T.d7;have d3:=T.iy
 cases g with
 | fresh _=>cases hk
 | held _ _=>cases hk
 | out r f =>
  obtain⟨dx,hx⟩:=S
  have hx:H x=some (.ins a.b9 dx _):=hx
  unfold Lf.fs at hx
  walk_at "go"
  exact k
 | named _ _ _=>cases hk
theorem vI {dvs:List V} (R:bB K a.aZ "row" "Named.row" kG ["self"] dvs) (T:Txt w K mg a) :
  aE P w K mg base a.aZ 1 "row" ["self"] (cy a 3) dvs:=by
 refine R.ok uZ (fun vs H Q E h=>?_) (fun f cdv A outer s H vs Q E hr h=>?_)
 ·obtain⟨x,g,rfl,_⟩:=h
  rfl
 obtain⟨x,g,rfl,S,hk,k⟩:=h
 refine⟨_,(@aq _ _ _ (@aG _ _ _ _ (@c8 _ _ _ _ _ (@ae _ _ _ _ _ b5 (@ae _ _ _ _ _ (bg (pv 0) rfl) (@ae _ _ _ _ _ (bg (pv 0) rfl) (@ae _ _ _ _ _ (bg (pv 0) rfl) af rfl) rfl) rfl) rfl)))),?_⟩
 have d1:=T.dE;have d2:=T.di;have d3:=T.fz;have d4:=T.fA
 cases g with
 | fresh _=>cases hk
 | held _ _=>cases hk
 | out _ _=>cases hk
 | named r n f =>
  obtain⟨dx,hx⟩:=S
  have hx:H x=some (.ins a.aZ dx _):=hx
  unfold Lf.fs at hx
  walk_at "go"
  exact k
theorem o0 {dvs:List V} (R:bB K a.bp "righted" "Fresh.righted" gA ["self", "rights"] dvs) (T:Txt w K mg a)
  (cI:eB P w K mg base a.bp 2 ["self", "rights"] (fP a K) []) :
  aE P w K mg base a.bp 4 "righted" ["self", "rights"] (d8 a 0) dvs:=by
 refine R.ok oF (fun vs H Q E h=>?_) (fun f cdv A outer s H vs Q E hr h=>?_)
 ·obtain⟨x,g,q,rfl,_⟩:=h
  rfl
 obtain⟨x,g,q,rfl,S,hk,k1,k2⟩:=h
 refine⟨_,(@aq _ _ _ (@aG _ _ _ _ (j8 cI (hr.mono (by decide)) (by rfl) T.zf ao (@ae _ _ _ _ _ (pv 1) af rfl)))),?_⟩
 have d1:=T.dD;have d2:=T.dh
 cases g with
 | fresh r =>
  obtain⟨dx,hx⟩:=S
  have hx:H x=some (.ins a.bp dx _):=hx
  unfold Lf.fs at hx
  walk_at "go"
  intro y dy hy hdy ny
  have hy':upd H dy (.own y) y=none:=by rw[av ny.symm];exact hy
  have sm:Same H (upd (upd H dy (.own y)) y (.ins a.bp dy [])):=(aB hdy).trans (aB hy')
  have e1:upd (upd H dy (.own y)) y (.ins a.bp dy []) y=some (.ins a.bp dy []):=aj
  walk_at "go"
  refine⟨fun ok=>⟨rfl,?_⟩,fun bad=>k2 bad _ sm⟩
  refine k1 ok y _ ⟨dy,aj⟩ ?_ hy
  rw[dZ]
  exact(aB hdy).trans (aB hy')
 | held _ _=>cases hk
 | out _ _=>cases hk
 | named _ _ _=>cases hk
theorem qf {dvs:List V} (R:bB K a.bC "righted" "Held.righted" h_ ["self", "rights"] dvs) (T:Txt w K mg a)
  (cU:eB P w K mg base a.bC 3 ["self", "rights", "frame"] (mC a) []) :
  aE P w K mg base a.bC 5 "righted" ["self", "rights"] (d8 a 1) dvs:=by
 refine R.ok pZ (fun vs H Q E h=>?_) (fun f cdv A outer s H vs Q E hr h=>?_)
 ·obtain⟨x,g,q,rfl,_⟩:=h
  rfl
 obtain⟨x,g,q,rfl,S,hk,k1,k2⟩:=h
 refine⟨_,(@aq _ _ _ (@aG _ _ _ _ (j8 cU (hr.mono (by decide)) (by rfl) T.Cw ao (@ae _ _ _ _ _ (pv 1) (@ae _ _ _ _ _ (bg (pv 0) rfl) af rfl) rfl)))),?_⟩
 have d1:=T.eG;have d2:=T.dG;have d3:=T.fw
 cases g with
 | fresh _=>cases hk
 | held r f =>
  obtain⟨dx,hx⟩:=S
  have hx:H x=some (.ins a.bC dx _):=hx
  unfold Lf.fs at hx
  walk_at "go"
  intro y dy hy hdy ny
  have hy':upd H dy (.own y) y=none:=by rw[av ny.symm];exact hy
  have sm:Same H (upd (upd H dy (.own y)) y (.ins a.bC dy [])):=(aB hdy).trans (aB hy')
  have e1:upd (upd H dy (.own y)) y (.ins a.bC dy []) y=some (.ins a.bC dy []):=aj
  walk_at "go"
  refine⟨fun ok=>⟨rfl,?_⟩,fun bad=>k2 bad _ sm⟩
  refine k1 ok y _ ⟨dy,aj⟩ ?_ hy
  rw[dZ]
  exact(aB hdy).trans (aB hy')
 | out _ _=>cases hk
 | named _ _ _=>cases hk
theorem rQ {dvs:List V} (R:bB K a.b9 "righted" "Out.righted" i5 ["self", "rights"] dvs) (T:Txt w K mg a)
  (dq:eB P w K mg base a.b9 3 ["self", "rights", "slot"] (oX a) []) :
  aE P w K mg base a.b9 5 "righted" ["self", "rights"] (d8 a 2) dvs:=by
 refine R.ok rk (fun vs H Q E h=>?_) (fun f cdv A outer s H vs Q E hr h=>?_)
 ·obtain⟨x,g,q,rfl,_⟩:=h
  rfl
 obtain⟨x,g,q,rfl,S,hk,k1,k2⟩:=h
 refine⟨_,(@aq _ _ _ (@aG _ _ _ _ (j8 dq (hr.mono (by decide)) (by rfl) T.Eu ao (@ae _ _ _ _ _ (pv 1) (@ae _ _ _ _ _ (bg (pv 0) rfl) af rfl) rfl)))),?_⟩
 have d1:=T.gH;have d2:=T.d7;have d3:=T.iy
 cases g with
 | fresh _=>cases hk
 | held _ _=>cases hk
 | out r f =>
  obtain⟨dx,hx⟩:=S
  have hx:H x=some (.ins a.b9 dx _):=hx
  unfold Lf.fs at hx
  walk_at "go"
  intro y dy hy hdy ny
  have hy':upd H dy (.own y) y=none:=by rw[av ny.symm];exact hy
  have sm:Same H (upd (upd H dy (.own y)) y (.ins a.b9 dy [])):=(aB hdy).trans (aB hy')
  have e1:upd (upd H dy (.own y)) y (.ins a.b9 dy []) y=some (.ins a.b9 dy []):=aj
  walk_at "go"
  refine⟨fun ok=>⟨rfl,?_⟩,fun bad=>k2 bad _ sm⟩
  refine k1 ok y _ ⟨dy,aj⟩ ?_ hy
  rw[dZ]
  exact(aB hdy).trans (aB hy')
 | named _ _ _=>cases hk
theorem o3 {dvs:List V} (R:bB K a.aZ "righted" "Named.righted" gC ["self", "rights"] dvs) (T:Txt w K mg a)
  (cJ:eB P w K mg base a.aZ 3 ["self", "rights", "name", "part"] (kZ a) []) :
  aE P w K mg base a.aZ 5 "righted" ["self", "rights"] (d8 a 3) dvs:=by
 refine R.ok oJ (fun vs H Q E h=>?_) (fun f cdv A outer s H vs Q E hr h=>?_)
 ·obtain⟨x,g,q,rfl,_⟩:=h
  rfl
 obtain⟨x,g,q,rfl,S,hk,k1,k2⟩:=h
 refine⟨_,(@aq _ _ _ (@aG _ _ _ _ (j8 cJ (hr.mono (by decide)) (by rfl) T.zg ao (@ae _ _ _ _ _ (pv 1) (@ae _ _ _ _ _ (bg (pv 0) rfl) (@ae _ _ _ _ _ (bg (pv 0) rfl) af rfl) rfl) rfl)))),?_⟩
 have d1:=T.dE;have d2:=T.di;have d3:=T.fz;have d4:=T.fA
 cases g with
 | fresh _=>cases hk
 | held _ _=>cases hk
 | out _ _=>cases hk
 | named r n f =>
  obtain⟨dx,hx⟩:=S
  have hx:H x=some (.ins a.aZ dx _):=hx
  unfold Lf.fs at hx
  walk_at "go"
  intro y dy hy hdy ny
  have hy':upd H dy (.own y) y=none:=by rw[av ny.symm];exact hy
  have sm:Same H (upd (upd H dy (.own y)) y (.ins a.aZ dy [])):=(aB hdy).trans (aB hy')
  have e1:upd (upd H dy (.own y)) y (.ins a.aZ dy []) y=some (.ins a.aZ dy []):=aj
  walk_at "go"
  refine⟨fun ok=>⟨rfl,?_⟩,fun bad=>k2 bad _ sm⟩
  refine k1 ok y _ ⟨dy,aj⟩ ?_ hy
  rw[dZ]
  exact(aB hdy).trans (aB hy')
end
def nO (x:Str): Prop:=PyData.canLay0 (.str x)=true
def Lf.ok:Lf->Prop
 | .named _ n _=>nO n
 | _=>True
theorem b7 {H H':Hp}{q:Addr}{o:HO}(hq:H q=none)(hh:upd H q o=H'): Same H H'/\H' q=some o:=by subst hh;exact⟨aB hq,aj⟩
structure Bx (p:Prop): Prop where
 o:p
def o4 (t ad de:V): List (Str×V):=[("task",t),("address",ad),("deed",de)]
def nP (K:W.Frag): Sp:=fun vs H Q _=>∃(e C:Addr) (t ad de:V),vs=[.ref e,t,ad,de]/\H e=some (exM e (.ref C) none)/\XO K C/\gT K C "task" ∧ gT K C "address" ∧ gT K C "deed" ∧
 ∀d H',H d=none->d≠e->H' e=some (exM e (.ref C) (some d))->H' d=some (xdW d (o4 t ad de))->(∀b,b≠e->b≠d->H' b=H b)->Q .non H'
def xt (K:W.Frag): Sp:=fun vs H Q _=>∃(e C:Addr) (pg:V),vs=[.ref e,pg]/\H e=some (exM e (.ref C) none)/\XO K C/\gT K C "page" ∧
 ∀d H',H d=none->d≠e->H' e=some (exM e (.ref C) (some d))->H' d=some (xdW d [("page",pg)])->(∀b,b≠e->b≠d->H' b=H b)->Q .non H'
section
variable {P:Program}{w:World}{K:W.Frag}{mg:Str->Option Value}{base:Heap}{a:Adr}
theorem nQ {f:Addr} {oc:Value} {od:Option Addr} {dV kV doc pm:Value} {an:Option Addr} {cdv ct:Value} {osl:Array (Option Value)} (lk:K.lookup f=some ⟨oc,od,.func (W.fnOf "__init__" "Taken.__init__" (bK bx) (aO bx) (au bx) dV kV doc pm an cdv ct),osl⟩) (hcd:W.codeIn K cdv "Taken.__init__" = true) (T:Txt w K mg a) :
  fY P w K mg base (CXE P w) 1 f (W.fnOf "__init__" "Taken.__init__" (bK bx) (aO bx) (au bx) dV kV doc pm an cdv ct) ["self", "page"] (xt K):=by
 refine pf lk hcd ni (fun vs H Q E h=>?_) (fun A outer s H vs Q E hr h=>?_)
 ·obtain⟨e,C,pg,rfl,_⟩:=h
  rfl
 obtain⟨e,C,pg,rfl,he,xo,x1,k⟩:=h
 refine⟨_,(@ah _ _ _ _ _ (bu (wM T.nB (by rfl) T.iS (@ae _ _ _ _ _ (pv 0) (@ae _ _ _ _ _ (pv 1) af rfl) rfl)))
   (@aq _ _ _ (wK (pv 0) (pv 1) rfl))),?_⟩
 have zr:[pg].length<=sizeLine:=by rw[sizeLine_eq];show 1<=_;decide
 walk_at "go"
 intro d hd ne
 have hd0:H d=none:=by rw[av ne] at hd;exact hd
 exact k d _ hd0 ne aj (by rw[av ne,aj]) fun b n1 n2=>by rw[av n1,av n2,av n1]
theorem iW {f:Addr} {oc:Value} {od:Option Addr} {dV kV doc pm:Value} {an:Option Addr} {cdv ct:Value} {osl:Array (Option Value)} (lk:K.lookup f=some ⟨oc,od,.func (W.fnOf "__init__" "Fault.__init__" (bK bz) (aO bz) (au bz) dV kV doc pm an cdv ct),osl⟩) (hcd:W.codeIn K cdv "Fault.__init__" = true) (T:Txt w K mg a) :
  fY P w K mg base (CXE P w) 1 f (W.fnOf "__init__" "Fault.__init__" (bK bz) (aO bz) (au bz) dV kV doc pm an cdv ct) ["self", "task", "address", "deed"] (nP K):=by
 refine pf lk hcd nj (fun vs H Q E h=>?_) (fun A outer s H vs Q E hr h=>?_)
 ·obtain⟨e,C,t,ad,de,rfl,_⟩:=h
  rfl
 obtain⟨e,C,t,ad,de,rfl,he,xo,x1,x2,x3,k⟩:=h
 refine⟨_,(@ah _ _ _ _ _ (bu (wM T.nB (by rfl) T.iS (@ae _ _ _ _ _ (pv 0) (@ae _ _ _ _ _ (pv 1) (@ae _ _ _ _ _ (pv 2) (@ae _ _ _ _ _ (pv 3) af rfl) rfl) rfl) rfl)))
   (@ah _ _ _ _ _ (wK (pv 0) (pv 1) rfl)
   (@ah _ _ _ _ _ (wL (pv 0) (pv 2) rfl)
   (@aq _ _ _ (wL (pv 0) (pv 3) rfl))))),?_⟩
 have zr:[t,ad,de].length<=sizeLine:=by rw[sizeLine_eq];show 3<=_;decide
 walk_at "go"
 intro d hd ne
 have hd0:H d=none:=by rw[av ne] at hd;exact hd
 generalize hh:upd _ e _=H1
 have a1:H1 e=some (exM e (.ref C) (some d)):=by rw[<-hh];exact aj
 have a2:H1 d=some (xdW d [("task",t)]):=by rw[<-hh,av ne,aj]
 have a3:∀b,b≠e->b≠d->H1 b=H b:=fun b n1 n2=>by rw[<-hh,av n1,av n2,av n1]
 clear hh
 have z1:[(("task" : Str),t)].length < 1000:=by show 1 < 1000;decide
 walk_at "go"
 refine k d _ hd0 ne aj ?_ fun b n1 n2=>by rw[av n1,av n2,av n1,av n2];exact a3 b n1 n2
 have e1:gn "address" ad ([]:List (Str×V))=([("address",ad)]:List (Str×V)):=rfl
 rw[av ne,aj,j9 (by decide +kernel),j9 (by decide +kernel),e1,j9 (by decide +kernel)]
 rfl
end
end K19

set_option maxHeartbeats 4000000
namespace K19
open PySem L2
def bZ (a:Adr)(H:Hp)(p:Addr)(ns:List Int)(low task:Int)(nd:Ix->Option Addr)(fp:List Addr)(cn:Nat): Prop:=∃dx sh tr dt sh2 top dxs ts,H p=some (.ins a.aD dx [("shape",.ref sh),("task",.int task),("tree",.ref tr)]) ∧
 H tr=some (.ins a.aU dt [("shape",.ref sh2),("top",.ref top)])/\jd a H tr ns low nd fp cn/\H sh=some (.ins a.az dxs (vv ts low))/\H ts=some (.tup (ns.map V.int))/\Good ns low/\p∉fp/\p≠tr/\tr∉fp/\sh∉fp/\ts∉fp
theorem bZ.same {a:Adr}{H H':Hp}{p:Addr}{ns:List Int}{low task:Int}{nd:Ix->Option Addr}{fp:List Addr}{cn:Nat}(S:bZ a H p ns low task nd fp cn)(s:Same H H'): bZ a H' p ns low task nd fp cn:=by
 obtain⟨dx,sh,tr,dt,sh2,top,dxs,ts,h1,h2,h3,h4,h4',h5⟩:=S
 exact⟨dx,sh,tr,dt,sh2,top,dxs,ts,s _ _ h1,s _ _ h2,h3.same s,s _ _ h4,s _ _ h4',h5⟩
def iE (a:Adr): Sp:=fun vs H Q E=>∃(p:Addr) (ns:List Int) (low task n:Int) (nd:Ix->Option Addr) (fp:List Addr) (cn:Nat),vs=[.ref p,.int n]/\bZ a H p ns low task nd fp cn ∧
 (0<=n/\n < pgs ns->∀H',Same H H'->Q (ndV (nd (parts ns n))) H')/\(¬(0<=n/\n < pgs ns)->E (.ref a.aT) none H)
def rR (a:Adr): Sp:=fun vs H Q _=>∃(p:Addr) (ns:List Int) (low task:Int) (nd:Ix->Option Addr) (fp:List Addr) (cn:Nat) (L:List Ix),vs=[.ref p]/\bZ a H p ns low task nd fp cn/\Cov ns.length nd L/\L.length < 64 ∧
 ∀q ts R H',RAt H' q ts R->Lvl ns nd ns.length R->Same H H'->H q=none->Q (.ref q) H'
def nR (a:Adr): Sp:=fun vs H Q E=>∃(p x:Addr) (ns:List Int) (low task n:Int) (nd:Ix->Option Addr) (fp:List Addr) (cn:Nat),vs=[.ref p,.int n,.ref x]/\bZ a H p ns low task nd fp cn/\cn < 100000/\(∃u,H x=some u) ∧
 (0<=n/\n < pgs ns->∀nd' fp' H',bZ a H' p ns low task nd' fp' (cn+1)->Put nd (parts ns n) x nd'->L2.Fr fp fp' H H'->(∀b∈fp,b∈fp')->Q .non H')/\(¬(0<=n/\n < pgs ns)->E (.ref a.aT) none H)
def rS (a:Adr): Sp:=fun vs H Q _=>∃(p sh dx:Addr) (ns:List Int) (low task:Int),vs=[.ref p,.ref sh,.int task]/\H p=some (.ins a.aD dx [])/\iC a.az H sh ns low/\Good ns low ∧
 ∀top H',H top=none->bZ a H' p ns low task (fun π=>if π=[] then some top else none) [top] 0->(∀b u,H b=some u->b≠p->H' b=some u)->Q .non H'
section
variable {P:Program}{w:World}{K:W.Frag}{mg:Str->Option Value}{base:Heap}{a:Adr}
theorem sX {dvs:List V} (R:bB K a.aD "leaf" "Space.leaf" jK ["self", "page"] dvs) (T:Txt w K mg a)
  (k7:aE P w K mg base a.aU 5 "leaf" ["self", "page"] (zu a) []) :
  aE P w K mg base a.aD 6 "leaf" ["self", "page"] (iE a) dvs:=by
 refine R.ok sO (fun vs H Q E h=>?_) (fun f cdv A outer s H vs Q E hr h=>?_)
 ·obtain⟨p,ns,low,task,n,nd,fp,cn,rfl,_⟩:=h
  rfl
 obtain⟨p,ns,low,task,n,nd,fp,cn,rfl,S,k1,k2⟩:=h
 refine⟨_,(@aq _ _ _ (@aG _ _ _ _ (cq (bg (pv 0) rfl) T.bN k7 (hr.mono (by decide)) ao (@ae _ _ _ _ _ (pv 1) af rfl)))),?_⟩
 have t1:=T.aN;have t2:=T.bW;have t3:=T.bN
 obtain⟨dx,sh,tr,dt,sh2,top,dxs,ts,h1,h2,h3,h4,h4',h5,h6,h7,h8,h9,h10⟩:=S
 walk_at "go"
 exact k2
theorem sY {dvs:List V} (R:bB K a.aD "rows" "Space.rows" jL ["self"] dvs) (T:Txt w K mg a)
  (k8:aE P w K mg base a.aU 2 "rows" ["self"] (zA a) []) :
  aE P w K mg base a.aD 3 "rows" ["self"] (rR a) dvs:=by
 refine R.ok sP (fun vs H Q E h=>?_) (fun f cdv A outer s H vs Q E hr h=>?_)
 ·obtain⟨p,ns,low,task,nd,fp,cn,L,rfl,_⟩:=h
  rfl
 obtain⟨p,ns,low,task,nd,fp,cn,L,rfl,S,cv,l63,k⟩:=h
 refine⟨_,(@aq _ _ _ (@aG _ _ _ _ (gq (bg (pv 0) rfl) T.bN k8 (hr.mono (by decide)) ao))),?_⟩
 have t1:=T.aN;have t2:=T.bW;have t3:=T.bN
 obtain⟨dx,sh,tr,dt,sh2,top,dxs,ts,h1,h2,h3,h4,h4',h5,h6,h7,h8,h9,h10⟩:=S
 walk_at "go"
 exact k
theorem vJ {dvs:List V} (R:bB K a.aD "put" "Space.put" kJ ["self", "page", "leaf"] dvs) (T:Txt w K mg a)
  (mD:aE P w K mg base a.aU 5 "put" ["self", "page", "leaf"] (CG a) []) :
  aE P w K mg base a.aD 6 "put" ["self", "page", "leaf"] (nR a) dvs:=by
 refine R.ok va (fun vs H Q E h=>?_) (fun f cdv A outer s H vs Q E hr h=>?_)
 ·obtain⟨p,x,ns,low,task,n,nd,fp,cn,rfl,_⟩:=h
  rfl
 obtain⟨p,x,ns,low,task,n,nd,fp,cn,rfl,S,lc,hx,k1,k2⟩:=h
 refine⟨_,(@aq _ _ _ (bu (cq (bg (pv 0) rfl) T.bN mD (hr.mono (by decide)) ao (@ae _ _ _ _ _ (pv 1) (@ae _ _ _ _ _ (pv 2) af rfl) rfl)))),?_⟩
 have t1:=T.aN;have t2:=T.bW;have t3:=T.bN
 obtain⟨dx,sh,tr,dt,sh2,top,dxs,ts,h1,h2,h3,h4,h4',h5,h6,h7,h8,h9,h10⟩:=S
 walk_at "go"
 refine⟨fun hn nd' fp' H' S' pt fr sub=>?_,k2⟩
 have e2:=L2.Fr.out fr h2 h8
 have e1:=L2.Fr.out fr h1 h6
 have e3:=L2.Fr.out fr h4 h9
 have e4:=L2.Fr.out fr h4' h10
 exact k1 hn nd' fp' H' ⟨dx,sh,tr,dt,sh2,top,dxs,ts,e1.1,e2.1,S',e3.1,e4.1,h5,e1.2,h7,e2.2,e3.2,e4.2⟩ pt fr sub
theorem nS {dvs:List V} (R:kA K a.aD "Space.__init__" fN ["self", "shape", "task"] dvs) (T:Txt w K mg a)
  (gI:eB P w K mg base a.aU 1 ["self", "shape"] (zq a) []) :
  eB P w K mg base a.aD 3 ["self", "shape", "task"] (rS a) dvs:=by
 refine R.ok nr (fun vs H Q E h=>?_) (fun f cdv A outer s H vs Q E hr h=>?_)
 ·obtain⟨p,sh,dx,ns,low,task,rfl,_⟩:=h
  rfl
 obtain⟨p,sh,dx,ns,low,task,rfl,hp,S,g,k⟩:=h
 refine⟨_,(@ah _ _ _ _ _ (gp (pv 0) (pv 1) rfl)
   (@ah _ _ _ _ _ (gp (pv 0) (pv 2) rfl)
   (@aq _ _ _ (gp (pv 0) (j8 gI (hr.mono (by decide)) (by rfl) T.Fu ao (@ae _ _ _ _ _ (pv 1) af rfl)) rfl)))),?_⟩
 have t1:=T.aN;have t2:=T.bW;have t3:=T.b_;have t4:=T.fB;have t5:=T.bN
 walk_at "go"
 rw[jH,j9 (by decide +kernel),jH]
 generalize hh:upd _ p (.ins a.aD dx [("shape",.ref sh),("task",.int task)])=H1
 have hp1:H1 p=some (.ins a.aD dx [("shape",.ref sh),("task",.int task)]):=by rw[<-hh];exact aj
 have kp1:∀b,b≠p->H1 b=H b:=fun b nb=>by rw[<-hh,av nb,av nb]
 clear hh
 obtain⟨dxs,ts,hs,hw⟩:=id S
 have nps:sh≠p:=fun z=>by
  rw[<-z,hs] at hp
  injection hp with hp
  injection hp with _ _ hf
  have:=iB ts low
  rw[hf] at this
  cases this
 have npt:ts≠p:=(tI hp hw (by intro z;cases z)).symm
 have S1:iC a.az H1 sh ns low:=⟨dxs,ts,by rw[kp1 _ nps];exact hs,by rw[kp1 _ npt];exact hw⟩
 refine fun y dy hy hdy nyd=>⟨y,sh,dy,ns,low,rfl,aj,?_,g,fun top H' ht TR keep=>⟨rfl,?_⟩⟩
 ·exact S1.same fun b u e=>by rw[av (ay e hy),av (ay e hdy)];exact e
 ·have npy:p≠y:=ay hp1 hy
  have kp2:∀b u,H1 b=some u->H' b=some u:=fun b u e=>keep b u (by rw[av (ay e hy),av (ay e hdy)];exact e) (ay e hy)
  have hp2:=kp2 _ _ hp1
  have z2:([("shape",.ref sh),("task",.int task)]:List (Str×V)).length < 1000:=by show 2 < 1000;decide
  walk_at "go"
  rw[j9 (by decide +kernel),j9 (by decide +kernel),jH]
  obtain⟨dt,sh2,top2,q1,_,_⟩:=id TR.ob
  have ty:top≠y:=fun z=>by rw[z,aj] at ht;cases ht
  have t1n:H1 top=none:=by
   cases e:H1 top with
   | none=>rfl
   | some u =>
    have nd':top≠dy:=ay e hdy
    rw[av ty,av nd',e] at ht;cases ht
  have tp:top≠p:=fun z=>by rw[z,hp1] at t1n;cases t1n
  have nin:∀b u,H1 b=some u->b∉[top]:=fun b u e z=>by rw[List.mem_singleton.mp z,t1n] at e;cases e
  have hs1:H1 sh=some (.ins a.az dxs (vv ts low)):=by rw[kp1 _ nps];exact hs
  have hw1:H1 ts=some (.tup (ns.map V.int)):=by rw[kp1 _ npt];exact hw
  refine k top _ (by rw[<-kp1 _ tp];exact t1n) ⟨dx,sh,y,dt,sh2,top2,dxs,ts,aj,by rw[av (Ne.symm npy)];exact q1,?_,by rw[av nps];exact kp2 _ _ hs1,by rw[av npt];exact kp2 _ _ hw1,g,nin _ _ hp1,npy,fun z=>ty (List.mem_singleton.mp z).symm,nin _ _ hs1,nin _ _ hw1⟩ fun b u e nb=>by rw[av nb];exact kp2 _ _ (by rw[kp1 _ nb];exact e)
  obtain⟨⟨dt',sh',top',r1,⟨dz,tz,r2,r3⟩,r4⟩,g',fu,ib⟩:=TR
  have nz:sh'≠p:=fun z=>by
   rw[z,hp2] at r2
   injection r2 with r2
   injection r2 with _ _ hf
   have:=iB tz low
   rw[<-hf] at this
   have b1:(("low" : Str) == "shape")=false:=by decide +kernel
   have b2:(("low" : Str) == "task")=false:=by decide +kernel
   simp only [List.lookup,b1,b2] at this
   cases this
  have nt:tz≠p:=(tI hp2 r3 (by intro z;cases z)).symm
  exact⟨⟨dt',sh',top',by rw[av (Ne.symm npy)];exact r1,⟨dz,tz,by rw[av nz];exact r2,by rw[av nt];exact r3⟩,r4.keep fun b u e hb=>by rw[List.mem_singleton.mp hb] at e ⊢;rw[av tp];exact e⟩,g',fu,ib⟩
end
end K19

set_option maxHeartbeats 4000000
namespace K19
open PySem L2
theorem dY {H H2:Hp}{e d:Addr}{o:HO}(he:H e=none)(hd:upd H e o d=none)(k:∀b,b≠e->b≠d->H2 b=upd H e o b): Same H (del H2 e):=fun b u q=>by
 have n1:b≠e:=ay q he
 have n2:b≠d:=fun z=>by rw[<-z,av n1,q] at hd;cases hd
 rw[dL n1,k b n1 n2,av n1];exact q
theorem eE {H H':Hp}{q:Addr}(s:Same H H')(h:H' q=none): H q=none:=by
 cases e:H q with
 | none=>rfl
 | some u=>rw[s _ _ e] at h;cases h
def rT (r:Int)(dd:Str): Bool:=if dd = "read" then decide (r%2=1) else decide (2<=r)
theorem pF {r:Int}{b:Bool}(h:decide (r%2=1)=b): rT r "read" = b:=by unfold rT;rw[if_pos rfl];exact h
theorem pG {r:Int}{b:Bool}(h:decide (2<=r)=b): rT r "write" = b:=by unfold rT;rw[if_neg (by decide +kernel)];exact h
def CK (a:Adr): Sp:=fun vs H Q E=>∃(p:Addr) (ns:List Int) (low task n:Int) (dd:Str) (nd:Ix->Option Addr) (fp:List Addr) (cn:Nat),vs=[.ref p,.int n,.str dd]/\bZ a H p ns low task nd fp cn/\(dd = "read" ∨ dd = "write") ∧
 (∀x,nd (parts ns (n / plc low))=some x->∃g:Lf,dn a H x g/\OkR g.rights) ∧
 (¬(0<=n/\n < pgs ns*plc low)->E (.ref a.aT) none H) ∧
 (0<=n/\n < pgs ns*plc low->nd (parts ns (n / plc low))=none->∀d H',H' d=some (xdW d (o4 (.int task) (.int n) (.str dd)))->Same H H'->E (.ref a.aA) (some d) H') ∧
 (0<=n/\n < pgs ns*plc low->∀x g,nd (parts ns (n / plc low))=some x->dn a H x g->(rT g.rights dd=false->∀d H',H' d=some (xdW d (o4 (.int task) (.int n) (.str dd)))->Same H H'->E (.ref a.aK) (some d) H') ∧
  (rT g.rights dd=true->∀t H',H' t=some (.tup [.int (n / plc low),.int (n%plc low),.ref x])->Same H H'->H t=none->Q (.ref t) H'))
section
variable {P:Program}{w:World}{K:W.Frag}{mg:Str->Option Value}{base:Heap}{a:Adr}
theorem sZ {dvs:List V} (R:bB K a.aD "seek" "Space.seek" jN ["self", "address", "deed"] dvs) (T:Txt w K mg a)
  (gJ:aE P w K mg base a.az 3 "page_of" ["self", "address"] (xj a) [])
  (bf:aE P w K mg base a.aD 6 "leaf" ["self", "page"] (iE a) [])
  (bY:uo P w K mg base a.aA 1 ["self", "task", "address", "deed"] (nP K) [])
  (pH:aE P w K mg base a.bp 2 "may" ["self", "deed"] (xq K) [])
  (rV:aE P w K mg base a.bC 2 "may" ["self", "deed"] (xq K) [])
  (uy:aE P w K mg base a.b9 2 "may" ["self", "deed"] (xq K) [])
  (pI:aE P w K mg base a.aZ 2 "may" ["self", "deed"] (xq K) [])
  (fD:uo P w K mg base a.aK 1 ["self", "task", "address", "deed"] (nP K) [])
  (fQ:aE P w K mg base a.az 3 "place_of" ["self", "address"] (uq a) []) :
  aE P w K mg base a.aD 7 "seek" ["self", "address", "deed"] (CK a) dvs:=by
 refine R.ok i9 (fun vs H Q E h=>?_) (fun f cdv A outer s H vs Q E hr h=>?_)
 ·obtain⟨p,ns,low,task,n,dd,nd,fp,cn,rfl,_⟩:=h
  rfl
 obtain⟨p,ns,low,task,n,dd,nd,fp,cn,rfl,S,hdd,lv,k0,k1,k2⟩:=h
 refine⟨_,(@ah _ _ _ _ _ (@aI _ _ 3 _ _ _ _ i9.nd rfl (by first | exact Or.inl rfl | exact Or.inr rfl) (cq (bg (pv 0) rfl) T.aP gJ (hr.mono (by decide)) ao (@ae _ _ _ _ _ (pv 1) af rfl)) (by rfl) (by first | exact Or.inl rfl | exact Or.inr rfl))
   (@ah _ _ _ _ _ (@aI _ _ 4 _ _ _ _ i9.nd rfl (by first | exact Or.inl rfl | exact Or.inr rfl) (cq (pv 0) T.aN bf (hr.mono (by decide)) ao (@ae _ _ _ _ _ (pv 3) af rfl)) (by rfl) (by first | exact Or.inl rfl | exact Or.inr rfl))
   (@ah _ _ _ _ _ (bD (aW xT (pv 4) eX (bo _)) (@aq _ _ _ (lD bY (hr.mono (by decide)) rfl (by rfl) T.jS ao (@ae _ _ _ _ _ (bg (pv 0) rfl) (@ae _ _ _ _ _ (pv 1) (@ae _ _ _ _ _ (pv 2) af rfl) rfl) rfl))) aQ)
   (@ah _ _ _ _ _ (bD (cA (dI (BX (k:=2) (m := "may") (dvs:=[]) (pv 4) (hr.mono (by decide)) ao (@ae _ _ _ _ _ (pv 2) af rfl) (by rfl) (by rfl) (by rfl)))) (@aq _ _ _ (lD fD (hr.mono (by decide)) rfl (by rfl) T.Cv ao (@ae _ _ _ _ _ (bg (pv 0) rfl) (@ae _ _ _ _ _ (pv 1) (@ae _ _ _ _ _ (pv 2) af rfl) rfl) rfl))) aQ)
   (@aq _ _ _ (@aG _ _ _ _ (@c8 _ _ _ _ _ (@ae _ _ _ _ _ (pv 3) (@ae _ _ _ _ _ (cq (bg (pv 0) rfl) T.aP fQ (hr.mono (by decide)) ao (@ae _ _ _ _ _ (pv 1) af rfl)) (@ae _ _ _ _ _ (pv 4) af rfl) rfl) rfl)))))))),?_⟩
 have t1:=T.aN;have t2:=T.bW;have t3:=T.b_;have t4:=T.fB;have t5:=T.aP
 have SA:=S
 obtain⟨dx,sh,tr,dt,sh2,top,dxs,ts,h1,h2,h3,h4,h4',h5,h6,h7,h8,h9,h10⟩:=S
 have SH:iC a.az H sh ns low:=⟨dxs,ts,h4,h4'⟩
 have pp:0 < plc low:=by unfold plc;exact two_pos _
 walk_at "go"
 refine⟨fun hin=>?_,k0⟩
 have pin:0<=n / plc low/\n / plc low < pgs ns:=⟨Int.ediv_nonneg hin.1 (Int.le_of_lt pp),Int.ediv_lt_of_lt_mul pp hin.2⟩
 walk_at "go"
 refine⟨fun _ H1 s1=>?_,fun z=>absurd pin z⟩
 have SA1:=SA.same s1
 have h1':=s1 _ _ h1
 cases hx:nd (parts ns (n / plc low)) with
 | none =>
  have zr:[V.int task,V.int n,V.str dd].length<=sizeLine:=by rw[sizeLine_eq];show 3<=_;decide
  have xo:=XO.of T.cu;have x1:=T.jx;have x2:=T.gN;have x3:=T.jw
  have nv:ndV none=.non:=rfl
  walk_at "go"
  refine fun e he=>⟨e,a.aA,.int task,.int n,.str dd,rfl,aj,xo,x1,x2,x3,fun d H2 hd ne q1 q2 q3=>⟨rfl,some d,q1,?_⟩⟩
  exact k1 hin hx d (del H2 e) (by rw[dL ne];exact q2) (s1.trans (dY he hd q3))
 | some x =>
  obtain⟨g,lf,ok⟩:=lv x hx
  have k2':=k2 hin x g hx lf
  clear k0 k1 k2
  have zr:[V.int task,V.int n,V.str dd].length<=sizeLine:=by rw[sizeLine_eq];show 3<=_;decide
  have xo:=XO.of T.dH;have x1:=T.rB;have x2:=T.nw;have x3:=T.rA
  have SH1:iC a.az H1 sh ns low:=SH.same s1
  have h4b:=s1 _ _ h4
  cases g with
  | fresh r =>
   obtain⟨dy,ey⟩:=lf.same s1
   have c1:=T.dD;have c2:=T.dh
   have lk1:(Lf.fresh r).fs.lookup ("may" : Str)=none:=by walk_at "lk"
   have lk2:(Lf.fresh r).fs.lookup ("rights" : Str)=some (.int r):=by walk_at "lk"
   have ok:OkR r:=ok
   walk_at "go"
   rcases hdd with rfl | rfl
   ·refine .inl ⟨rfl,?_⟩
    cases hb:decide (r%2=1) with
    | false =>
     walk_at "go"
     refine fun e he=>⟨e,a.aK,.int task,.int n,.str _,rfl,aj,xo,x1,x2,x3,fun d H2 hd ne q1 q2 q3=>⟨rfl,some d,q1,?_⟩⟩
     exact k2'.1 (pF hb) d (del H2 e) (by rw[dL ne];exact q2) (s1.trans (dY he hd q3))
    | true =>
     walk_at "go"
     refine⟨fun _=>?_,fun z=>absurd hin z⟩
     walk_at "go"
     intro tt htt
     generalize hh:upd _ tt _=H2
     obtain⟨s2,e2⟩:=b7 htt hh
     clear hh
     exact k2'.2 (pF hb) tt H2 e2 (s1.trans s2) (eE s1 htt)
   ·refine .inr ⟨rfl,?_⟩
    cases hb:decide (2<=r) with
    | false =>
     walk_at "go"
     refine fun e he=>⟨e,a.aK,.int task,.int n,.str _,rfl,aj,xo,x1,x2,x3,fun d H2 hd ne q1 q2 q3=>⟨rfl,some d,q1,?_⟩⟩
     exact k2'.1 (pG hb) d (del H2 e) (by rw[dL ne];exact q2) (s1.trans (dY he hd q3))
    | true =>
     walk_at "go"
     refine⟨fun _=>?_,fun z=>absurd hin z⟩
     walk_at "go"
     intro tt htt
     generalize hh:upd _ tt _=H2
     obtain⟨s2,e2⟩:=b7 htt hh
     clear hh
     exact k2'.2 (pG hb) tt H2 e2 (s1.trans s2) (eE s1 htt)
  | held r f0 =>
   obtain⟨dy,ey⟩:=lf.same s1
   have c1:=T.eG;have c2:=T.dG
   have lk1:(Lf.held r f0).fs.lookup ("may" : Str)=none:=by walk_at "lk"
   have lk2:(Lf.held r f0).fs.lookup ("rights" : Str)=some (.int r):=by walk_at "lk"
   have ok:OkR r:=ok
   walk_at "go"
   rcases hdd with rfl | rfl
   ·refine .inl ⟨rfl,?_⟩
    cases hb:decide (r%2=1) with
    | false =>
     walk_at "go"
     refine fun e he=>⟨e,a.aK,.int task,.int n,.str _,rfl,aj,xo,x1,x2,x3,fun d H2 hd ne q1 q2 q3=>⟨rfl,some d,q1,?_⟩⟩
     exact k2'.1 (pF hb) d (del H2 e) (by rw[dL ne];exact q2) (s1.trans (dY he hd q3))
    | true =>
     walk_at "go"
     refine⟨fun _=>?_,fun z=>absurd hin z⟩
     walk_at "go"
     intro tt htt
     generalize hh:upd _ tt _=H2
     obtain⟨s2,e2⟩:=b7 htt hh
     clear hh
     exact k2'.2 (pF hb) tt H2 e2 (s1.trans s2) (eE s1 htt)
   ·refine .inr ⟨rfl,?_⟩
    cases hb:decide (2<=r) with
    | false =>
     walk_at "go"
     refine fun e he=>⟨e,a.aK,.int task,.int n,.str _,rfl,aj,xo,x1,x2,x3,fun d H2 hd ne q1 q2 q3=>⟨rfl,some d,q1,?_⟩⟩
     exact k2'.1 (pG hb) d (del H2 e) (by rw[dL ne];exact q2) (s1.trans (dY he hd q3))
    | true =>
     walk_at "go"
     refine⟨fun _=>?_,fun z=>absurd hin z⟩
     walk_at "go"
     intro tt htt
     generalize hh:upd _ tt _=H2
     obtain⟨s2,e2⟩:=b7 htt hh
     clear hh
     exact k2'.2 (pG hb) tt H2 e2 (s1.trans s2) (eE s1 htt)
  | out r s0 =>
   obtain⟨dy,ey⟩:=lf.same s1
   have c1:=T.gH;have c2:=T.d7
   have lk1:(Lf.out r s0).fs.lookup ("may" : Str)=none:=by walk_at "lk"
   have lk2:(Lf.out r s0).fs.lookup ("rights" : Str)=some (.int r):=by walk_at "lk"
   have ok:OkR r:=ok
   walk_at "go"
   rcases hdd with rfl | rfl
   ·refine .inl ⟨rfl,?_⟩
    cases hb:decide (r%2=1) with
    | false =>
     walk_at "go"
     refine fun e he=>⟨e,a.aK,.int task,.int n,.str _,rfl,aj,xo,x1,x2,x3,fun d H2 hd ne q1 q2 q3=>⟨rfl,some d,q1,?_⟩⟩
     exact k2'.1 (pF hb) d (del H2 e) (by rw[dL ne];exact q2) (s1.trans (dY he hd q3))
    | true =>
     walk_at "go"
     refine⟨fun _=>?_,fun z=>absurd hin z⟩
     walk_at "go"
     intro tt htt
     generalize hh:upd _ tt _=H2
     obtain⟨s2,e2⟩:=b7 htt hh
     clear hh
     exact k2'.2 (pF hb) tt H2 e2 (s1.trans s2) (eE s1 htt)
   ·refine .inr ⟨rfl,?_⟩
    cases hb:decide (2<=r) with
    | false =>
     walk_at "go"
     refine fun e he=>⟨e,a.aK,.int task,.int n,.str _,rfl,aj,xo,x1,x2,x3,fun d H2 hd ne q1 q2 q3=>⟨rfl,some d,q1,?_⟩⟩
     exact k2'.1 (pG hb) d (del H2 e) (by rw[dL ne];exact q2) (s1.trans (dY he hd q3))
    | true =>
     walk_at "go"
     refine⟨fun _=>?_,fun z=>absurd hin z⟩
     walk_at "go"
     intro tt htt
     generalize hh:upd _ tt _=H2
     obtain⟨s2,e2⟩:=b7 htt hh
     clear hh
     exact k2'.2 (pG hb) tt H2 e2 (s1.trans s2) (eE s1 htt)
  | named r n0 p0 =>
   obtain⟨dy,ey⟩:=lf.same s1
   have c1:=T.dE;have c2:=T.di
   have lk1:(Lf.named r n0 p0).fs.lookup ("may" : Str)=none:=by walk_at "lk"
   have lk2:(Lf.named r n0 p0).fs.lookup ("rights" : Str)=some (.int r):=by walk_at "lk"
   have ok:OkR r:=ok
   walk_at "go"
   rcases hdd with rfl | rfl
   ·refine .inl ⟨rfl,?_⟩
    cases hb:decide (r%2=1) with
    | false =>
     walk_at "go"
     refine fun e he=>⟨e,a.aK,.int task,.int n,.str _,rfl,aj,xo,x1,x2,x3,fun d H2 hd ne q1 q2 q3=>⟨rfl,some d,q1,?_⟩⟩
     exact k2'.1 (pF hb) d (del H2 e) (by rw[dL ne];exact q2) (s1.trans (dY he hd q3))
    | true =>
     walk_at "go"
     refine⟨fun _=>?_,fun z=>absurd hin z⟩
     walk_at "go"
     intro tt htt
     generalize hh:upd _ tt _=H2
     obtain⟨s2,e2⟩:=b7 htt hh
     clear hh
     exact k2'.2 (pF hb) tt H2 e2 (s1.trans s2) (eE s1 htt)
   ·refine .inr ⟨rfl,?_⟩
    cases hb:decide (2<=r) with
    | false =>
     walk_at "go"
     refine fun e he=>⟨e,a.aK,.int task,.int n,.str _,rfl,aj,xo,x1,x2,x3,fun d H2 hd ne q1 q2 q3=>⟨rfl,some d,q1,?_⟩⟩
     exact k2'.1 (pG hb) d (del H2 e) (by rw[dL ne];exact q2) (s1.trans (dY he hd q3))
    | true =>
     walk_at "go"
     refine⟨fun _=>?_,fun z=>absurd hin z⟩
     walk_at "go"
     intro tt htt
     generalize hh:upd _ tt _=H2
     obtain⟨s2,e2⟩:=b7 htt hh
     clear hh
     exact k2'.2 (pG hb) tt H2 e2 (s1.trans s2) (eE s1 htt)
end
end K19

set_option maxHeartbeats 4000000
namespace K19
open PySem L2
def bF (H H':Hp): Prop:=∀b u,H b=some u->(∀kv:List (Key×V),u≠.dK kv)->H' b=some u
theorem bF.refl (H:Hp): bF H H:=fun _ _ e _=>e
theorem bF.same {H H':Hp}(s:Same H H'): bF H H':=fun b u e _=>s b u e
theorem bF.trans {H H' H'':Hp}(k:bF H H')(k':bF H' H''): bF H H'':=fun b u e h=>k' b u (k b u e h) h
theorem bF.lst {H H':Hp}(k:bF H H'){b:Addr}{xs:List V}(e:H b=some (.lst xs)): H' b=some (.lst xs):=k b _ e fun _ w=>by cases w
theorem bF.tup {H H':Hp}(k:bF H H'){b:Addr}{xs:List V}(e:H b=some (.tup xs)): H' b=some (.tup xs):=k b _ e fun _ w=>by cases w
theorem bF.ins {H H':Hp}(k:bF H H'){b C dx:Addr}{fs:List (Str×V)}(e:H b=some (.ins C dx fs)): H' b=some (.ins C dx fs):=k b _ e fun _ w=>by cases w
theorem bF.lf {a:Adr}{H H':Hp}(k:bF H H'){x:Addr}{g:Lf}(e:dn a H x g): dn a H' x g:=let ⟨dx,h⟩:=e;⟨dx,k.ins h⟩
theorem jd.eV {a:Adr}{H H':Hp}{p:Addr}{ns:List Int}{low:Int}{nd:Ix->Option Addr}{fp fp':List Addr}{cn:Nat}(S:jd a H p ns low nd fp cn)(r:Fr fp fp' H H'): bF H H':=fun b u e h=>by
 obtain⟨⟨dx,sh,top,h1,h2,h3⟩,g,fu,ib⟩:=S
 exact r.1 b u e fun w=>by obtain⟨kv,e'⟩:=h3.lv b w;rw[e'] at e;cases e;exact h _ rfl
theorem Good.nn {ns:List Int}{low:Int}(g:Good ns low): ∀x∈ns,0<=x:=fun x hx=>by have:=(g.all x hx).1;omega
theorem iF (ns:List Int): span ns=pgs ns:=rfl
theorem Good.apart {ns:List Int}{low:Int}(g:Good ns low){m n:Int}(m0:0<=m)(m1:m < pgs ns)(n0:0<=n)(n1:n < pgs ns)(h:m≠n): parts ns m≠parts ns n:=fun z=>h ((uf g.nn m0 (by rw[iF];exact m1) n0 (by rw[iF];exact n1)).mp z)
theorem Put.page {ns:List Int}{low:Int}{nd nd':Ix->Option Addr}{x:Addr}{n m:Int}(g:Good ns low)(P:Put nd (parts ns n) x nd')(n0:0<=n)(n1:n < pgs ns)(m0:0<=m)(m1:m < pgs ns): nd' (parts ns m)=if m=n then some x else nd (parts ns m):=by
 by_cases c:m=n
 ·rw[if_pos c,c];exact P.at'
 ·rw[if_neg c]
  refine P.oth _ fun j z=>g.apart m0 m1 n0 n1 c ?_
  have l:=congrArg List.length z
  rw[List.length_take,dj,dj] at l
  rw[z,List.take_of_length_le (by rw[dj];omega)]
theorem bZ.eV {a:Adr}{H H':Hp}{p:Addr}{ns:List Int}{low task:Int}{nd:Ix->Option Addr}{fp fp':List Addr}{cn:Nat}(S:bZ a H p ns low task nd fp cn)(r:L2.Fr fp fp' H H'): bF H H':=by
 obtain⟨dx,sh,tr,dt,sh2,top,dxs,ts,h1,h2,h3,_⟩:=S
 exact h3.eV r
theorem bZ.good {a:Adr}{H:Hp}{p:Addr}{ns:List Int}{low task:Int}{nd:Ix->Option Addr}{fp:List Addr}{cn:Nat}(S:bZ a H p ns low task nd fp cn): Good ns low:=by
 obtain⟨dx,sh,tr,dt,sh2,top,dxs,ts,h1,h2,h3,h4,h4',h5,_⟩:=S
 exact h5
def eF (M:Int->Option Addr)(n:Int)(xs:List Addr): Int->Option Addr:=fun m=>if n<=m/\m < n+xs.length then xs[(m-n).toNat]? else M m
theorem uz (M:Int->Option Addr)(n m:Int): eF M n [] m=M m:=by
 unfold eF
 rw[if_neg]
 rintro⟨h1,h2⟩
 simp at h2
 omega
theorem rW {M:Int->Option Addr}{n:Int}{xs:List Addr}{i:Nat}{x:Addr}(h:xs[i]?=some x)(m:Int): eF M n (xs.take (i+1)) m=if m=n+i then some x else eF M n (xs.take i) m:=by
 have il:=(List.getElem?_eq_some_iff.mp h).1
 have l1:(xs.take (i+1)).length=i+1:=by rw[List.length_take];omega
 have l2:(xs.take i).length=i:=by rw[List.length_take];omega
 unfold eF
 rw[l1,l2]
 by_cases c:m=n+i
 ·rw[if_pos c,if_pos (by omega)]
  have e:(m-n).toNat=i:=by omega
  rw[e,List.getElem?_take_of_lt (by omega),h]
 ·rw[if_neg c]
  by_cases c2:n<=m/\m < n+i
  ·rw[if_pos c2,if_pos (by omega),List.getElem?_take_of_lt (by omega),List.getElem?_take_of_lt (by omega)]
  ·rw[if_neg c2,if_neg (by omega)]
theorem nU {n m:Int}{k i:Nat}(h:(kB n k)[i]?=some m): m=n+i/\i < k:=by
 unfold kB at h
 rw[List.getElem?_map] at h
 by_cases c:i < k
 ·rw[List.getElem?_range c] at h
  cases h
  exact⟨rfl,c⟩
 ·rw[List.getElem?_eq_none (by rw[List.length_range];omega)] at h
  cases h
theorem iG (n:Int)(k:Nat): (kB n k).length=k:=by unfold kB;rw[List.length_map,List.length_range]
def zC (a:Adr): Sp:=fun vs H Q E=>∃(p l:Addr) (ns:List Int) (low task n:Int) (nd:Ix->Option Addr) (fp:List Addr) (cn:Nat) (xs:List Addr),vs=[.ref p,.int n,.ref l]/\bZ a H p ns low task nd fp cn/\cn+xs.length < 100000/\H l=some (.lst (xs.map V.ref))/\(∀x∈xs,∃g,dn a H x g) ∧
 (¬nH ns n xs.length->E (.ref a.bL) none H) ∧
 (nH ns n xs.length->∀(j:Nat) x,j < xs.length->(∀i:Nat,i < j->nd (parts ns (n+i))=none)->nd (parts ns (n+j))=some x->∀d H',H' d=some (xdW d [("page",.int (n+j))])->Same H H'->E (.ref a.bj) (some d) H') ∧
 (nH ns n xs.length->(∀i:Nat,i < xs.length->nd (parts ns (n+i))=none)->∀nd' fp' H',bZ a H' p ns low task nd' fp' (cn+xs.length)->(∀m,0<=m->m < pgs ns->nd' (parts ns m)=eF (fun m=>nd (parts ns m)) n xs m)->L2.Fr fp fp' H H'->(∀b∈fp,b∈fp')->Q .non H')
section
variable {P:Program}{w:World}{K:W.Frag}{mg:Str->Option Value}{base:Heap}{a:Adr}
theorem vK {dvs:List V} (R:bB K a.aD "lay" "Space.lay" kK ["self", "first", "leaves"] dvs) (T:Txt w K mg a)
  (bO:aE P w K mg base a.az 2 "stretch" ["self", "first", "many"] (lF a) [])
  (bf:aE P w K mg base a.aD 6 "leaf" ["self", "page"] (iE a) [])
  (fR:uo P w K mg base a.bj 1 ["self", "page"] (xt K) [])
  (b4:aE P w K mg base a.aD 6 "put" ["self", "page", "leaf"] (nR a) []) :
  aE P w K mg base a.aD 7 "lay" ["self", "first", "leaves"] (zC a) dvs:=by
 refine R.ok fj (fun vs H Q E h=>?_) (fun f cdv A outer s H vs Q E hr h=>?_)
 ·obtain⟨p,l,ns,low,task,n,nd,fp,cn,xs,rfl,_⟩:=h
  rfl
 obtain⟨p,l,ns,low,task,n,nd,fp,cn,xs,rfl,S,lc,hl,lx,k0,k1,k2⟩:=h
 refine⟨_,(@ah _ _ _ _ _ (@aI _ _ 3 _ _ _ _ fj.nd rfl (by first | exact Or.inl rfl | exact Or.inr rfl) (cq (bg (pv 0) rfl) T.aP bO (hr.mono (by decide)) ao (@ae _ _ _ _ _ (pv 1) (@ae _ _ _ _ _ (aH aJ (by rfl) T.cT PySem.boot_len (@ae _ _ _ _ _ (pv 2) af rfl)) af rfl) rfl)) (by rfl) (by first | exact Or.inl rfl | exact Or.inr rfl))
   (@ah _ _ _ _ _ (cM bU rfl (eY (pv 3)) (bn (i:=4) fj.nd rfl (by first | exact Or.inl rfl | exact Or.inr rfl))
   (@aq _ _ _ (bD (aW qm (cq (pv 0) T.aN bf (hr.mono (by decide)) ao (@ae _ _ _ _ _ (pv 4) af rfl)) eX (bo _)) (@aq _ _ _ (lD fR (hr.mono (by decide)) rfl (by rfl) T.zc ao (@ae _ _ _ _ _ (pv 4) af rfl))) aQ)))
   (@aq _ _ _ (cM bU rfl (Fn false false (by rfl) T.CB (pv 3) (pv 2)) (qz (n:=2) rfl (eA (bn (i:=4) fj.nd rfl (by first | exact Or.inl rfl | exact Or.inr rfl)) (eA (bn (i:=5) fj.nd rfl (by first | exact Or.inl rfl | exact Or.inr rfl)) mM)))
   (@aq _ _ _ (bu (cq (pv 0) T.aN b4 (hr.mono (by decide)) ao (@ae _ _ _ _ _ (pv 4) (@ae _ _ _ _ _ (pv 5) af rfl) rfl)))))))),?_⟩
 have t1:=T.aN;have t2:=T.bW;have t3:=T.b_
 have SA:=S
 obtain⟨dx,sh,tr,dt,sh2,top,dxs,ts,h1,h2,h3,h4,h4',h5,h6,h7,h8,h9,h10⟩:=S
 have SH:iC a.az H sh ns low:=⟨dxs,ts,h4,h4'⟩
 have t5:=T.aP
 have xl:(xs.map V.ref).length=xs.length:=List.length_map ..
 walk_at "go"
 rw[xl]
 refine⟨fun st q H1 s1 e1 hq=>?_,k0⟩
 rw[Int.toNat_natCast] at e1
 have zr:[V.int n].length<=sizeLine:=by rw[sizeLine_eq];show 1<=_;decide
 have st2:=st.2
 walk_at "go"
 refine g7 (xs:=(kB n xs.length).map V.int) (fun i σ H'=>Bx ((∃v4 v5,σ=[some (.ref p),some (.int n),some (.ref l),some (.ref q),v4,v5])/\(∀j:Nat,j < i->nd (parts ns (n+j))=none)/\(∀b u,H1 b=some u->H' b=some u))) ⟨⟨⟨_,_,rfl⟩,fun j z=>absurd z (Nat.not_lt_zero _),fun _ _ e=>e⟩⟩ (fun i σ H' _ z=>SqL.of (z.o.2.2 _ _ e1)) ?_ ?_
 ·rintro i x σ H2 hx ⟨⟨v4,v5,rfl⟩,fr,s2⟩
  obtain⟨m,rfl,hm⟩:=cW hx
  obtain⟨rfl,il⟩:=nU hm
  have s02:Same H H2:=s1.trans s2
  have SA2:=SA.same s02
  have h12:=s02 _ _ h1
  have pin:0<=n+(i:Int)/\n+(i:Int) < pgs ns:=by omega
  walk_at "go"
  refine⟨fun _ H3 s3=>?_,fun z=>absurd pin z⟩
  cases hx:nd (parts ns (n+i)) with
  | none =>
   have nv:ndV none=.non:=rfl
   walk_at "go"
   refine⟨⟨⟨_,_,rfl⟩,fun j hj=>?_,fun b u e=>s3 _ _ (s2 _ _ e)⟩⟩
   by_cases c:j=i
   ·rw[c];exact hx
   ·exact fr j (by omega)
  | some x =>
   have xo:=XO.of T.jA;have x1:=T.sU
   have zr:[V.int (n+(i:Int))].length<=sizeLine:=by rw[sizeLine_eq];show 1<=_;decide
   have nv:ndV (some x)=.ref x:=rfl
   walk_at "go"
   refine fun e he=>⟨e,a.bj,.int (n+(i:Int)),rfl,aj,xo,x1,fun d H4 hd ne q1 q2 q3=>⟨rfl,some d,q1,?_⟩⟩
   exact k1 st i x il fr hx d (del H4 e) (by rw[dL ne];exact q2) ((s02.trans s3).trans (dY he hd q3))
 ·rintro σ H2 ⟨⟨v4,v5,rfl⟩,fr,s2⟩
  rw[List.length_map,iG] at fr
  have s02:Same H H2:=s1.trans s2
  have e12:H2 q=_:=s2 _ _ e1
  have hl2:=s02 _ _ hl
  walk_at "go"
  refine⟨SqL.of e12,SqL.of hl2,?_⟩
  refine DP (xs:=(kB n xs.length).map V.int) (ys:=xs.map V.ref) xs.length (by rw[List.length_map,iG]) xl (fun i σ H'=>Bx (∃v4 v5 nd' fp',σ=[some (.ref p),some (.int n),some (.ref l),some (.ref q),v4,v5]/\bZ a H' p ns low task nd' fp' (cn+i)/\(∀m,0<=m->m < pgs ns->nd' (parts ns m)=eF (fun m=>nd (parts ns m)) n (xs.take i) m)/\L2.Fr fp fp' H H'/\(∀b∈fp,b∈fp')/\bF H2 H')) ⟨⟨_,_,nd,fp,rfl,SA.same s02,fun m _ _=>(uz (fun m=>nd (parts ns m)) n m).symm,L2.Fr.same s02,fun b hb=>hb,bF.refl _⟩⟩ (fun i σ H' _ z=>?_) ?_ ?_
  ·obtain⟨v4,v5,nd',fp',_,_,_,_,_,kn⟩:=z.o
   exact⟨SqL.of (kn.lst e12),SqL.of (kn.lst hl2)⟩
  ·rintro i x y σ H3 tu hx hy ⟨v4,v5,nd',fp',rfl,SA3,pv,fr3,sub,kn⟩ htu
   obtain⟨m,rfl,hm⟩:=cW hx
   obtain⟨rfl,il⟩:=nU hm
   rw[List.getElem?_map,Option.map_eq_some_iff] at hy
   obtain⟨x,hy,rfl⟩:=hy
   have pin:0<=n+(i:Int)/\n+(i:Int) < pgs ns:=by omega
   have s4:=aB (u:=.tup [.int (n+(i:Int)),.ref x]) htu
   have e4:upd H3 tu (.tup [.int (n+(i:Int)),.ref x]) tu=some (.tup [.int (n+(i:Int)),.ref x]):=aj
   generalize upd H3 tu (.tup [.int (n+(i:Int)),.ref x])=H4 at s4 e4
   have SA4:=SA3.same s4
   obtain⟨gx,lf⟩:=lx x (List.mem_of_getElem? hy)
   obtain⟨dl,lf4⟩:=(kn.lf (lf.same s02)).same s4
   have h14:=s4 _ _ (kn.ins (s02 _ _ h1))
   have lc2:cn+i < 100000:=by omega
   have lv4:∃u,H4 x=some u:=⟨_,lf4⟩
   walk_at "go"
   refine⟨fun _ xu qS H5 SA5 pt fr5 Hr=>?_,fun z=>absurd pin z⟩
   refine⟨⟨_,_,xu,qS,rfl,SA5,fun m m0 m1=>?_,(fr3.trans (L2.Fr.same s4)).trans fr5,fun b hb=>Hr _ (sub _ hb),(kn.trans (bF.same s4)).trans (SA4.eV fr5)⟩⟩
   rw[pt.page h5 pin.1 pin.2 m0 m1,rW hy,pv m m0 m1]
  ·rintro σ H3 ⟨v4,v5,nd',fp',rfl,SA3,pv,fr3,sub,kn⟩
   rw[List.take_length] at pv
   walk_at "go"
   exact k2 st fr nd' fp' H3 SA3 pv fr3 sub
end
end K19

set_option maxHeartbeats 4000000
namespace K19
open PySem L2
theorem rX {K:W.Frag}{l acc:Addr}{xs:List V}{k:Nat}{te:TE}{σ:St}{H1:Hp}{QH:Hp->Prop}(I:Nat->List V->Hp->Prop)(hn:xs.length < sizeLine)(h0:I 0 [] (upd H1 acc (.lst [])))
  (sm:∀i ys H2,I i ys H2->H2 acc=some (.lst ys)/\SqL K H2 l xs/\ys.length=i)
  (he:∀(i:Nat) (x:V) (ys:List V) (H2:Hp),xs[i]?=some x->I i ys H2->∀R:VK,(∀v H6,H6 acc=some (.lst ys)->I (i+1) (ys++[v]) (upd H6 acc (.lst (ys++[v])))->R v H6)->te (some x::σ) H2 R)
  (q:∀ys H2,I xs.length ys H2->QH H2) (hk:k=1:=by rfl):∃(W:Nat->List V->Hp->Prop) (n':Nat),W 0 [] (upd H1 acc (.lst [])) ∧
 ∀i ys H2,W i ys H2->H2 acc=some (.lst ys)/\ys.length < sizeLine/\((i=n'/\(Itl K l).stop i H2/\QH H2)\/(i < n'/\(Itl K l).go i H2/\∀x H3,(Itl K l).yld i H2 x H3->∀τ:St,τ.length=k->(pc 0) x (τ++σ) H3 fun τ2 H4 =>
  (∃τ':St,τ'.length=k/\τ2=τ'++σ)/\qP τ2 H4 fun b H5=>if b=true then te τ2 H5 fun v H6=>H6 acc=some (.lst ys)/\W (i+1) (ys++[v]) (upd H6 acc (.lst (ys++[v]))) else W (i+1) ys H5)):=by
 subst hk
 refine⟨fun i ys H2=>i<=xs.length/\I i ys H2,xs.length,⟨Nat.zero_le _,h0⟩,?_⟩
 rintro i ys H2 ⟨hi,hI⟩
 obtain⟨m1,m2,m3⟩:=sm i ys H2 hI
 refine⟨m1,by omega,?_⟩
 by_cases hlt:i < xs.length
 ·refine .inr ⟨hlt,⟨xs,xs[i],m2,by simp[hlt]⟩,?_⟩
  rintro x H3 ⟨rfl,hx⟩ τ hτ
  have hx:=hx xs m2
  obtain⟨t,rfl⟩:∃t,τ=[t]:=by
   match τ,hτ with
   | [t],_=>exact⟨t,rfl⟩
  refine⟨⟨[some x],rfl,rfl⟩,?_⟩
  unfold qP
  simp only [if_true]
  exact he i x ys _ hx hI _ fun v H6 e1 e2=>⟨e1,hlt,e2⟩
 ·have e:i=xs.length:=by omega
  subst e
  exact .inl ⟨rfl,⟨xs,m2,Nat.le_refl _⟩,q ys H2 hI⟩
theorem xv {lo:Int}{n k:Nat}{acc:Addr}{te:TE}{σ:St}{H1:Hp}{QH:Hp->Prop}(I:Nat->List V->Hp->Prop)(hn:n < sizeLine)(h0:I 0 [] (upd H1 acc (.lst [])))
  (sm:∀i ys H2,I i ys H2->H2 acc=some (.lst ys)/\ys.length=i)
  (he:∀(i:Nat) (ys:List V) (H2:Hp),i < n->I i ys H2->∀R:VK,(∀v H6,H6 acc=some (.lst ys)->I (i+1) (ys++[v]) (upd H6 acc (.lst (ys++[v])))->R v H6)->te (some (.int (lo+i))::σ) H2 R)
  (q:∀ys H2,I n ys H2->QH H2) (hk:k=1:=by rfl):∃(W:Nat->List V->Hp->Prop) (n':Nat),W 0 [] (upd H1 acc (.lst [])) ∧
 ∀i ys H2,W i ys H2->H2 acc=some (.lst ys)/\ys.length < sizeLine/\((i=n'/\(Itr lo n).stop i H2/\QH H2)\/(i < n'/\(Itr lo n).go i H2/\∀x H3,(Itr lo n).yld i H2 x H3->∀τ:St,τ.length=k->(pc 0) x (τ++σ) H3 fun τ2 H4 =>
  (∃τ':St,τ'.length=k/\τ2=τ'++σ)/\qP τ2 H4 fun b H5=>if b=true then te τ2 H5 fun v H6=>H6 acc=some (.lst ys)/\W (i+1) (ys++[v]) (upd H6 acc (.lst (ys++[v]))) else W (i+1) ys H5)):=by
 subst hk
 refine⟨fun i ys H2=>i<=n/\I i ys H2,n,⟨Nat.zero_le _,h0⟩,?_⟩
 rintro i ys H2 ⟨hi,hI⟩
 obtain⟨m1,m3⟩:=sm i ys H2 hI
 refine⟨m1,by omega,?_⟩
 by_cases hlt:i < n
 ·refine .inr ⟨hlt,hlt,?_⟩
  rintro x H3 ⟨rfl,hx⟩ τ hτ
  subst hx
  obtain⟨t,rfl⟩:∃t,τ=[t]:=by
   match τ,hτ with
   | [t],_=>exact⟨t,rfl⟩
  refine⟨⟨[some (.int (lo+i))],rfl,rfl⟩,?_⟩
  unfold qP
  simp only [if_true]
  exact he i ys _ hlt hI _ fun v H6 e1 e2=>⟨e1,hlt,e2⟩
 ·have e:i=n:=by omega
  subst e
  exact .inl ⟨rfl,Nat.le_refl _,q ys H2 hI⟩
theorem FC {g g':Lf}(h:g.fs=g'.fs): g=g':=by
 have n1:¬(("frame" : Str) = "slot"):=by decide +kernel
 have n2:¬(("slot" : Str) = "frame"):=by decide +kernel
 cases g<;>cases g'<;>unfold Lf.fs at h<;>simp only [List.cons.injEq,Prod.mk.injEq,V.int.injEq,V.str.injEq,true_and,and_true,reduceCtorEq,and_false,n1,n2,false_and] at h
 ·rw[h]
 ·rw[h.1,h.2]
 ·rw[h.1,h.2]
 ·rw[h.1,h.2.1,h.2.2]
theorem yB {a:Adr}{H:Hp}{x:Addr}{g g':Lf}(h:dn a H x g)(h':dn a H x g'): g=g':=by
 obtain⟨d,e⟩:=h
 obtain⟨d',e'⟩:=h'
 rw[e] at e'
 injection e' with e'
 injection e' with _ _ ef
 exact FC ef
def dO (H H':Hp): Prop:=∀b u,H b=some u->(∀zs:List V,u≠.lst zs)->H' b=some u
theorem dO.upd {H:Hp}{l:Addr}{xs:List V}{u:HO}(h:H l=some (.lst xs)): dO H (upd H l u):=fun b v e n=>by
 rw[av fun z=>by rw[z,h] at e;cases e;exact n _ rfl];exact e
theorem dO.ins {H H':Hp}(k:dO H H'){b C dx:Addr}{fs:List (Str×V)}(e:H b=some (.ins C dx fs)): H' b=some (.ins C dx fs):=k b _ e fun _ w=>by cases w
theorem dO.tup {H H':Hp}(k:dO H H'){b:Addr}{xs:List V}(e:H b=some (.tup xs)): H' b=some (.tup xs):=k b _ e fun _ w=>by cases w
theorem dO.dK {H H':Hp}(k:dO H H'){b:Addr}{xs:List (Key×V)}(e:H b=some (.dK xs)): H' b=some (.dK xs):=k b _ e fun _ w=>by cases w
theorem dO.lf {a:Adr}{H H':Hp}(k:dO H H'){x:Addr}{g:Lf}(e:dn a H x g): dn a H' x g:=let ⟨dx,h⟩:=e;⟨dx,k.ins h⟩
theorem bZ.fE {a:Adr}{H H':Hp}{p:Addr}{ns:List Int}{low task:Int}{nd:Ix->Option Addr}{fp:List Addr}{cn:Nat}(S:bZ a H p ns low task nd fp cn)(k:dO H H'): bZ a H' p ns low task nd fp cn:=by
 obtain⟨dx,sh,tr,dt,sh2,top,dxs,ts,h1,h2,h3,h4,h4',h5⟩:=S
 refine⟨dx,sh,tr,dt,sh2,top,dxs,ts,k.ins h1,k.ins h2,?_,k.ins h4,k.tup h4',h5⟩
 obtain⟨⟨dy,sh,top,q1,⟨dz,tz,q2,q3⟩,q4⟩,g,fu,ib⟩:=h3
 exact⟨⟨dy,sh,top,k.ins q1,⟨dz,tz,k.ins q2,k.tup q3⟩,q4.keep fun b u e m=>by obtain⟨kv,e'⟩:=q4.lv b m;rw[e] at e';cases e';exact k.dK e⟩,g,fu,ib⟩
theorem bZ.tr {a:Adr}{H:Hp}{p:Addr}{ns:List Int}{low task:Int}{nd:Ix->Option Addr}{fp:List Addr}{cn:Nat}(S:bZ a H p ns low task nd fp cn): ∃dx sh tr dt sh2 top,H p=some (.ins a.aD dx [("shape",.ref sh),("task",.int task),("tree",.ref tr)]) ∧
  H tr=some (.ins a.aU dt [("shape",.ref sh2),("top",.ref top)])/\jd a H tr ns low nd fp cn/\iC a.az H sh ns low/\∀nd' fp' cn' H',jd a H' tr ns low nd' fp' cn'->L2.Fr fp fp' H H'->bZ a H' p ns low task nd' fp' cn':=by
 obtain⟨dx,sh,tr,dt,sh2,top,dxs,ts,h1,h2,h3,h4,h4',h5,h6,h7,h8,h9,h10⟩:=S
 refine⟨dx,sh,tr,dt,sh2,top,h1,h2,h3,⟨dxs,ts,h4,h4'⟩,fun nd' fp' cn' H' S' fr=>?_⟩
 have e2:=L2.Fr.out fr h2 h8
 have e1:=L2.Fr.out fr h1 h6
 have e3:=L2.Fr.out fr h4 h9
 have e4:=L2.Fr.out fr h4' h10
 exact⟨dx,sh,tr,dt,sh2,top,dxs,ts,e1.1,e2.1,S',e3.1,e4.1,h5,e1.2,h7,e2.2,e3.2,e4.2⟩
theorem bZ.mono {a:Adr}{H:Hp}{p:Addr}{ns:List Int}{low task:Int}{nd:Ix->Option Addr}{fp:List Addr}{cn cn':Nat}(S:bZ a H p ns low task nd fp cn)(h:cn<=cn'): bZ a H p ns low task nd fp cn':=by
 obtain⟨dx,sh,tr,dt,sh2,top,dxs,ts,h1,h2,⟨⟨dy,sh',top',q1,q2,q3⟩,g,fu,ib⟩,r⟩:=S
 exact⟨dx,sh,tr,dt,sh2,top,dxs,ts,h1,h2,⟨⟨dy,sh',top',q1,q2,q3.mono h⟩,g,fu,ib⟩,r⟩
theorem Gone.page {ns:List Int}{low:Int}{nd nd':Ix->Option Addr}{n m:Int}(g:Good ns low)(G:Gone ns.length nd (parts ns n) nd')(n0:0<=n)(n1:n < pgs ns)(m0:0<=m)(m1:m < pgs ns): nd' (parts ns m)=if m=n then none else nd (parts ns m):=by
 by_cases c:m=n
 ·rw[if_pos c,c];exact G.no
 ·rw[if_neg c]
  exact G.oth _ (dj ns m) (g.apart m0 m1 n0 n1 c)
def nV (M:Int->Option Addr)(n k:Int): Int->Option Addr:=fun m=>if n<=m/\m < n+k then none else M m
def Hole (ns:List Int)(nd:Ix->Option Addr)(n:Int)(j:Nat): Prop:=(∀i:Nat,i < j->(nd (parts ns (n+i))).isSome=true)/\nd (parts ns (n+j))=none
def rY (a:Adr): Sp:=fun vs H Q E=>∃(p l:Addr) (ns:List Int) (low task n:Int) (kk:Nat) (dd:Str) (nd:Ix->Option Addr) (fp:List Addr) (cn:Nat),vs=[.ref p,.ref l,.str dd]/\bZ a H p ns low task nd fp cn/\H l=some (.lst ((kB n kk).map V.int))/\0<=n/\n+kk<=pgs ns ∧
 (∀j:Nat,j < kk->Hole ns nd n j->∀d H',H' d=some (xdW d (o4 (.int task) (.int ((n+j)*plc low)) (.str dd)))->Same H H'->E (.ref a.aA) (some d) H') ∧
 ((∀i:Nat,i < kk->(nd (parts ns (n+i))).isSome=true)->∀H',Same H H'->Q .non H')
def CL (a:Adr): Sp:=fun vs H Q E=>∃(p:Addr) (ns:List Int) (low task n m:Int) (nd:Ix->Option Addr) (fp:List Addr) (cn:Nat),vs=[.ref p,.int n,.int m]/\bZ a H p ns low task nd fp cn ∧
 (¬nH ns n m->E (.ref a.bL) none H) ∧
 (nH ns n m->∀j:Nat,(j:Int) < m->Hole ns nd n j->∀d H',H' d=some (xdW d (o4 (.int task) (.int ((n+j)*plc low)) (.str "unmap")))->Same H H'->E (.ref a.aA) (some d) H') ∧
 (nH ns n m->∀xs:List Addr,(xs.length:Int)=m->(∀(i:Nat) x,xs[i]?=some x->nd (parts ns (n+i))=some x)->∀q nd' H',bZ a H' p ns low task nd' fp cn->H' q=some (.lst (xs.map V.ref))->(∀m',0<=m'->m' < pgs ns->nd' (parts ns m')=nV (fun m=>nd (parts ns m)) n m m')->L2.Fr fp fp H H'->H q=none->Q (.ref q) H')
def xx (a:Adr): Sp:=fun vs H Q E=>∃(p:Addr) (ns:List Int) (low task n m r:Int) (nd:Ix->Option Addr) (fp:List Addr) (cn:Nat),vs=[.ref p,.int n,.int m,.int r]/\bZ a H p ns low task nd fp cn/\cn < 90000/\(∀(i:Nat) x,(i:Int) < m->nd (parts ns (n+i))=some x->∃g,dn a H x g) ∧
 (¬nH ns n m->E (.ref a.bL) none H) ∧
 (nH ns n m->¬OkR r->∀H',Same H H'->E (.ref a.bE) none H') ∧
 (nH ns n m->OkR r->∀j:Nat,(j:Int) < m->Hole ns nd n j->∀d H',H' d=some (xdW d (o4 (.int task) (.int ((n+j)*plc low)) (.str "rights")))->Same H H'->E (.ref a.aA) (some d) H') ∧
 (nH ns n m->OkR r->(∀i:Nat,(i:Int) < m->(nd (parts ns (n+i))).isSome=true)->∀(ys:List Addr) nd' fp' H',(ys.length:Int)=m->bZ a H' p ns low task nd' fp' (cn+64)->(∀(i:Nat) x y g,nd (parts ns (n+i))=some x->dn a H x g->ys[i]?=some y->dn a H' y (g.lZ r))->(∀m',0<=m'->m' < pgs ns->nd' (parts ns m')=eF (fun m=>nd (parts ns m)) n ys m')->L2.Fr fp fp' H H'->(∀b∈fp,b∈fp')->Q .non H')
theorem yC (M:Int->Option Addr)(n:Int)(ys:List Addr)(y:Addr)(m:Int): eF M n (ys++[y]) m=if m=n+ys.length then some y else eF M n ys m:=by
 have h:=rW (M:=M) (n:=n) (xs:=ys++[y]) (i:=ys.length) (x:=y) (by rw[List.getElem?_append_right (Nat.le_refl _),Nat.sub_self];rfl) m
 rw[List.take_of_length_le (by rw[List.length_append];exact Nat.le_refl _),List.take_left' rfl] at h
 exact h
theorem CM (M:Int->Option Addr)(n:Int)(ys:List Addr): eF M n ys (n+ys.length)=M (n+ys.length):=by
 unfold eF
 rw[if_neg (by omega)]
section
variable {P:Program}{w:World}{K:W.Frag}{mg:Str->Option Value}{base:Heap}{a:Adr}
theorem kj {dvs:List V} (R:bB K a.aD "check_mapped" "Space.check_mapped" dU ["self", "pages", "deed"] dvs) (T:Txt w K mg a)
  (bf:aE P w K mg base a.aD 6 "leaf" ["self", "page"] (iE a) [])
  (bY:uo P w K mg base a.aA 1 ["self", "task", "address", "deed"] (nP K) [])
  (b6:aE P w K mg base a.az 2 "address_of" ["self", "page", "place"] (rK a) []) :
  aE P w K mg base a.aD 7 "check_mapped" ["self", "pages", "deed"] (rY a) dvs:=by
 refine R.ok fF (fun vs H Q E h=>?_) (fun f cdv A outer s H vs Q E hr h=>?_)
 ·obtain⟨p,l,ns,low,task,n,kk,dd,nd,fp,cn,rfl,_⟩:=h
  rfl
 obtain⟨p,l,ns,low,task,n,kk,dd,nd,fp,cn,rfl,S,hl,n0,n1,k1,k2⟩:=h
 refine⟨_,(@aq _ _ _ (cM bU rfl (eY (pv 1)) (bn (i:=3) fF.nd rfl (by first | exact Or.inl rfl | exact Or.inr rfl))
   (@aq _ _ _ (bD (aW xT (cq (pv 0) T.aN bf (hr.mono (by decide)) ao (@ae _ _ _ _ _ (pv 3) af rfl)) eX (bo _)) (@aq _ _ _ (lD bY (hr.mono (by decide)) rfl (by rfl) T.jS ao (@ae _ _ _ _ _ (bg (pv 0) rfl) (@ae _ _ _ _ _ (cq (bg (pv 0) rfl) T.aP b6 (hr.mono (by decide)) ao (@ae _ _ _ _ _ (pv 3) (@ae _ _ _ _ _ aw af rfl) rfl)) (@ae _ _ _ _ _ (pv 2) af rfl) rfl) rfl))) aQ)))),?_⟩
 have t1:=T.aN;have t2:=T.b_;have t3:=T.fB;have t5:=T.aP
 have SA:=S
 obtain⟨dx,sh,tr,dt,sh2,top,h1,h2,h3,h4,_⟩:=S.tr
 have gd:=SA.good
 have pp:0 < plc low:=nG low
 walk_at "go"
 refine g7 (xs:=(kB n kk).map V.int) (fun i σ H'=>Bx ((∃v3,σ=[some (.ref p),some (.ref l),some (.str dd),v3])/\(∀j:Nat,j < i->(nd (parts ns (n+j))).isSome=true)/\(∀b u,H b=some u->H' b=some u))) ⟨⟨⟨_,rfl⟩,fun j z=>absurd z (Nat.not_lt_zero _),fun _ _ e=>e⟩⟩ (fun i σ H' _ z=>SqL.of (z.o.2.2 _ _ hl)) ?_ ?_
 ·rintro i x σ H2 hx ⟨⟨v3,rfl⟩,fr,s2⟩
  obtain⟨m,rfl,hm⟩:=cW hx
  obtain⟨rfl,il⟩:=nU hm
  have s02:Same H H2:=s2
  have SA2:=SA.same s02
  have h12:=s02 _ _ h1
  have pin:0<=n+(i:Int)/\n+(i:Int) < pgs ns:=by omega
  walk_at "go"
  refine⟨fun _ H3 s3=>?_,fun z=>absurd pin z⟩
  have h13:=s3 _ _ h12
  have h43:=(h4.same s02).same s3
  cases hx:nd (parts ns (n+i)) with
  | none =>
   have nv:ndV none=.non:=rfl
   obtain⟨dxs,ts,hs,hw⟩:=id h43
   walk_at "go"
   refine⟨fun _=>?_,fun z=>absurd ⟨pin,Int.le_refl _,pp⟩ z⟩
   have xo:=XO.of T.cu;have x1:=T.jx;have x2:=T.gN;have x3:=T.jw
   have zr:[V.int task,V.int ((n+(i:Int))*plc low+0),V.str dd].length<=sizeLine:=by rw[sizeLine_eq];show 3<=_;decide
   walk_at "go"
   refine fun e he=>⟨e,a.aA,.int task,.int ((n+(i:Int))*plc low+0),.str dd,rfl,aj,xo,x1,x2,x3,fun d H4 hd ne q1 q2 q3=>⟨rfl,some d,q1,?_⟩⟩
   rw[Int.add_zero] at q2
   exact k1 i il ⟨fr,hx⟩ d (del H4 e) (by rw[dL ne];exact q2) ((s02.trans s3).trans (dY he hd q3))
  | some x =>
   have nv:ndV (some x)=.ref x:=rfl
   walk_at "go"
   refine⟨⟨⟨_,rfl⟩,fun j hj=>?_,fun b u e=>s3 _ _ (s2 _ _ e)⟩⟩
   by_cases c:j=i
   ·rw[c,hx];rfl
   ·exact fr j (by omega)
 ·rintro σ H2 ⟨⟨v3,rfl⟩,fr,s2⟩
  rw[List.length_map,iG] at fr
  walk_at "go"
  exact k2 fr H2 s2
theorem tf {dvs:List V} (R:bB K a.aD "lift" "Space.lift" jM ["self", "first", "many"] dvs) (T:Txt w K mg a)
  (bO:aE P w K mg base a.az 2 "stretch" ["self", "first", "many"] (lF a) [])
  (bQ:aE P w K mg base a.aD 7 "check_mapped" ["self", "pages", "deed"] (rY a) [])
  (k9:aE P w K mg base a.aU 5 "drop" ["self", "page"] (zy a) []) :
  aE P w K mg base a.aD 8 "lift" ["self", "first", "many"] (CL a) dvs:=by
 refine R.ok lW (fun vs H Q E h=>?_) (fun f cdv A outer s H vs Q E hr h=>?_)
 ·obtain⟨p,ns,low,task,n,m,nd,fp,cn,rfl,_⟩:=h
  rfl
 obtain⟨p,ns,low,task,n,m,nd,fp,cn,rfl,S,k0,k1,k2⟩:=h
 refine⟨_,(ah (aI (i:=3) lW.nd rfl (by first | exact Or.inl rfl | exact Or.inr rfl) (cq (bg (pv 0) rfl) T.aP bO (hr.mono (by decide)) ao (ae (pv 1) (ae (pv 2) af rfl) rfl)))
   (ah (bu (cq (pv 0) T.aN bQ (hr.mono (by decide)) ao (ae (pv 3) (ae b5 af rfl) rfl)))
   (aq (aG (qt (xs:=["page"]) (N':=["self", "first", "many", "pages"]) rfl ⟨rfl,by decide +kernel,by decide +kernel,by dsimp only [dJ,PyProof.Rows.envOfC];decide +kernel,by decide +kernel,by dsimp only [dJ];decide +kernel,rfl⟩ (eY (pv 3)) (fun _ _ _ _ _=>(bn (i:=0) (by dsimp only [c9];decide +kernel) rfl (by first | exact Or.inl rfl | exact Or.inr rfl))) (fun _ _ _ _ _=>mW) (fun _ _ _ _ _=>(cq (DB (K:=K) rfl (pv 1) rfl) T.bN k9 (hr.mono (by decide)) gY (ae (pv 0) af rfl)))))))),?_⟩
 have t1:=T.aN;have t2:=T.b_;have t3:=T.bW;have t5:=T.aP;have t6:=T.bN
 have SA:=S
 obtain⟨dx,sh,tr,dt,sh2,top,h1,h2,h3,h4,_⟩:=S.tr
 obtain⟨dxs,ts,hs,hw⟩:=id h4
 have gd:=SA.good
 walk_at "go"
 refine⟨fun st q H1 s1 e1 hq=>?_,k0⟩
 obtain⟨kk,rfl⟩:∃kk:Nat,m=(kk:Int):=⟨m.toNat,by have:=st.1.1;omega⟩
 rw[Int.toNat_natCast] at e1
 have st0:=st.2.1
 have st1:=st.2.2
 have Ht:=st.1.2
 have SA1:=SA.same s1
 have h11:=s1 _ _ h1
 walk_at "go"
 refine⟨fun j jl ho d H2 hd s2=>k1 st j (by omega) ho d H2 hd (s1.trans s2),fun all H2 s2=>?_⟩
 have e2:=s2 _ _ e1
 have s02:=s1.trans s2
 obtain⟨xs,xl,xa⟩:∃xs:List Addr,xs.length=kk/\∀(i:Nat) x,xs[i]?=some x->nd (parts ns (n+i))=some x:=by
  refine⟨(List.range kk).map fun i:Nat=>(nd (parts ns (n+(i:Int)))).getD 0,by rw[List.length_map,List.length_range],fun i x h=>?_⟩
  rw[List.getElem?_map] at h
  by_cases c:i < kk
  ·rw[List.getElem?_range c] at h
   have:=all i c
   cases e:nd (parts ns (n+i)) with
   | none=>rw[e] at this;cases this
   | some y=>simp[e] at h;rw[h]
  ·rw[List.getElem?_eq_none (by rw[List.length_range];omega)] at h
   cases h
 walk_at "go"
 intro acc hacc
 have a0:H acc=none:=s02.free hacc
 refine rX (xs:=(kB n kk).map V.int) (fun i ys H'=>Bx (∃nd',ys=(xs.take i).map V.ref/\H' acc=some (.lst ys)/\bZ a H' p ns low task nd' fp cn/\(∀m',0<=m'->m' < pgs ns->nd' (parts ns m')=nV (fun m=>nd (parts ns m)) n i m')/\L2.Fr fp fp H H'/\H' q=some (.lst ((kB n kk).map V.int))/\i<=kk)) (by rw[List.length_map,iG,sizeLine_eq];omega) ⟨⟨nd,rfl,aj,(SA.same s02).same (aB hacc),fun m' _ _=>?_,L2.Fr.same (s02.trans (aB hacc)),aB hacc _ _ e2,Nat.zero_le _⟩⟩ (fun i ys H' z=>?_) (fun i x ys H' hx z R r=>?_) (fun ys H' z=>?_)
 ·unfold nV;rw[if_neg (by omega)]
 ·obtain⟨nd',z1,z2,z3,z4,z5,z6,z7⟩:=z.o
  exact⟨z2,SqL.of z6,by rw[z1,List.length_map,List.length_take];omega⟩
 ·obtain⟨nd',z1,z2,z3,z4,z5,z6,z7⟩:=z.o
  obtain⟨m,rfl,hm⟩:=cW hx
  obtain⟨rfl,il⟩:=nU hm
  have pin:0<=n+(i:Int)/\n+(i:Int) < pgs ns:=by omega
  obtain⟨dx3,sh3,tr3,dt3,Hu,Hv,q1,q2,q3,q4,back⟩:=z3.tr
  walk_at "go"
  refine⟨fun _ xu H5 S5 G fr5=>?_,fun z=>absurd pin z⟩
  have ex:xs[i]?=some (xs[i]'(by omega)):=List.getElem?_eq_getElem (by omega)
  generalize xs[i]'(by omega)=x at ex
  have ev:nd' (parts ns (n+i))=some x:=by
   rw[z4 _ pin.1 pin.2]
   unfold nV
   rw[if_neg (by omega)]
   exact xa i x ex
  rw[ev]
  have SP5:=back xu fp cn H5 S5 fr5
  have nf:acc∉fp:=fun w=>by
   obtain⟨⟨_,_,_,_,_,q⟩,_⟩:=id h3
   obtain⟨kv,e⟩:=q.lv _ w
   rw[a0] at e;cases e
  have nq:q∉fp:=fun w=>by
   obtain⟨⟨_,_,_,_,_,q'⟩,_⟩:=id h3
   obtain⟨kv,e⟩:=q'.lv _ w
   rw[hq] at e;cases e
  have e5:=(L2.Fr.out fr5 z2 nf).1
  have e6:=(L2.Fr.out fr5 z6 nq).1
  have nqa:q≠acc:=ay e2 hacc
  refine r _ _ e5 ⟨⟨xu,?_,aj,SP5.fE (dO.upd e5),fun m' m0 m1=>?_,⟨fun b u e nb=>?_,fun b hb=>.inl hb⟩,by rw[av nqa];exact e6,by omega⟩⟩
  ·rw[z1,List.take_add_one,ex,List.map_append];rfl
  ·rw[G.page gd pin.1 pin.2 m0 m1,z4 m' m0 m1]
   unfold nV
   by_cases c:m'=n+i
   ·rw[if_pos c,if_pos (by omega)]
   ·rw[if_neg c]
    by_cases c2:n<=m'/\m' < n+i
    ·rw[if_pos c2,if_pos (by omega)]
    ·rw[if_neg c2,if_neg (by omega)]
  ·rw[av (ay e a0)]
   exact(z5.trans fr5).1 b u e nb
 ·obtain⟨nd',z1,z2,z3,z4,z5,z6,z7⟩:=z.o
  rw[List.length_map,iG] at z1 z4
  rw[List.take_of_length_le (by omega)] at z1
  exact k2 st xs (by omega) xa acc nd' H' z3 (by rw[z2,z1]) z4 z5 a0
theorem qg {dvs:List V} (R:bB K a.aD "change" "Space.change" iq ["self", "first", "many", "rights"] dvs) (T:Txt w K mg a)
  (bO:aE P w K mg base a.az 2 "stretch" ["self", "first", "many"] (lF a) [])
  (cS:HasFn P w K mg base 1 "check_rights" ["rights"] (rP a) [])
  (bQ:aE P w K mg base a.aD 7 "check_mapped" ["self", "pages", "deed"] (rY a) [])
  (b4:aE P w K mg base a.aD 6 "put" ["self", "page", "leaf"] (nR a) [])
  (gK:aE P w K mg base a.bp 4 "righted" ["self", "rights"] (d8 a 0) [])
  (iH:aE P w K mg base a.bC 5 "righted" ["self", "rights"] (d8 a 1) [])
  (je:aE P w K mg base a.b9 5 "righted" ["self", "rights"] (d8 a 2) [])
  (gL:aE P w K mg base a.aZ 5 "righted" ["self", "rights"] (d8 a 3) [])
  (bf:aE P w K mg base a.aD 6 "leaf" ["self", "page"] (iE a) []) :
  aE P w K mg base a.aD 8 "change" ["self", "first", "many", "rights"] (xx a) dvs:=by
 refine R.ok gG (fun vs H Q E h=>?_) (fun f cdv A outer s H vs Q E hr h=>?_)
 ·obtain⟨p,ns,low,task,n,m,r,nd,fp,cn,rfl,_⟩:=h
  rfl
 obtain⟨p,ns,low,task,n,m,r,nd,fp,cn,rfl,S,lc,lv,k0,k1,k2,k3⟩:=h
 refine⟨_,(@ah _ _ _ _ _ (@aI _ _ 4 _ _ _ _ gG.nd rfl (by first | exact Or.inl rfl | exact Or.inr rfl) (cq (bg (pv 0) rfl) T.aP bO (hr.mono (by decide)) ao (@ae _ _ _ _ _ (pv 1) (@ae _ _ _ _ _ (pv 2) af rfl) rfl)) (by rfl) (by first | exact Or.inl rfl | exact Or.inr rfl))
   (@ah _ _ _ _ _ (bu (bv cS (hr.mono (by decide)) (by rfl) ao (@ae _ _ _ _ _ (pv 3) af rfl)))
   (@ah _ _ _ _ _ (bu (cq (pv 0) T.aN bQ (hr.mono (by decide)) ao (@ae _ _ _ _ _ (pv 4) (@ae _ _ _ _ _ b5 af rfl) rfl)))
   (@aq _ _ _ (cM bU rfl (eY (pv 4)) (bn (i:=5) gG.nd rfl (by first | exact Or.inl rfl | exact Or.inr rfl))
   (@aq _ _ _ (bu (cq (pv 0) T.aN b4 (hr.mono (by decide)) ao (@ae _ _ _ _ _ (pv 5) (@ae _ _ _ _ _ (BX (k:=5) (m := "righted") (dvs:=[]) (cq (pv 0) T.aN bf (hr.mono (by decide)) ao (@ae _ _ _ _ _ (pv 5) af rfl)) (hr.mono (by decide)) ao (@ae _ _ _ _ _ (pv 3) af rfl) (by rfl) (by rfl) (by rfl)) af rfl) rfl))))))))),?_⟩
 have t1:=T.aN;have t2:=T.b_;have t3:=T.bW;have t5:=T.aP
 have SA:=S
 obtain⟨dx,sh,tr,dt,sh2,top,h1,h2,h3,h4,_⟩:=S.tr
 obtain⟨dxs,ts,hs,hw⟩:=id h4
 have gd:=SA.good
 walk_at "go"
 refine⟨fun st q H1 s1 e1 hq=>?_,k0⟩
 obtain⟨kk,rfl⟩:∃kk:Nat,m=(kk:Int):=⟨m.toNat,by have:=st.1.1;omega⟩
 rw[Int.toNat_natCast] at e1
 have st0:=st.2.1
 have st1:=st.2.2
 have Ht:=st.1.2
 have SA1:=SA.same s1
 have h11:=s1 _ _ h1
 walk_at "go"
 refine⟨fun ok=>?_,fun bad=>k1 st bad H1 s1⟩
 walk_at "go"
 refine⟨fun j jl ho d H2 hd s2=>k2 st ok j (by omega) ho d H2 hd (s1.trans s2),fun all H2 s2=>?_⟩
 have e2:=s2 _ _ e1
 have s02:=s1.trans s2
 have h12:=s2 _ _ h11
 walk_at "go"
 refine g7 (xs:=(kB n kk).map V.int) (fun i σ H'=>Bx (∃v5 ys nd' fp',σ=[some (.ref p),some (.int n),some (.int kk),some (.int r),some (.ref q),v5]/\ys.length=i/\bZ a H' p ns low task nd' fp' (cn+i)/\(∀(i:Nat) x y g,nd (parts ns (n+i))=some x->dn a H x g->ys[i]?=some y->dn a H' y (g.lZ r))/\(∀m',0<=m'->m' < pgs ns->nd' (parts ns m')=eF (fun m=>nd (parts ns m)) n ys m')/\L2.Fr fp fp' H H'/\(∀b∈fp,b∈fp')/\bF H2 H')) ⟨⟨_,[],nd,fp,rfl,rfl,SA.same s02,fun i x y g _ _ z=>(by cases z),fun m' _ _=>(uz (fun m=>nd (parts ns m)) n m').symm,L2.Fr.same s02,fun b hb=>hb,bF.refl _⟩⟩ (fun i σ H' _ z=>?_) ?_ ?_
 ·obtain⟨v5,ys,nd',fp',_,_,_,_,_,_,_,kn⟩:=z.o
  exact SqL.of (kn.lst e2)
 ·rintro i x σ H3 hx ⟨v5,ys,nd',fp',rfl,yl,SA3,ly,pv,fr3,sub,kn⟩
  obtain⟨m,rfl,hm⟩:=cW hx
  obtain⟨rfl,il⟩:=nU hm
  have pin:0<=n+(i:Int)/\n+(i:Int) < pgs ns:=by omega
  have hsome:=all i il
  obtain⟨x,hx⟩:∃x,nd (parts ns (n+i))=some x:=by
   cases e:nd (parts ns (n+i)) with
   | none=>rw[e] at hsome;cases hsome
   | some x=>exact⟨x,rfl⟩
  obtain⟨g,lf⟩:=lv i x (by omega) hx
  have hx3:nd' (parts ns (n+i))=some x:=by
   rw[pv _ pin.1 pin.2,<-yl,CM,yl];exact hx
  have lf3:=kn.lf (lf.same s02)
  have h13:=kn.ins h12
  walk_at "go"
  refine⟨fun _ H4 s4=>?_,fun z=>absurd pin z⟩
  rw[hx3]
  have lf4:=lf3.same s4
  have SA4:=SA3.same s4
  have h14:=s4 _ _ h13
  have lc4:cn+i < 100000:=by omega
  obtain⟨C,dxl,fs,f1,f2,f3,f4⟩:∃C dx fs,H4 x=some (.ins C dx fs)/\Cls K C/\aE P w K mg base C 5 "righted" ["self", "rights"] (d8 a g.kind) []/\fs.lookup ("righted" : Str)=none:=by
   obtain⟨dl,hl⟩:=id lf4
   cases g with
   | fresh r=>exact⟨_,_,_,hl,T.dD,gK.mono (by decide),by walk_at "lk"⟩
   | held r f=>exact⟨_,_,_,hl,T.eG,iH.mono (by decide),by walk_at "lk"⟩
   | out r f=>exact⟨_,_,_,hl,T.gH,je.mono (by decide),by walk_at "lk"⟩
   | named r n f=>exact⟨_,_,_,hl,T.dE,gL.mono (by decide),by walk_at "lk"⟩
  have nv:ndV (some x)=.ref x:=rfl
  rw[nv]
  walk_at "go"
  refine⟨fun _ y H5 ly5 s5 hy5=>?_,fun bad=>absurd ok bad⟩
  have SA5:=SA4.same s5
  have h15:=s5 _ _ h14
  have lvy:∃u,H5 y=some u:=by obtain⟨dl,e⟩:=id ly5;exact⟨_,e⟩
  walk_at "go"
  refine⟨fun _ xu qS H6 SA6 pt fr6 Hw=>?_,fun z=>absurd pin z⟩
  have k6:=SA5.eV fr6
  refine⟨⟨_,ys++[y],xu,qS,rfl,by rw[List.length_append,yl];rfl,SA6,fun i' x' y' g' a1 a2 a3=>?_,fun m' m0 m1=>?_,(fr3.trans (L2.Fr.same (s4.trans s5))).trans fr6,fun b hb=>Hw _ (sub _ hb),(kn.trans (bF.same (s4.trans s5))).trans k6⟩⟩
  ·by_cases c:i' < ys.length
   ·rw[List.getElem?_append_left c] at a3
    exact k6.lf (((ly i' x' y' g' a1 a2 a3).same s4).same s5)
   ·have l3:=(List.getElem?_eq_some_iff.mp a3).1
    rw[List.length_append] at l3
    have ei:i'=ys.length:=by simp at l3;omega
    rw[ei,List.getElem?_append_right (Nat.le_refl _),Nat.sub_self] at a3
    cases a3
    rw[ei,yl,hx] at a1
    cases a1
    have eg:g'=g:=yB a2 lf
    rw[eg]
    exact k6.lf ly5
  ·rw[pt.page gd pin.1 pin.2 m0 m1,yC,pv m' m0 m1,yl]
 ·rintro σ H3 ⟨v5,ys,nd',fp',rfl,yl,SA3,ly,pv,fr3,sub,kn⟩
  rw[List.length_map,iG] at yl
  rw[List.length_map,iG] at SA3
  walk_at "go"
  exact k3 st ok (fun i il=>all i (by omega)) ys nd' fp' H3 (by omega) (SA3.mono (by omega)) ly pv fr3 sub
end
end K19

set_option maxHeartbeats 4000000
namespace K19
open PySem L2
def xA (a:Adr): Sp:=fun vs H Q _=>∃(p:Addr) (ns:List Int) (low task:Int) (nd:Ix->Option Addr) (fp:List Addr) (cn:Nat) (L:List Ix),vs=[.ref p]/\bZ a H p ns low task nd fp cn/\Cov ns.length nd L/\L.length < 64 ∧
 ∀(Ls:List Rs) (H':Hp),Ls.length=ns.length->(∀i R,Ls[i]?=some R->Lvl ns nd i R)->Same H H'->Q (.int (((Ls.map List.length).sum:Nat):Int)) H'
def xB (a:Adr): Sp:=fun vs H Q _=>∃(p:Addr) (ns:List Int) (low task uA:Int) (nd:Ix->Option Addr) (fp:List Addr) (cn:Nat) (L:List Ix),vs=[.ref p,.int uA]/\bZ a H p ns low task nd fp cn/\Cov ns.length nd L/\L.length < 64/\(∀m x,0<=m->m < pgs ns->nd (parts ns m)=some x->∃u,H x=some u) ∧
 ∀p' nd' fp' H',bZ a H' p' ns low uA nd' fp' 64->(∀m,0<=m->m < pgs ns->nd' (parts ns m)=nd (parts ns m))->Same H H'->(∀b∈fp',H b=none)->H p'=none->Q (.ref p') H'
section
variable {P:Program}{w:World}{K:W.Frag}{mg:Str->Option Value}{base:Heap}{a:Adr}
theorem qh {dvs:List V} (R:bB K a.aD "tables" "Space.tables" ip ["self"] dvs) (T:Txt w K mg a)
  (jf:aE P w K mg base a.aU 2 "tables" ["self"] (zB a) []) :
  aE P w K mg base a.aD 3 "tables" ["self"] (xA a) dvs:=by
 refine R.ok p8 (fun vs H Q E h=>?_) (fun f cdv A outer s H vs Q E hr h=>?_)
 ·obtain⟨p,ns,low,task,nd,fp,cn,L,rfl,_⟩:=h
  rfl
 obtain⟨p,ns,low,task,nd,fp,cn,L,rfl,S,cv,l63,k⟩:=h
 refine⟨_,(@aq _ _ _ (@aG _ _ _ _ (gq (bg (pv 0) rfl) T.bN jf (hr.mono (by decide)) ao))),?_⟩
 have t1:=T.aN;have t2:=T.bW;have t3:=T.bN
 obtain⟨dx,sh,tr,dt,sh2,top,dxs,ts,h1,h2,h3,h4,h4',h5,h6,h7,h8,h9,h10⟩:=S
 walk_at "go"
 exact k
theorem tj {dvs:List V} (R:bB K a.aD "like" "Space.like" jO ["self", "task"] dvs) (T:Txt w K mg a)
  (cK:eB P w K mg base a.aD 3 ["self", "shape", "task"] (rS a) [])
  (d9:aE P w K mg base a.aD 3 "rows" ["self"] (rR a) [])
  (b4:aE P w K mg base a.aD 6 "put" ["self", "page", "leaf"] (nR a) []) :
  aE P w K mg base a.aD 7 "like" ["self", "task"] (xB a) dvs:=by
 refine R.ok fW (fun vs H Q E h=>?_) (fun f cdv A outer s H vs Q E hr h=>?_)
 ·obtain⟨p,ns,low,task,uA,nd,fp,cn,L,rfl,_⟩:=h
  rfl
 obtain⟨p,ns,low,task,uA,nd,fp,cn,L,rfl,S,cv,l63,lvx,k⟩:=h
 refine⟨_,(@ah _ _ _ _ _ (@aI _ _ 2 _ _ _ _ fW.nd rfl (by first | exact Or.inl rfl | exact Or.inr rfl) (j8 cK (hr.mono (by decide)) (by rfl) T.zh ao (@ae _ _ _ _ _ (bg (pv 0) rfl) (@ae _ _ _ _ _ (pv 1) af rfl) rfl)) (by rfl) (by first | exact Or.inl rfl | exact Or.inr rfl))
   (@ah _ _ _ _ _ (cM bU rfl (eY (gq (pv 0) T.aN d9 (hr.mono (by decide)) ao)) (qz (n:=2) rfl (eA (bn (i:=3) fW.nd rfl (by first | exact Or.inl rfl | exact Or.inr rfl)) (eA (bn (i:=4) fW.nd rfl (by first | exact Or.inl rfl | exact Or.inr rfl)) mM)))
   (@aq _ _ _ (bu (cq (pv 2) T.aN b4 (hr.mono (by decide)) ao (@ae _ _ _ _ _ (pv 3) (@ae _ _ _ _ _ (pv 4) af rfl) rfl)))))
   (@aq _ _ _ (@aG _ _ _ _ (pv 2))))),?_⟩
 have t1:=T.aN;have t2:=T.b_;have t3:=T.aP
 have SA:=S
 obtain⟨dx,sh,tr,dt,sh2,top0,dxs,ts,h1,h2,h3,h4,h4',h5,h6,h7,h8,h9,h10⟩:=S
 have SH:iC a.az H sh ns low:=⟨dxs,ts,h4,h4'⟩
 walk_at "go"
 refine fun y dy hy hdy ney=>⟨y,sh,dy,ns,low,_,rfl,aj,SH.same ?_,h5,fun top H1 ht SP1 fr1=>⟨rfl,?_⟩⟩
 ·exact(aB hdy).trans (aB (by rw[av ney.symm];exact hy))
 have s1:Same H H1:=fun b o z=>fr1 b o (by rw[av (ay z hy),av (ay z hdy)];exact z) (ay z hy)
 have ht0:H top=none:=by
  by_cases c:top=y
  ·rw[c];exact hy
  ·rw[av c] at ht
   by_cases c2:top=dy
   ·rw[c2];exact hdy
   ·rw[av c2] at ht;exact ht
 have SA1:=SA.same s1
 have h11:=s1 _ _ h1
 walk_at "go"
 intro q us R H2 RA lv s2 hq
 have S2:=SP1.same s2
 have rl2:=RA.l
 have htop:∃kv:List (Key×V),H1 top=some (.dK kv):=by
  obtain⟨_,_,_,_,_,_,_,_,_,_,⟨⟨_,_,_,_,_,q4⟩,_⟩,_⟩:=SP1
  exact q4.lv top (by simp)
 obtain⟨kv,htop⟩:=htop
 have Gz:=s2 _ _ htop
 have nqt:q∉[top]:=fun z=>by rw[List.mem_singleton.mp z,htop] at hq;cases hq
 have Rl:R.length < 64:=by
  have:=Lvl.small h5 h3.fu cv l63 lv.1 (fun m x hm=>(lv.2 m x).mp hm) (by have:=h5.len;omega) (Nat.le_refl _)
  exact this
 walk_at "go"
 refine g7 (xs:=us.map V.ref) (fun i σ H'=>Bx (∃v3 v4 nd' fp',σ=[some (.ref p),some (.int uA),some (.ref y),v3,v4]/\bZ a H' y ns low uA nd' fp' (0+i)/\L2.Fr [top] fp' H2 H'/\∀m,0<=m->m < pgs ns->nd' (parts ns m)=if m∈(R.take i).map (·.1) then nd (parts ns m) else none)) ⟨⟨_,_,_,[top],rfl,S2,L2.Fr.same (Same.refl _),fun m _ _=>?_⟩⟩ (fun i σ H' _ z=>?_) ?_ ?_
 ·show (if parts ns m=[] then some top else none)=if m∈(R.take 0).map (·.1) then nd (parts ns m) else none
  rw[if_neg fun z=>?_,if_neg (by simp)]
  have e:=congrArg List.length z
  rw[dj] at e
  have e:ns.length=0:=e
  have:=h5.len
  omega
 ·obtain⟨_,_,_,_,_,_,z,_⟩:=z.o
  exact SqL.of (z.1 _ _ RA.l nqt)
 ·rintro i x σ H3 hi ⟨v3,v4,nd',fp',rfl,S3,fr3,pv⟩
  rw[List.getElem?_map,Option.map_eq_some_iff] at hi
  obtain⟨u,hu,rfl⟩:=hi
  have il:i < R.length:=by rw[<-RA.n];exact(List.getElem?_eq_some_iff.mp hu).1
  have er:R[i]?=some R[i]:=List.getElem?_eq_getElem il
  generalize R[i]=r at er
  obtain⟨n,x⟩:=r
  have hu2:H2 u=some (.tup [.int n,.ref x]):=RA.t i u _ hu er
  have hu3:=fr3.1 _ _ hu2 (fun z=>by rw[List.mem_singleton.mp z,Gz] at hu2;cases hu2)
  obtain⟨n0,n1,hx⟩:=(lv.2 n x).mp (List.mem_of_getElem? er)
  rw[List.take_length,iF] at n1
  rw[List.take_length] at hx
  obtain⟨ux,hux⟩:=lvx n x n0 n1 hx
  have lx:∃u,H3 x=some u:=⟨_,fr3.1 _ _ (s2 _ _ (s1 _ _ hux)) (fun z=>by rw[List.mem_singleton.mp z,ht0] at hux;cases hux)⟩
  obtain⟨dx3,sh3,tr3,dt3,Hu,Hv,IC,ts3,hy3,_⟩:=id S3
  have c3:0+i < 100000:=by omega
  have pin:0<=n/\n < pgs ns:=⟨n0,n1⟩
  walk_at "go"
  refine⟨fun _ xu qS H4 S4 pt fr4 sub=>?_,fun z=>absurd pin z⟩
  walk_at "go"
  refine⟨⟨_,_,xu,qS,rfl,S4,fr3.trans fr4,fun m m0 m1=>?_⟩⟩
  rw[pt.page h5 n0 n1 m0 m1,pv m m0 m1,List.take_add_one,er,List.map_append]
  by_cases c:m=n
  ·rw[if_pos c,if_pos (List.mem_append_right _ (by rw[c];simp)),c,hx]
  ·rw[if_neg c]
   by_cases c2:m∈(R.take i).map (·.1)
   ·rw[if_pos c2,if_pos (List.mem_append_left _ c2)]
   ·rw[if_neg c2,if_neg fun z=>?_]
    rcases List.mem_append.mp z with w | w
    ·exact c2 w
    ·simp at w;exact c w
 ·rintro σ H3 ⟨v3,v4,nd',fp',rfl,S3,fr3,pv⟩
  rw[List.length_map,RA.n] at S3 pv
  walk_at "go"
  have s3:Same H H3:=fun b u e=>fr3.1 _ _ (s2 _ _ (s1 _ _ e)) (fun z=>by rw[List.mem_singleton.mp z,ht0] at e;cases e)
  refine k y nd' fp' H3 (S3.mono (by omega)) (fun m m0 m1=>?_) s3 (fun b hb=>?_) hy
  ·rw[pv m m0 m1,List.take_length]
   by_cases c:m∈R.map (·.1)
   ·rw[if_pos c]
   ·rw[if_neg c]
    cases e:nd (parts ns m) with
    | none=>rfl
    | some x=>exact absurd (List.mem_map.mpr ⟨(m,x),(lv.2 m x).mpr ⟨m0,by rw[List.take_length,iF];exact m1,by rw[List.take_length];exact e⟩,rfl⟩) c
  ·rcases fr3.2 b hb with w | w
   ·rw[List.mem_singleton.mp w];exact ht0
   ·exact eE s1 (eE s2 w)
end
end K19

set_option maxHeartbeats 4000000
namespace K19
open PySem L2
def drawn (c b p m:Int): Int:=(c%1000000007+1)*b%p / 5%m
theorem d_ (c b p:Int){m:Int}(h:0 < m): 0<=drawn c b p m:=Int.emod_nonneg _ (by omega)
theorem du (c b p:Int){m:Int}(h:0 < m): drawn c b p m < m:=Int.emod_lt_of_pos _ h
def lI:Sp:=fun vs H Q _=>∃c b p m:Int,vs=[.int c,.int b,.int p,.int m]/\(-(2^64) < b/\b < 2^64)/\0 < p/\0 < m/\Q (.int (drawn c b p m)) H
section
variable {P:Program}{w:World}{K:W.Frag}{mg:Str->Option Value}{base:Heap}{a:Adr}
theorem tm {dvs:List V} (R:cE K mg "_law_drawn" jQ ["_law_cell", "_law_by", "_law_prime", "_law_many"] dvs) (T:Txt w K mg a) :
  HasFn P w K mg base 1 "_law_drawn" ["_law_cell", "_law_by", "_law_prime", "_law_many"] (lI) dvs:=by
 refine R.ok sR (fun vs H Q E h=>?_) (fun f cdv A outer s H vs Q E hr h=>?_)
 ·obtain⟨c,b,p,m,rfl,_⟩:=h
  rfl
 obtain⟨c,b,p,m,rfl,hb,hp,hm,q⟩:=h
 refine⟨_,(@aq _ _ _ (@aG _ _ _ _ (aM eM (aM ql (aM eM (aM qC (aM cB (aM eM (pv 0) aw) aw) (pv 1)) (pv 2)) aw) (pv 3)))),?_⟩
 walk_at "go"
 exact q
end
def CN (K:W.Frag): Sp:=fun vs H Q _=>∃(p:Addr) (ns:List Int) (k:Int),vs=[.ref p,.int k]/\SqL K H p (ns.map V.int)/\0<=k/\Q (.int (ns.getD k.toNat 0)) H
def nW:Sp:=fun vs H Q _=>∃i,vs=[.int i]/\Q (.bl true) H
section
variable {P:Program}{w:World}{K:W.Frag}{mg:Str->Option Value}{base:Heap}{a:Adr}
theorem qi {dvs:List V} (R:cE K mg "_law_cell_at" iu ["_law_script", "_law_k"] dvs) (T:Txt w K mg a) :
  HasFn P w K mg base 1 "_law_cell_at" ["_law_script", "_law_k"] (CN K) dvs:=by
 refine R.ok p9 (fun vs H Q E h=>?_) (fun f cdv A outer s H vs Q E hr h=>?_)
 ·obtain⟨p,ns,k,rfl,_⟩:=h
  rfl
 obtain⟨p,ns,k,rfl,S,h0,q⟩:=h
 refine⟨_,(@ah _ _ _ _ _ (bD (aW Bn (pv 1) (aH aJ (by rfl) T.cT PySem.boot_len (@ae _ _ _ _ _ (pv 0) af rfl)) (bo _)) (@aq _ _ _ (@aG _ _ _ _ (@aX _ _ _ _ _ _ _ aV (pv 0) (pv 1) (fun _ _=>rfl)))) aQ)
   (@aq _ _ _ (@aG _ _ _ _ aw))),?_⟩
 refine⟨_,rfl,_,rfl,p,_,rfl,.inl S,_,_,rfl,rfl,_,rfl,lL (fun c=>?_) fun c=>?_⟩
 ·rw[List.length_map] at c
  exact⟨_,rfl,_,rfl,p,_,_,_,rfl,rfl,S,BQ h0 c,q⟩
 ·rw[List.length_map] at c
  rw[BR (by omega)] at q
  exact q
theorem tD {dvs:List V} (R:cE K mg "_law_whole" jP ["_law_found"] dvs) (T:Txt w K mg a) :
  HasFn P w K mg base 1 "_law_whole" ["_law_found"] (nW) dvs:=by
 refine R.ok sQ (fun vs H Q E h=>?_) (fun f cdv A outer s H vs Q E hr h=>?_)
 ·obtain⟨i,rfl,_⟩:=h
  rfl
 obtain⟨i,rfl,q⟩:=h
 refine⟨_,(@aq _ _ _ (@aG _ _ _ _ (n_ (aH bP (by rfl) T.bw PyProof.Rows.Boot.«isinstance» (@ae _ _ _ _ _ (pv 0) (@ae _ _ _ _ _ (gQ (v:=.ty "int") (by rfl) T.zi PyProof.Rows.Boot.«int» rfl) af rfl) rfl)) (uG (EH (aH bP (by rfl) T.bw PyProof.Rows.Boot.«isinstance» (@ae _ _ _ _ _ (pv 0) (@ae _ _ _ _ _ (gQ (v:=.ty "bool") (by rfl) T.yu PyProof.Rows.Boot.«bool» rfl) af rfl) rfl))))))),?_⟩
 exact⟨_,rfl,.int i,.ty "int",.type "int",true,rfl,rfl,.of (.int i),bh K _,true,rfl,sE ⟨_,rfl,.int i,.ty "bool",.type "int",false,rfl,rfl,.of (.int i),cF K,false,rfl,q⟩⟩
end
def Wid (ns:List Int): Prop:=(ns.length=2\/ns.length=3)/\∀x∈ns,1<=x/\x<=24
def rZ:Sp:=fun vs H Q _=>∃c:Int,vs=[.int c]/\∀(q:Addr) (ns:List Int) (H':Hp),H' q=some (.lst (ns.map V.int))->Wid ns->Same H H'->H q=none->Q (.ref q) H'
theorem xC (ns:List Int)(i:Nat)(h:i<=ns.length): lK (ns.map V.int) (some (i:Int)) none=(ns.drop i).map V.int:=by
 unfold lK
 rw[HT.wk,List.length_map]
 have e:HT.sIx ns.length 0 (some (i:Int))=i:=by
  rw[HT.Dl]
  omega
 rw[e,List.map_drop,List.take_of_length_le (by rw[List.length_drop,List.length_map];exact Nat.le_refl _)]
theorem GA (c:Int): ∃bs:List Int,lK (([48271,69621,16807]:List Int).map V.int) (some (c / 2%2)) none=bs.map V.int/\(bs.length=2\/bs.length=3)/\∀b∈bs,0<=b/\b < 1000000:=by
 have h:c / 2%2=0\/c / 2%2=1:=by omega
 rcases h with h | h
 ·rw[h];exact⟨_,xC [48271,69621,16807] 0 (by decide),by decide,by decide⟩
 ·rw[h];exact⟨_,xC [48271,69621,16807] 1 (by decide),by decide,by decide⟩
theorem FD (c:Int): ∃m:Int,atI [V.int 3,V.int 24] (c%2)=some (.int m)/\1<=m/\m<=24:=by
 have h:c%2=0\/c%2=1:=by omega
 rcases h with h | h
 ·rw[h];exact⟨3,rfl,by decide,by decide⟩
 ·rw[h];exact⟨24,rfl,by decide,by decide⟩
section
variable {P:Program}{w:World}{K:W.Frag}{mg:Str->Option Value}{base:Heap}{a:Adr}
theorem se {dvs:List V} (R:cE K mg "_law_widths" i7 ["_law_cell"] dvs) (T:Txt w K mg a)
  (aL:HasFn P w K mg base 1 "_law_drawn" ["_law_cell", "_law_by", "_law_prime", "_law_many"] (lI) []) :
  HasFn P w K mg base 2 "_law_widths" ["_law_cell"] (rZ) dvs:=by
 refine R.ok iw (fun vs H Q E h=>?_) (fun f cdv A outer s H vs Q E hr h=>?_)
 ·obtain⟨c,rfl,_⟩:=h
  rfl
 obtain⟨c,rfl,k⟩:=h
 refine⟨_,(ah (aI (i:=1) iw.nd rfl (by first | exact Or.inl rfl | exact Or.inr rfl) (aX aV (eh (ae aw (ae aw af rfl) rfl)) (aM eM (pv 0) aw) (fun _ _=>rfl)))
   (ah (aI (i:=2) iw.nd rfl (by first | exact Or.inl rfl | exact Or.inr rfl) (eh (ae aw (ae aw (ae aw af rfl) rfl) rfl)))
   (aq (aG (qt (xs:=["_law_by"]) (N':=["_law_cell", "_law_most", "_law_bys"]) rfl ⟨rfl,by decide +kernel,by decide +kernel,by dsimp only [dJ,PyProof.Rows.envOfC];decide +kernel,by decide +kernel,by dsimp only [dJ];decide +kernel,rfl⟩ (eY (fZ yR (pv 2) (gR (aM eM (aM ql (pv 0) aw) aw)) jE)) (fun _ _ _ _ _=>(bn (i:=0) (by dsimp only [c9];decide +kernel) rfl (by first | exact Or.inl rfl | exact Or.inr rfl))) (fun _ _ _ _ _=>mW) (fun _ _ _ _ _=>(aM cB aw (bv aL (hr.mono (by decide)) (by rfl) gY (ae (pv 1) (ae (pv 0) (ae aw (ae (pv 2) af rfl) rfl) rfl) rfl))))))))),?_⟩
 obtain⟨m,em,m1,m24⟩:=FD c
 obtain⟨bs,eb,lb,bb⟩:=GA c
 walk_at "go"
 intro u hu
 generalize hh:upd _ u _=H1
 obtain⟨s1,e1⟩:=b7 hu hh
 clear hh
 walk_at "go"
 intro v hv
 generalize hh:upd _ v _=H2
 obtain⟨s2,e2⟩:=b7 hv hh
 clear hh
 walk_at "go"
 intro x hx
 have eb':lK [V.int 48271,V.int 69621,V.int 16807] (some (c / 2%2)) none=bs.map V.int:=eb
 rw[eb']
 generalize hh:upd _ x _=H3
 obtain⟨s3,e3⟩:=b7 hx hh
 clear hh
 walk_at "go"
 intro acc hacc
 refine Af hacc (fun z=>match z with | .int b=>.int (1+drawn c b 99991 m) | _=>.non) (fun _=>true) (SqL.of e3) (by rw[List.length_map,sizeLine_eq];omega) (fun i z ys hz R r=>r) (fun i z ys hz _ R r=>?_) ?_
 ·obtain⟨b,rfl,hb⟩:=cW hz
  have b1:=bb b (List.mem_of_getElem? hb)
  have bd:-(2^64) < b/\b < 2^64:=by omega
  have mp:0 < m:=by omega
  walk_at "go"
  exact r
 ·have e:((bs.map V.int).filter fun _=>true).map (fun z=>match z with | .int b=>V.int (1+drawn c b 99991 m) | _=>.non)=(bs.map fun b=>1+drawn c b 99991 m).map V.int:=by
   rw[filter_tt,List.map_map,List.map_map]
   rfl
  rw[e]
  have h0:H acc=none:=(s1.trans (s2.trans s3)).free hacc
  refine k acc _ _ aj ⟨by rw[List.length_map];exact lb,fun x hx=>?_⟩ ((s1.trans (s2.trans s3)).trans (aB hacc)) h0
  rw[List.mem_map] at hx
  obtain⟨b,_,rfl⟩:=hx
  have d0:=d_ c b 99991 (m:=m) (by omega)
  have d1:=du c b 99991 (m:=m) (by omega)
  omega
end
theorem AJ {n:Int}(h0:0<=n)(h1:n < 26): ∃c:Nat,atI (Str.ofString "abcdefghijklmnopqrstuvwxyz").cps.toList n=some c/\c < 0x110000:=by
 have hl:(Str.ofString "abcdefghijklmnopqrstuvwxyz").cps.toList.length=26:=by decide +kernel
 have ha:∀x∈(Str.ofString "abcdefghijklmnopqrstuvwxyz").cps.toList,x < 0x110000:=by decide +kernel
 have e:n=((n.toNat:Nat):Int):=by omega
 have hk:n.toNat < (Str.ofString "abcdefghijklmnopqrstuvwxyz").cps.toList.length:=by omega
 refine⟨_,?_,ha _ (List.getElem_mem hk)⟩
 have q:=dN (List.getElem?_eq_getElem hk)
 rw[<-e] at q
 exact q
theorem xD {α:Type}{c:α}: ∀{n:Nat} {a b:Array α},c∈(List.replicate n a).foldl (·++·) b->c∈b\/c∈a
 | 0,a,b,h=>.inl h
 | n+1,a,b,h=>by
  rw[List.replicate_succ,List.foldl_cons] at h
  rcases xD h with z | z
  ·exact Array.mem_append.mp z
  ·exact .inr z
theorem AK {ch:Nat}(h:ch < 0x110000)(n:Int): nO (Txt.mul ⟨#[ch]⟩ n):=by
 unfold nO
 simp only [PyData.canLay0]
 unfold PyData.strOk
 rw[Array.all_eq_true_iff_forall_mem]
 intro c hc
 have:c=ch:=by
  unfold Txt.mul at hc
  split at hc
  ·cases (Array.not_mem_empty c hc)
  ·split at hc
   ·simpa using hc
   ·rcases xD hc with z | z
    ·cases (Array.not_mem_empty c z)
    ·simpa using z
 simp[this,h]
def xE:Sp:=fun vs H Q _=>∃c:Int,vs=[.int c]/\∀x:Str,nO x->Q (.str x) H
section
variable {P:Program}{w:World}{K:W.Frag}{mg:Str->Option Value}{base:Heap}{a:Adr}
theorem vL {dvs:List V} (R:cE K mg "_law_name" kL ["_law_number"] dvs) (T:Txt w K mg a) :
  HasFn P w K mg base 1 "_law_name" ["_law_number"] (xE) dvs:=by
 refine R.ok vj (fun vs H Q E h=>?_) (fun f cdv A outer s H vs Q E hr h=>?_)
 ·obtain⟨c,rfl,_⟩:=h
  rfl
 obtain⟨c,rfl,k⟩:=h
 refine⟨_,(@aq _ _ _ (@aG _ _ _ _ (aM DQ (@aX _ _ _ _ _ _ _ E2 b5 (aM eM (pv 0) aw) (fun _ _=>rfl)) (aM cB aw (aM eM (aM ql (pv 0) aw) aw))))),?_⟩
 obtain⟨ch,e1,e2⟩:=AJ (Int.emod_nonneg c (show (26:Int)≠0 by decide)) (Int.emod_lt_of_pos c (show (0:Int) < 26 by decide))
 have ll:(Str.ofString "abcdefghijklmnopqrstuvwxyz").length<=sizeLine:=by rw[sizeLine_eq];decide +kernel
 have l1:(⟨#[ch]⟩:Str).length<=1000:=by show 1<=1000;decide
 have n1:1<=1+c / 26%8:=by omega
 have n2:1+c / 26%8<=1000:=by omega
 walk_at "go"
 exact k _ (AK e2 _)
end
def vM (a:Adr): Sp:=fun vs H Q _=>∃(t:Addr) (g:Lf),vs=[.ref t]/\H t=some (.tup g.row)/\OkR g.rights/\∀y H',dn a H' y g->Same H H'->H y=none->Q (.ref y) H'
def CO:Sp:=fun vs H Q _=>∃c:Int,vs=[.int c]/\∀t (g:Lf) H',H' t=some (.tup g.row)->g.ok->OkR g.rights->Same H H'->H t=none->Q (.ref t) H'
theorem D5 (c b p:Int): OkR (drawn c b p 4):=⟨d_ c b p (by decide),by have:=du c b p (show (0:Int) < 4 by decide);omega⟩
section
variable {P:Program}{w:World}{K:W.Frag}{mg:Str->Option Value}{base:Heap}{a:Adr}
theorem vN {dvs:List V} (R:cE K mg "_law_leaf" kM ["_law_row_here"] dvs) (T:Txt w K mg a)
  (cI:eB P w K mg base a.bp 2 ["self", "rights"] (fP a K) [])
  (cU:eB P w K mg base a.bC 3 ["self", "rights", "frame"] (mC a) [])
  (dq:eB P w K mg base a.b9 3 ["self", "rights", "slot"] (oX a) [])
  (cJ:eB P w K mg base a.aZ 3 ["self", "rights", "name", "part"] (kZ a) []) :
  HasFn P w K mg base 5 "_law_leaf" ["_law_row_here"] (vM a) dvs:=by
 refine R.ok vm (fun vs H Q E h=>?_) (fun f cdv A outer s H vs Q E hr h=>?_)
 ·obtain⟨t,g,rfl,_⟩:=h
  rfl
 obtain⟨t,g,rfl,ht,ok,k⟩:=h
 refine⟨_,(@ah _ _ _ _ _ (bD (aW fb (@aX _ _ _ _ _ _ _ ck (pv 0) aw (fun _ _=>rfl)) b5 (bo _)) (@aq _ _ _ (@aG _ _ _ _ (j8 cI (hr.mono (by decide)) (by rfl) T.zf ao (@ae _ _ _ _ _ (@aX _ _ _ _ _ _ _ ck (pv 0) aw (fun _ _=>rfl)) af rfl)))) aQ)
   (@ah _ _ _ _ _ (bD (aW fb (@aX _ _ _ _ _ _ _ ck (pv 0) aw (fun _ _=>rfl)) b5 (bo _)) (@aq _ _ _ (@aG _ _ _ _ (j8 cU (hr.mono (by decide)) (by rfl) T.Cw ao (@ae _ _ _ _ _ (@aX _ _ _ _ _ _ _ ck (pv 0) aw (fun _ _=>rfl)) (@ae _ _ _ _ _ (@aX _ _ _ _ _ _ _ ck (pv 0) aw (fun _ _=>rfl)) af rfl) rfl)))) aQ)
   (@ah _ _ _ _ _ (bD (aW fb (@aX _ _ _ _ _ _ _ ck (pv 0) aw (fun _ _=>rfl)) b5 (bo _)) (@aq _ _ _ (@aG _ _ _ _ (j8 dq (hr.mono (by decide)) (by rfl) T.Eu ao (@ae _ _ _ _ _ (@aX _ _ _ _ _ _ _ ck (pv 0) aw (fun _ _=>rfl)) (@ae _ _ _ _ _ (@aX _ _ _ _ _ _ _ ck (pv 0) aw (fun _ _=>rfl)) af rfl) rfl)))) aQ)
   (@aq _ _ _ (@aG _ _ _ _ (j8 cJ (hr.mono (by decide)) (by rfl) T.zg ao (@ae _ _ _ _ _ (@aX _ _ _ _ _ _ _ ck (pv 0) aw (fun _ _=>rfl)) (@ae _ _ _ _ _ (@aX _ _ _ _ _ _ _ ck (pv 0) aw (fun _ _=>rfl)) (@ae _ _ _ _ _ (@aX _ _ _ _ _ _ _ ck (pv 0) aw (fun _ _=>rfl)) af rfl) rfl) rfl))))))),?_⟩
 cases g with
 | fresh r =>
  have ht':H t=some (.tup [.str "fresh",.int r]):=ht
  walk_at "go"
  intro x dx hx hdx nx
  refine⟨x,dx,a.bp,r,rfl,aj,T.dD,T.dh,fun _=>⟨rfl,?_⟩,fun z=>absurd ok z⟩
  rw[dZ]
  exact k x _ ⟨dx,aj⟩ (fun b u eb=>by rw[av (ay eb hx),av (ay eb hdx)];exact eb) hx
 | named r n p =>
  have ht':H t=some (.tup [.str "named",.int r,.str n,.int p]):=ht
  walk_at "go"
  intro x dx hx hdx nx
  refine⟨x,dx,r,p,n,rfl,aj,fun _=>⟨rfl,?_⟩,fun z=>absurd ok z⟩
  rw[dZ]
  exact k x _ ⟨dx,aj⟩ (fun b u eb=>by rw[av (ay eb hx),av (ay eb hdx)];exact eb) hx
 | held r f1 =>
  have ht':H t=some (.tup [.str "held",.int r,.int f1]):=ht
  walk_at "go"
  intro x dx hx hdx nx
  refine⟨x,dx,r,f1,rfl,aj,fun _=>⟨rfl,?_⟩,fun z=>absurd ok z⟩
  rw[dZ]
  exact k x _ ⟨dx,aj⟩ (fun b u eb=>by rw[av (ay eb hx),av (ay eb hdx)];exact eb) hx
 | out r f1 =>
  have ht':H t=some (.tup [.str "out",.int r,.int f1]):=ht
  walk_at "go"
  intro x dx hx hdx nx
  refine⟨x,dx,r,f1,rfl,aj,fun _=>⟨rfl,?_⟩,fun z=>absurd ok z⟩
  rw[dZ]
  exact k x _ ⟨dx,aj⟩ (fun b u eb=>by rw[av (ay eb hx),av (ay eb hdx)];exact eb) hx
theorem xF {dvs:List V} (R:cE K mg "_law_row" mo ["_law_cell"] dvs) (T:Txt w K mg a)
  (aL:HasFn P w K mg base 1 "_law_drawn" ["_law_cell", "_law_by", "_law_prime", "_law_many"] (lI) [])
  (k_:HasFn P w K mg base 1 "_law_name" ["_law_number"] (xE) []) :
  HasFn P w K mg base 2 "_law_row" ["_law_cell"] (CO) dvs:=by
 refine R.ok iP (fun vs H Q E h=>?_) (fun f cdv A outer s H vs Q E hr h=>?_)
 ·obtain⟨c,rfl,_⟩:=h
  rfl
 obtain⟨c,rfl,k⟩:=h
 refine⟨_,(@ah _ _ _ _ _ (@aI _ _ 1 _ _ _ _ iP.nd rfl (by first | exact Or.inl rfl | exact Or.inr rfl) (bv aL (hr.mono (by decide)) (by rfl) ao (@ae _ _ _ _ _ (pv 0) (@ae _ _ _ _ _ aw (@ae _ _ _ _ _ aw (@ae _ _ _ _ _ aw af rfl) rfl) rfl) rfl)) (by rfl) (by first | exact Or.inl rfl | exact Or.inr rfl))
   (@ah _ _ _ _ _ (@aI _ _ 2 _ _ _ _ iP.nd rfl (by first | exact Or.inl rfl | exact Or.inr rfl) (bv aL (hr.mono (by decide)) (by rfl) ao (@ae _ _ _ _ _ (pv 0) (@ae _ _ _ _ _ aw (@ae _ _ _ _ _ aw (@ae _ _ _ _ _ aw af rfl) rfl) rfl) rfl)) (by rfl) (by first | exact Or.inl rfl | exact Or.inr rfl))
   (@ah _ _ _ _ _ (@aI _ _ 3 _ _ _ _ iP.nd rfl (by first | exact Or.inl rfl | exact Or.inr rfl) (bv aL (hr.mono (by decide)) (by rfl) ao (@ae _ _ _ _ _ (pv 0) (@ae _ _ _ _ _ aw (@ae _ _ _ _ _ aw (@ae _ _ _ _ _ aw af rfl) rfl) rfl) rfl)) (by rfl) (by first | exact Or.inl rfl | exact Or.inr rfl))
   (@ah _ _ _ _ _ (bD (aW fb (pv 1) aw (bo _)) (@aq _ _ _ (@aG _ _ _ _ (@c8 _ _ _ _ _ (@ae _ _ _ _ _ b5 (@ae _ _ _ _ _ (pv 3) (@ae _ _ _ _ _ (bv k_ (hr.mono (by decide)) (by rfl) ao (@ae _ _ _ _ _ (pv 0) af rfl)) (@ae _ _ _ _ _ (pv 2) af rfl) rfl) rfl) rfl)))) aQ)
   (@ah _ _ _ _ _ (bD (aW fb (pv 1) aw (bo _)) (@aq _ _ _ (@aG _ _ _ _ (@c8 _ _ _ _ _ (@ae _ _ _ _ _ b5 (@ae _ _ _ _ _ (pv 3) af rfl) rfl)))) aQ)
   (@aq _ _ _ (@aG _ _ _ _ (@c8 _ _ _ _ _ (@ae _ _ _ _ _ (@aX _ _ _ _ _ _ _ aV (@eh _ _ _ _ (@ae _ _ _ _ _ b5 (@ae _ _ _ _ _ b5 af rfl) rfl)) (aM iZ (pv 1) aw) (fun _ _=>rfl)) (@ae _ _ _ _ _ (pv 3) (@ae _ _ _ _ _ (pv 2) af rfl) rfl) rfl))))))))),?_⟩
 have k0:=d_ c 25173 99907 (show (0:Int) < 4 by decide)
 have k4:=du c 25173 99907 (show (0:Int) < 4 by decide)
 have okr:=D5 c 30269 99923
 walk_at "go"
 generalize drawn c 25173 99907 4=kd at k0 k4
 generalize drawn c 40692 99929 64=nb
 generalize drawn c 30269 99923 4=rr at okr
 refine Ga (fun z=>?_) (fun z=>?_)
 ·walk_at "go"
  intro x okx
  walk_at "go"
  intro t ht
  exact k t (.named rr x nb) _ aj okx okr (aB ht) ht
 walk_at "go"
 refine Ga (fun z1=>?_) (fun z1=>?_)
 ·walk_at "go"
  intro t ht
  exact k t (.fresh rr) _ aj trivial okr (aB ht) ht
 ·have h12:kd=1\/kd=2:=by omega
  rcases h12 with rfl | rfl
  ·walk_at "go"
   intro u hu
   generalize hh:upd _ u _=H1
   obtain⟨s1,e1⟩:=b7 hu hh
   clear hh
   walk_at "go"
   intro t ht
   exact k t (.held rr nb) _ aj trivial okr (s1.trans (aB ht)) (s1.free ht)
  ·walk_at "go"
   intro u hu
   generalize hh:upd _ u _=H1
   obtain⟨s1,e1⟩:=b7 hu hh
   clear hh
   walk_at "go"
   intro t ht
   exact k t (.out rr nb) _ aj trivial okr (s1.trans (aB ht)) (s1.free ht)
end
end K19

set_option maxHeartbeats 4000000
namespace K19
open PySem L2
theorem D6 (K:W.Frag): W.kitOne K (.type "int") (.type "str")=some false:=Fi (by decide) (by decide +kernel) (by decide +kernel)
theorem FE {g:Lf}{i:Nat}{v:V}(h:g.row[i]?=some v): (∃n,v=.int n)\/∃x,v=.str x:=by
 have hm:=List.mem_of_getElem? h
 cases g<;>simp[Lf.row] at hm
 ·rcases hm with rfl | rfl
  ·exact .inr ⟨_,rfl⟩
  ·exact .inl ⟨_,rfl⟩
 ·rcases hm with rfl | rfl | rfl
  ·exact .inr ⟨_,rfl⟩
  ·exact .inl ⟨_,rfl⟩
  ·exact .inl ⟨_,rfl⟩
 ·rcases hm with rfl | rfl | rfl
  ·exact .inr ⟨_,rfl⟩
  ·exact .inl ⟨_,rfl⟩
  ·exact .inl ⟨_,rfl⟩
 ·rcases hm with rfl | rfl | rfl | rfl
  ·exact .inr ⟨_,rfl⟩
  ·exact .inl ⟨_,rfl⟩
  ·exact .inr ⟨_,rfl⟩
  ·exact .inl ⟨_,rfl⟩
theorem D7 (g:Lf): g.row.length<=4:=by cases g<;>simp[Lf.row]
theorem FG {g:Lf}(ok:g.ok){i:Nat}{x:Str}(h:g.row[i]?=some (.str x)): nO x:=by
 have hm:=List.mem_of_getElem? h
 cases g<;>simp[Lf.row] at hm
 ·rw[hm];unfold nO;decide +kernel
 ·rw[hm];unfold nO;decide +kernel
 ·rw[hm];unfold nO;decide +kernel
 ·rcases hm with rfl | rfl
  ·unfold nO;decide +kernel
  ·exact ok
def nX:Sp:=fun vs H Q _=>∃(v t:Addr) (g:Lf),vs=[.ref v,.ref t]/\H v=some (.tup g.row)/\H t=some (.tup g.row)/\g.ok/\Q (.bl true) H
section
variable {P:Program}{w:World}{K:W.Frag}{mg:Str->Option Value}{base:Heap}{a:Adr}
theorem vO {dvs:List V} (R:cE K mg "_law_like" kN ["_law_found", "_law_due"] dvs) (T:Txt w K mg a)
  (bA:HasFn P w K mg base 1 "_law_whole" ["_law_found"] (nW) []) :
  HasFn P w K mg base 2 "_law_like" ["_law_found", "_law_due"] (nX) dvs:=by
 refine R.ok nu (fun vs H Q E h=>?_) (fun f cdv A outer s H vs Q E hr h=>?_)
 ·obtain⟨v,t,g,rfl,_⟩:=h
  rfl
 obtain⟨v,t,g,rfl,hv,ht,ok,k⟩:=h
 refine⟨_,(@ah _ _ _ _ _ (bD (PW.pt (jn (cA (dI (aH bP (by rfl) T.bw PyProof.Rows.Boot.«isinstance» (@ae _ _ _ _ _ (pv 0) (@ae _ _ _ _ _ (gQ (v:=.ty "tuple") (by rfl) T.lE PyProof.Rows.Boot.«tuple» rfl) af rfl) rfl)))) (g6 (aW lT (aH aJ (by rfl) T.cT PySem.boot_len (@ae _ _ _ _ _ (pv 0) af rfl)) (aH aJ (by rfl) T.cT PySem.boot_len (@ae _ _ _ _ _ (pv 1) af rfl)) (bo _))))) (@aq _ _ _ (@aG _ _ _ _ eR)) aQ)
   (@ah _ _ _ _ _ (cM bU rfl (fG (by rfl) T.eI (@ae _ _ _ _ _ (aH aJ (by rfl) T.cT PySem.boot_len (@ae _ _ _ _ _ (pv 1) af rfl)) af rfl)) (bn (i:=2) nu.nd rfl (by first | exact Or.inl rfl | exact Or.inr rfl))
   (@ah _ _ _ _ _ (bD (PW.pt (jn (aW lT (aH bP (by rfl) T.bw PyProof.Rows.Boot.«isinstance» (@ae _ _ _ _ _ (@aX _ _ _ _ _ _ _ ck (pv 1) (pv 2) (fun _ _=>rfl)) (@ae _ _ _ _ _ (gQ (v:=.ty "str") (by rfl) T.xh PyProof.Rows.Boot.«str» rfl) af rfl) rfl)) (aH bP (by rfl) T.bw PyProof.Rows.Boot.«isinstance» (@ae _ _ _ _ _ (@aX _ _ _ _ _ _ _ ck (pv 0) (pv 2) (fun _ _=>rfl)) (@ae _ _ _ _ _ (gQ (v:=.ty "str") (by rfl) T.xh PyProof.Rows.Boot.«str» rfl) af rfl) rfl)) (bo _)) (g6 (aW lT (@aX _ _ _ _ _ _ _ ck (pv 0) (pv 2) (fun _ _=>rfl)) (@aX _ _ _ _ _ _ _ ck (pv 1) (pv 2) (fun _ _=>rfl)) (bo _))))) (@aq _ _ _ (@aG _ _ _ _ eR)) aQ)
   (@aq _ _ _ (bD (PW.pt (uF (cA (dI (aH bP (by rfl) T.bw PyProof.Rows.Boot.«isinstance» (@ae _ _ _ _ _ (@aX _ _ _ _ _ _ _ ck (pv 1) (pv 2) (fun _ _=>rfl)) (@ae _ _ _ _ _ (gQ (v:=.ty "str") (by rfl) T.xh PyProof.Rows.Boot.«str» rfl) af rfl) rfl)))) (qk (cA (dI (bv bA (hr.mono (by decide)) (by rfl) ao (@ae _ _ _ _ _ (@aX _ _ _ _ _ _ _ ck (pv 0) (pv 2) (fun _ _=>rfl)) af rfl))))))) (@aq _ _ _ (@aG _ _ _ _ eR)) aQ))))
   (@aq _ _ _ (@aG _ _ _ _ eR)))),?_⟩
 have kt:=bh K (.type "tuple")
 have ks:=bh K (.type "str")
 have kis:=D6 K
 have rl:=D7 g
 have tv:TyE K H (.ref v) (.type "tuple"):=.of (.tup hv)
 walk_at "go"
 refine pO (fun z=>absurd rfl z) (fun _=>?_)
 walk_at "go"
 refine dF (fun i σ H'=>Bx ((∃v2,σ=[some (.ref v),some (.ref t),v2])/\H'=H)) ⟨⟨⟨_,rfl⟩,rfl⟩⟩ ?_ ?_
 ·rintro i σ H2 hi ⟨⟨v2,rfl⟩,rfl⟩
  have il:i < g.row.length:=by simpa using hi
  have ei:g.row[i]?=some g.row[i]:=List.getElem?_eq_getElem il
  generalize g.row[i]=x at ei
  have ai:atI g.row (0+(i:Int))=some x:=by rw[Int.zero_add];exact dN ei
  rcases FE ei with ⟨n,rfl⟩ | ⟨z,rfl⟩
  ·have ti:TyE K H2 (.int n) (.type "int"):=.of (.int n)
   walk_at "go"
   refine pO (fun z=>absurd rfl z) (fun _=>?_)
   walk_at "go"
   exact⟨⟨⟨_,rfl⟩,rfl⟩⟩
  ·have okz:=FG ok ei
   have ti:TyE K H2 (.str z) (.type "str"):=.of (.str z)
   walk_at "go"
   refine pO (fun z=>absurd rfl z) (fun _=>?_)
   walk_at "go"
   exact⟨⟨⟨_,rfl⟩,rfl⟩⟩
 ·rintro σ H2 ⟨⟨v2,rfl⟩,rfl⟩
  walk_at "go"
  exact k
end
structure RwL (H:Hp)(l:Addr)(ts:List Addr)(gs:List Lf): Prop where
 hl:H l=some (.lst (ts.map V.ref))
 len:ts.length=gs.length
 at':∀(i:Nat) t g,ts[i]?=some t->gs[i]?=some g->H t=some (.tup g.row)
theorem RwL.mv {H H':Hp}{l:Addr}{ts:List Addr}{gs:List Lf}(r:RwL H l ts gs)(h:∀zs,H l=some (.lst zs)->H' l=some (.lst zs))(tp:∀t xs,H t=some (.tup xs)->H' t=some (.tup xs)): RwL H' l ts gs :=
 ⟨h _ r.hl,r.len,fun i t g h1 h2=>tp _ _ (r.at' i t g h1 h2)⟩
theorem RwL.same {H H':Hp}{l:Addr}{ts:List Addr}{gs:List Lf}(r:RwL H l ts gs)(s:Same H H'): RwL H' l ts gs:=r.mv (fun _=>s _ _) fun t xs=>s _ _
theorem RwL.eV {H H':Hp}{l:Addr}{ts:List Addr}{gs:List Lf}(r:RwL H l ts gs)(s:bF H H'): RwL H' l ts gs:=r.mv (fun _=>s.lst) fun t xs=>s.tup
structure Lvs (a:Adr)(H:Hp)(xs:List Addr)(gs:List Lf): Prop where
 len:xs.length=gs.length
 at':∀(i:Nat) x g,xs[i]?=some x->gs[i]?=some g->dn a H x g
theorem Lvs.same {a:Adr}{H H':Hp}{xs:List Addr}{gs:List Lf}(r:Lvs a H xs gs)(s:Same H H'): Lvs a H' xs gs:=⟨r.len,fun i x g h1 h2=>(r.at' i x g h1 h2).same s⟩
theorem Lvs.eV {a:Adr}{H H':Hp}{xs:List Addr}{gs:List Lf}(r:Lvs a H xs gs)(s:bF H H'): Lvs a H' xs gs:=⟨r.len,fun i x g h1 h2=>s.lf (r.at' i x g h1 h2)⟩
theorem Lvs.get {a:Adr}{H:Hp}{xs:List Addr}{gs:List Lf}(r:Lvs a H xs gs){i:Nat}{x:Addr}(h:xs[i]?=some x): ∃g,gs[i]?=some g/\dn a H x g:=by
 have il:=(List.getElem?_eq_some_iff.mp h).1
 have e:gs[i]?=some (gs[i]'(by rw[<-r.len];exact il)):=List.getElem?_eq_getElem _
 exact⟨_,e,r.at' i x _ h e⟩
theorem Lvs.mem {a:Adr}{H:Hp}{xs:List Addr}{gs:List Lf}(r:Lvs a H xs gs): ∀x∈xs,∃g,dn a H x g:=fun x hx=>by
 obtain⟨i,il,rfl⟩:=List.mem_iff_getElem.mp hx
 obtain⟨g,_,h⟩:=r.get (List.getElem?_eq_getElem il)
 exact⟨g,h⟩
theorem RwL.snoc {H:Hp}{l t:Addr}{ts:List Addr}{gs:List Lf}{g:Lf}(r:RwL H l ts gs)(ht:H t=some (.tup g.row)): RwL (upd H l (.lst (ts.map V.ref++[.ref t]))) l (ts++[t]) (gs++[g]):=by
 have tl:∀b xs,H b=some (.tup xs)->upd H l (.lst (ts.map V.ref++[.ref t])) b=some (.tup xs):=fun b xs e=>by rw[av fun z=>by rw[z,r.hl] at e;cases e];exact e
 refine⟨by rw[aj,List.map_append];rfl,by rw[List.length_append,List.length_append,r.len];rfl,fun i t' g' h1 h2=>?_⟩
 by_cases c:i < ts.length
 ·rw[List.getElem?_append_left c] at h1
  rw[List.getElem?_append_left (by rw[<-r.len];exact c)] at h2
  exact tl _ _ (r.at' i t' g' h1 h2)
 ·have il:=(List.getElem?_eq_some_iff.mp h1).1
  rw[List.length_append] at il
  have ei:i=ts.length:=by simp at il;omega
  rw[ei,List.getElem?_append_right (Nat.le_refl _),Nat.sub_self] at h1
  rw[ei,r.len,List.getElem?_append_right (Nat.le_refl _),Nat.sub_self] at h2
  cases h1;cases h2
  exact tl _ _ ht
theorem Lvs.snoc {a:Adr}{H:Hp}{x:Addr}{xs:List Addr}{gs:List Lf}{g:Lf}(r:Lvs a H xs gs)(hx:dn a H x g): Lvs a H (xs++[x]) (gs++[g]):=by
 refine⟨by rw[List.length_append,List.length_append,r.len];rfl,fun i t' g' h1 h2=>?_⟩
 by_cases c:i < xs.length
 ·rw[List.getElem?_append_left c] at h1
  rw[List.getElem?_append_left (by rw[<-r.len];exact c)] at h2
  exact r.at' i t' g' h1 h2
 ·have il:=(List.getElem?_eq_some_iff.mp h1).1
  rw[List.length_append] at il
  have ei:i=xs.length:=by simp at il;omega
  rw[ei,List.getElem?_append_right (Nat.le_refl _),Nat.sub_self] at h1
  rw[ei,r.len,List.getElem?_append_right (Nat.le_refl _),Nat.sub_self] at h2
  cases h1;cases h2
  exact hx
theorem Lvs.fE {a:Adr}{H H':Hp}{xs:List Addr}{gs:List Lf}(r:Lvs a H xs gs)(s:dO H H'): Lvs a H' xs gs:=⟨r.len,fun i x g h1 h2=>s.lf (r.at' i x g h1 h2)⟩
theorem bZ.ib {a:Adr}{H:Hp}{p:Addr}{ns:List Int}{low task:Int}{nd:Ix->Option Addr}{fp:List Addr}{cn:Nat}(S:bZ a H p ns low task nd fp cn): ∀π x,nd π=some x->Fit (ns.take π.length) π:=by
 obtain⟨dx,sh,tr,dt,sh2,top,dxs,ts,h1,h2,h3,_⟩:=S
 exact h3.ib
theorem bZ.cov {a:Adr}{H:Hp}{p:Addr}{ns ks:List Int}{low task:Int}{nd:Ix->Option Addr}{fp:List Addr}{cn:Nat}(S:bZ a H p ns low task nd fp cn)(km:∀m,0<=m->m < pgs ns->(nd (parts ns m)).isSome=true->m∈ks): Cov ns.length nd (ks.map (parts ns)):=fun π x h hl=>by
 have f:=S.ib π x h
 rw[hl,List.take_length] at f
 have gl:=y6 S.good.nn f
 have e:=qU f
 exact List.mem_map.mpr ⟨glue (ns.zip π),km _ gl.1 gl.2 (by rw[e,h];rfl),e⟩
abbrev Mf:=Int->Option Lf
def Mf.put (M:Mf)(n:Int)(v:Option Lf): Mf:=fun m=>if m=n then v else M m
theorem Mf.jZ {M:Mf}{n:Int}{v:Option Lf}: M.put n v n=v:=if_pos rfl
theorem Mf.jg {M:Mf}{n m:Int}{v:Option Lf}(h:m≠n): M.put n v m=M m:=if_neg h
structure Ab (a:Adr)(H:Hp)(ns:List Int)(nd:Ix->Option Addr)(M:Mf): Prop where
 no:∀n,0<=n->n < pgs ns->M n=none->nd (parts ns n)=none
 so:∀n g,0<=n->n < pgs ns->M n=some g->∃x,nd (parts ns n)=some x/\dn a H x g
theorem Ab.kept {a:Adr}{H H':Hp}{ns:List Int}{nd:Ix->Option Addr}{M:Mf}(A:Ab a H ns nd M)(s:bF H H'): Ab a H' ns nd M :=
 ⟨A.no,fun n g h1 h2 h3=>let ⟨x,e1,e2⟩:=A.so n g h1 h2 h3;⟨x,e1,s.lf e2⟩⟩
theorem Ab.fE {a:Adr}{H H':Hp}{ns:List Int}{nd:Ix->Option Addr}{M:Mf}(A:Ab a H ns nd M)(s:dO H H'): Ab a H' ns nd M :=
 ⟨A.no,fun n g h1 h2 h3=>let ⟨x,e1,e2⟩:=A.so n g h1 h2 h3;⟨x,e1,s.lf e2⟩⟩
theorem Ab.same {a:Adr}{H H':Hp}{ns:List Int}{nd:Ix->Option Addr}{M:Mf}(A:Ab a H ns nd M)(s:Same H H'): Ab a H' ns nd M:=A.kept (bF.same s)
structure Kp (H:Hp)(d:Addr)(M:Mf)(kvs:List (Key×V))(ks:List Int): Prop where
 h:H d=some (.dK kvs)
 ik:fe kvs ks
 nd:(kvs.map (·.1)).Nodup
 no:∀n,M n=none->bq kvs (.inl n)=none
 so:∀n g,M n=some g->∃t,bq kvs (.inl n)=some (.ref t)/\H t=some (.tup g.row)
theorem Kp.mem {H:Hp}{d:Addr}{M:Mf}{kvs:List (Key×V)}{ks:List Int}(k:Kp H d M kvs ks)(n:Int): n∈ks↔(M n).isSome=true:=by
 rw[fO k.ik]
 cases e:M n with
 | none=>rw[k.no n e];simp
 | some g =>
  obtain⟨t,e1,_⟩:=k.so n g e
  rw[e1];simp
theorem Kp.keep {H H':Hp}{d:Addr}{M:Mf}{kvs:List (Key×V)}{ks:List Int}(k:Kp H d M kvs ks)(s:bF H H')(e:H' d=some (.dK kvs)): Kp H' d M kvs ks :=
 ⟨e,k.ik,k.nd,k.no,fun n g h=>let ⟨t,e1,e2⟩:=k.so n g h;⟨t,e1,s.tup e2⟩⟩
theorem Kp.fE {H H':Hp}{d:Addr}{M:Mf}{kvs:List (Key×V)}{ks:List Int}(k:Kp H d M kvs ks)(s:dO H H'): Kp H' d M kvs ks :=
 ⟨s.dK k.h,k.ik,k.nd,k.no,fun n g h=>let ⟨t,e1,e2⟩:=k.so n g h;⟨t,e1,s.tup e2⟩⟩
theorem Kp.same {H H':Hp}{d:Addr}{M:Mf}{kvs:List (Key×V)}{ks:List Int}(k:Kp H d M kvs ks)(s:Same H H'): Kp H' d M kvs ks:=k.keep (bF.same s) (s _ _ k.h)
theorem Kp.put {H:Hp}{d t:Addr}{M:Mf}{kvs:List (Key×V)}{ks:List Int}{n:Int}{g:Lf}(K:Kp H d M kvs ks)(ht:H t=some (.tup g.row)): ∃ks',Kp (upd H d (.dK (putK kvs (.inl n) (.ref t)))) d (M.put n (some g)) (putK kvs (.inl n) (.ref t)) ks':=by
 obtain⟨⟨ks',ik'⟩,nd'⟩:=rM n (V.ref t) K.ik K.nd
 have nt:∀b xs,H b=some (.tup xs)->upd H d (.dK (putK kvs (.inl n) (.ref t))) b=some (.tup xs):=fun b xs e=>by
  rw[av (fun z=>by rw[z,K.h] at e;cases e)];exact e
 refine⟨ks',aj,ik',nd',fun m h=>?_,fun m g' h=>?_⟩
 ·have c:m≠n:=fun z=>by rw[z,Mf.jZ] at h;cases h
  rw[Mf.jg c] at h
  rw[g_,if_neg (fun z=>c (Sum.inl.inj z))]
  exact K.no m h
 ·by_cases c:m=n
  ·subst c
   rw[Mf.jZ] at h
   cases h
   exact⟨t,by rw[g_,if_pos rfl],nt _ _ ht⟩
  ·rw[Mf.jg c] at h
   obtain⟨t',e1,e2⟩:=K.so m g' h
   exact⟨t',by rw[g_,if_neg (fun z=>c (Sum.inl.inj z))];exact e1,nt _ _ e2⟩
theorem Kp.drop {H:Hp}{d:Addr}{M:Mf}{kvs:List (Key×V)}{ks:List Int}(n:Int)(K:Kp H d M kvs ks): ∃ks',Kp (upd H d (.dK (dA kvs (.inl n)))) d (M.put n none) (dA kvs (.inl n)) ks':=by
 have nt:∀b xs,H b=some (.tup xs)->upd H d (.dK (dA kvs (.inl n))) b=some (.tup xs):=fun b xs e=>by
  rw[av (fun z=>by rw[z,K.h] at e;cases e)];exact e
 refine⟨_,aj,lG K.ik,?_,fun m h=>?_,fun m g' h=>?_⟩
 ·have q:=lG (k:=n) K.ik
  have q2:((ks.filter fun j=>decide (j≠n)).map (Sum.inl:Int->Key)).Nodup:=List.pairwise_map.mpr ((nM K.ik K.nd).filter _ |>.imp fun h z=>h (Sum.inl.inj z))
  rw[q];exact q2
 ·rw[jY]
  by_cases c:m=n
  ·rw[if_pos (by rw[c])]
  ·rw[if_neg (fun z=>c (Sum.inl.inj z))]
   rw[Mf.jg c] at h
   exact K.no m h
 ·have c:m≠n:=fun z=>by rw[z,Mf.jZ] at h;cases h
  rw[Mf.jg c] at h
  obtain⟨t',e1,e2⟩:=K.so m g' h
  exact⟨t',by rw[jY,if_neg (fun z=>c (Sum.inl.inj z))];exact e1,nt _ _ e2⟩
def Mf.lay (M:Mf)(n:Int)(gs:List Lf): Mf:=fun m=>if n<=m/\m < n+gs.length then gs[(m-n).toNat]? else M m
def Mf.gone (M:Mf)(n k:Int): Mf:=fun m=>if n<=m/\m < n+k then none else M m
def Mf.chg (M:Mf)(n k r:Int): Mf:=fun m=>if n<=m/\m < n+k then (M m).map (Lf.lZ r) else M m
theorem Ab.put {a:Adr}{H H':Hp}{ns:List Int}{low:Int}{nd nd':Ix->Option Addr}{M:Mf}{n:Int}{g:Lf}{x:Addr}(A:Ab a H ns nd M)(gd:Good ns low)(k:bF H H')(n0:0<=n)(n1:n < pgs ns)(P:Put nd (parts ns n) x nd')(lf:dn a H' x g): Ab a H' ns nd' (M.put n (some g)):=by
 refine⟨fun m h1 h2 h3=>?_,fun m g' h1 h2 h3=>?_⟩
 ·have c:m≠n:=fun z=>by rw[z,Mf.jZ] at h3;cases h3
  rw[Mf.jg c] at h3
  rw[P.page gd n0 n1 h1 h2,if_neg c]
  exact A.no m h1 h2 h3
 ·rw[P.page gd n0 n1 h1 h2]
  by_cases c:m=n
  ·rw[if_pos c]
   rw[c,Mf.jZ] at h3
   cases h3
   exact⟨x,rfl,lf⟩
  ·rw[if_neg c]
   rw[Mf.jg c] at h3
   obtain⟨y,e1,e2⟩:=A.so m g' h1 h2 h3
   exact⟨y,e1,k.lf e2⟩
theorem Ab.lay {a:Adr}{H H':Hp}{ns:List Int}{nd nd':Ix->Option Addr}{M:Mf}{n:Int}{xs:List Addr}{gs:List Lf}(A:Ab a H ns nd M)(k:bF H H')(pv:∀m,0<=m->m < pgs ns->nd' (parts ns m)=eF (fun m=>nd (parts ns m)) n xs m)(lv:Lvs a H' xs gs): Ab a H' ns nd' (M.lay n gs):=by
 refine⟨fun m h1 h2 h3=>?_,fun m g' h1 h2 h3=>?_⟩
 ·rw[pv m h1 h2]
  unfold eF
  unfold Mf.lay at h3
  by_cases c:n<=m/\m < n+gs.length
  ·rw[if_pos c] at h3
   rw[List.getElem?_eq_getElem (by omega)] at h3
   cases h3
  ·rw[if_neg c] at h3
   rw[lv.len,if_neg c]
   exact A.no m h1 h2 h3
 ·rw[pv m h1 h2]
  unfold eF
  unfold Mf.lay at h3
  by_cases c:n<=m/\m < n+gs.length
  ·rw[if_pos c] at h3
   rw[lv.len,if_pos c]
   have e:xs[(m-n).toNat]?=some (xs[(m-n).toNat]'(by rw[lv.len];omega)):=List.getElem?_eq_getElem _
   exact⟨_,e,lv.at' _ _ _ e h3⟩
  ·rw[if_neg c] at h3
   rw[lv.len,if_neg c]
   obtain⟨y,e1,e2⟩:=A.so m g' h1 h2 h3
   exact⟨y,e1,k.lf e2⟩
theorem Ab.gone {a:Adr}{H H':Hp}{ns:List Int}{nd nd':Ix->Option Addr}{M:Mf}{n j:Int}(A:Ab a H ns nd M)(k:bF H H')(pv:∀m,0<=m->m < pgs ns->nd' (parts ns m)=nV (fun m=>nd (parts ns m)) n j m): Ab a H' ns nd' (M.gone n j):=by
 refine⟨fun m h1 h2 h3=>?_,fun m g' h1 h2 h3=>?_⟩
 ·rw[pv m h1 h2]
  unfold nV
  unfold Mf.gone at h3
  by_cases c:n<=m/\m < n+j
  ·rw[if_pos c]
  ·rw[if_neg c] at h3
   rw[if_neg c]
   exact A.no m h1 h2 h3
 ·rw[pv m h1 h2]
  unfold nV
  unfold Mf.gone at h3
  by_cases c:n<=m/\m < n+j
  ·rw[if_pos c] at h3;cases h3
  ·rw[if_neg c] at h3
   rw[if_neg c]
   obtain⟨y,e1,e2⟩:=A.so m g' h1 h2 h3
   exact⟨y,e1,k.lf e2⟩
theorem Ab.chg {a:Adr}{H H':Hp}{ns:List Int}{nd nd':Ix->Option Addr}{M:Mf}{n j r:Int}{ys:List Addr}(A:Ab a H ns nd M)(k:bF H H')(yl:(ys.length:Int)=j)(all:∀i:Nat,(i:Int) < j->(nd (parts ns (n+i))).isSome=true)
  (ly:∀(i:Nat) x y g,nd (parts ns (n+i))=some x->dn a H x g->ys[i]?=some y->dn a H' y (g.lZ r)) (pv:∀m,0<=m->m < pgs ns->nd' (parts ns m)=eF (fun m=>nd (parts ns m)) n ys m):Ab a H' ns nd' (M.chg n j r):=by
 refine⟨fun m h1 h2 h3=>?_,fun m g' h1 h2 h3=>?_⟩
 ·rw[pv m h1 h2]
  unfold eF
  unfold Mf.chg at h3
  rw[yl]
  by_cases c:n<=m/\m < n+j
  ·rw[if_pos c,Option.map_eq_none_iff] at h3
   have:=all (m-n).toNat (by omega)
   rw[show n+((m-n).toNat:Int)=m by omega,A.no m h1 h2 h3] at this
   cases this
  ·rw[if_neg c] at h3
   rw[if_neg c]
   exact A.no m h1 h2 h3
 ·rw[pv m h1 h2]
  unfold eF
  unfold Mf.chg at h3
  rw[yl]
  by_cases c:n<=m/\m < n+j
  ·rw[if_pos c,Option.map_eq_some_iff] at h3
   obtain⟨g,hg,rfl⟩:=h3
   obtain⟨x,e1,e2⟩:=A.so m g h1 h2 hg
   rw[if_pos c]
   have e:ys[(m-n).toNat]?=some (ys[(m-n).toNat]'(by omega)):=List.getElem?_eq_getElem _
   exact⟨_,e,ly (m-n).toNat x _ g (by rw[show n+((m-n).toNat:Int)=m by omega];exact e1) e2 e⟩
  ·rw[if_neg c] at h3
   rw[if_neg c]
   obtain⟨y,e1,e2⟩:=A.so m g' h1 h2 h3
   exact⟨y,e1,k.lf e2⟩
theorem Ab.isS {a:Adr}{H:Hp}{ns:List Int}{nd:Ix->Option Addr}{M:Mf}(A:Ab a H ns nd M){m:Int}(h1:0<=m)(h2:m < pgs ns): (nd (parts ns m)).isSome=(M m).isSome:=by
 cases e:M m with
 | none=>rw[A.no m h1 h2 e];rfl
 | some g=>obtain⟨x,e1,_⟩:=A.so m g h1 h2 e;rw[e1];rfl
theorem Ab.leaf {a:Adr}{H:Hp}{ns:List Int}{nd:Ix->Option Addr}{M:Mf}(A:Ab a H ns nd M){m:Int}{x:Addr}(h1:0<=m)(h2:m < pgs ns)(h:nd (parts ns m)=some x): ∃g,M m=some g/\dn a H x g:=by
 cases e:M m with
 | none=>rw[A.no m h1 h2 e] at h;cases h
 | some g=>obtain⟨y,e1,e2⟩:=A.so m g h1 h2 e;rw[e1] at h;cases h;exact⟨g,rfl,e2⟩
theorem bZ.Hx {a:Adr}{H H':Hp}{p d:Addr}{ns:List Int}{low task:Int}{nd:Ix->Option Addr}{fp:List Addr}{cn:Nat}{kv:List (Key×V)}(S:bZ a H p ns low task nd fp cn)(k:∀b u,H b=some u->b≠d->H' b=some u)(nf:d∉fp)(hd:H d=some (.dK kv)): bZ a H' p ns low task nd fp cn:=by
 have ki:∀b C dx fs,H b=some (.ins C dx fs)->H' b=some (.ins C dx fs):=fun b C dx fs e=>k b _ e (fun z=>by rw[z,hd] at e;cases e)
 have kt:∀b ys,H b=some (.tup ys)->H' b=some (.tup ys):=fun b ys e=>k b _ e (fun z=>by rw[z,hd] at e;cases e)
 obtain⟨dx,sh,tr,dt,sh2,top,dxs,ts,h1,h2,h3,h4,h4',h5⟩:=S
 refine⟨dx,sh,tr,dt,sh2,top,dxs,ts,ki _ _ _ _ h1,ki _ _ _ _ h2,?_,ki _ _ _ _ h4,kt _ _ h4',h5⟩
 obtain⟨⟨dy,sh,top,q1,⟨dz,tz,q2,q3⟩,q4⟩,g,fu,ib⟩:=h3
 exact⟨⟨dy,sh,top,ki _ _ _ _ q1,⟨dz,tz,ki _ _ _ _ q2,kt _ _ q3⟩,q4.keep fun b u e m=>k b u e (fun z=>nf (z ▸ m))⟩,g,fu,ib⟩
theorem FH (M:Mf)(f r:Int)(i:Nat): (M.chg f i r) (f+i)=M (f+i):=by unfold Mf.chg;rw[if_neg (by omega)]
theorem CP (M:Mf)(f r:Int): M.chg f ((0:Nat):Int) r=M:=funext fun m=>by unfold Mf.chg;rw[if_neg (by omega)]
theorem CQ {M:Mf}{f r:Int}{i:Nat}{g:Lf}(h:M (f+i)=some g): (M.chg f i r).put (f+i) (some (g.lZ r))=M.chg f ((i+1:Nat):Int) r:=funext fun m=>by
 unfold Mf.chg
 by_cases c:m=f+i
 ·rw[c,Mf.jZ,if_pos (by omega),h];rfl
 ·rw[Mf.jg c]
  by_cases c2:f<=m/\m < f+i
  ·rw[if_pos c2,if_pos (by omega)]
  ·rw[if_neg c2,if_neg (by omega)]
theorem CU (g:Lf)(r:Int): ∃s,atI g.row 0=some (.str s)/\(g.lZ r).row=[.str s,.int r]++g.row.drop 2:=by
 cases g<;>exact⟨_,rfl,rfl⟩
theorem D8 (g:Lf): lK g.row (some 2) none=g.row.drop 2:=by cases g<;>rfl
theorem CV (g:Lf): ¬(HT.sIx g.row.length 0 (some 2)=0/\HT.sIx g.row.length g.row.length none=g.row.length):=fun z=>by
 cases g with
 | fresh r=>exact absurd (show HT.sIx 2 0 (some 2)=0 from z.1) (by decide)
 | held r f=>exact absurd (show HT.sIx 3 0 (some 2)=0 from z.1) (by decide)
 | out r f=>exact absurd (show HT.sIx 3 0 (some 2)=0 from z.1) (by decide)
 | named r n f=>exact absurd (show HT.sIx 4 0 (some 2)=0 from z.1) (by decide)
theorem D9 (g:Lf): g.row.length<=4:=by cases g<;>exact Nat.le_of_ble_eq_true rfl
theorem CW {g:Lf}{r:Int}(h:g.ok): (g.lZ r).ok:=by cases g<;>exact h
theorem Kp.few {H:Hp}{d:Addr}{M:Mf}{kvs:List (Key×V)}{ks:List Int}{base:Int}{long:Nat}(KP:Kp H d M kvs ks)(inn:∀n g,M n=some g->base<=n/\n < base+long): kvs.length<=long/\ks.length<=long:=by
 have h:ks.length<=long:=by
  have h:=nJ (fun n:Int=>(n-base).toNat) (ms:=ks) (L:=List.range long) (nM KP.ik KP.nd) (fun x hx y hy e=>?_) fun x hx=>?_
  ·rw[List.length_range] at h;exact h
  ·have q1:=(KP.mem x).mp hx
   have q2:=(KP.mem y).mp hy
   obtain⟨g,e1⟩:=Option.isSome_iff_exists.mp q1
   obtain⟨g',e2⟩:=Option.isSome_iff_exists.mp q2
   have i1:=inn x g e1
   have i2:=inn y g' e2
   have e:(x-base).toNat=(y-base).toNat:=e
   omega
  ·have q1:=(KP.mem x).mp hx
   obtain⟨g,e1⟩:=Option.isSome_iff_exists.mp q1
   have i1:=inn x g e1
   exact List.mem_range.mpr (by show (x-base).toNat < long;omega)
 refine⟨?_,h⟩
 have e:=congrArg List.length KP.ik
 rw[List.length_map,List.length_map] at e
 omega
theorem AO (M:Mf)(f:Int)(i:Nat): (M.gone f i).put (f+i) none=M.gone f ((i+1:Nat):Int):=funext fun m=>by
 unfold Mf.gone
 by_cases c:m=f+i
 ·rw[c,Mf.jZ,if_pos (by omega)]
 ·rw[Mf.jg c]
  by_cases c2:f<=m/\m < f+i
  ·rw[if_pos c2,if_pos (by omega)]
  ·rw[if_neg c2,if_neg (by omega)]
theorem D_ (M:Mf)(f:Int)(i:Nat): (M.gone f i) (f+i)=M (f+i):=by unfold Mf.gone;rw[if_neg (by omega)]
theorem AQ (M:Mf)(f:Int): M.gone f ((0:Nat):Int)=M:=funext fun m=>by unfold Mf.gone;rw[if_neg (by omega)]
theorem sf:∀{ns ms:List Int},ns.Pairwise (· < ·)->ms.Pairwise (· < ·)->(∀k,k∈ns↔k∈ms)->ns=ms
 | [],[],_,_,_=>rfl
 | [],b::ms,_,_,h=>by have:=(h b).mpr List.mem_cons_self;cases this
 | a::ns,[],_,_,h=>by have:=(h a).mp List.mem_cons_self;cases this
 | a::ns,b::ms,h1,h2,h=>by
  obtain⟨p1,p2⟩:=List.pairwise_cons.mp h1
  obtain⟨q1,q2⟩:=List.pairwise_cons.mp h2
  have e:a=b:=by
   rcases List.mem_cons.mp ((h a).mp List.mem_cons_self) with x | x
   ·exact x
   ·rcases List.mem_cons.mp ((h b).mpr List.mem_cons_self) with y | y
    ·exact y.symm
    ·have:=q1 a x;have:=p1 b y;omega
  subst e
  rw[sf p2 q2 fun k=>⟨fun hk=>?_,fun hk=>?_⟩]
  ·rcases List.mem_cons.mp ((h k).mp (List.mem_cons_of_mem _ hk)) with x | x
   ·have:=p1 k hk;omega
   ·exact x
  ·rcases List.mem_cons.mp ((h k).mpr (List.mem_cons_of_mem _ hk)) with x | x
   ·have:=q1 k hk;omega
   ·exact x
theorem yD {prog:Program}{w:World}{d:Addr}{n:Nat}(hd:(d==sysModules)=false):
  MeetsIn prog w (Builtin.«dict.__len__» ⟨[.ref d],[]⟩) (fun _ R s=>(∃o es ep,s.heap.get? d=some o/\o.data=.dict es ep/\es.size=n)/\R (.ok (.ret (.int n s.toks))) { s with toks:=s.toks+1 }) :=
 .of_wp fun A R s ⟨hm,h⟩=>by
  obtain⟨o,es,ep,ho,hdat,hn⟩:=hm
  show wpAny _ _ (dictSize d >>= _) _ _ s
  unfold dictSize
  refine wpAny_bind (wpAny_bind (wpAny_dictEntries ho hdat (wpAny_pure ?_)))
  show wpAny _ _ (Builtin.Dict.pendingCount d >>= _) _ _ s
  refine wpAny_bind (wpAny_pendingCount_other hd ?_)
  refine wpAny_ret_mkInt ?_
  rw[Nat.add_zero,hn];exact h
theorem AT {X:Cx}: eZ X (.builtin "len") (fun xs H Q=>∃a kvs,xs=[V.ref a]/\H a=some (.dT kvs)/\Q (.int kvs.length) H):=by
 intro pins s σ H xs us Q I r h
 obtain⟨a,kvs,rfl,ha,q⟩:=h
 obtain⟨u,rfl,ru⟩:=vals1 r
 cases ru
 obtain⟨z,hd,xs,rel,dd⟩:=El I.hok ha
 have ty:=dd.typeIs
 obtain⟨o,es,ep,h1,h2,h3,h4,h5,h6⟩:=dd
 have hl:es.size=kvs.length:=by
  have e:=congrArg List.length h4
  rw[List.length_map,Array.length_toList] at e
  rw[e];exact(Paired.length rel).symm
 have hz:(kvs.length:Int) < 2^63:=by rw[sizeLine_eq] at z;omega
 refine Calls.call_function_entry kind_len plain_len entry_len (args_len1 _) ?_
 unfold Builtin.«len»
 refine wpAny_bind (m:=oneArg "len" _) (wpAny_pure ?_)
 refine wpAny_bind (m:=callSpecial? (.ref a) (Str.ofString "__len__")) (wpAny_callSpecial?_slot (name:=Str.ofString "__len__") ty PySem.F.slot_dict_len
  (call_meetsIn PySem.F.slot_dict_len ty PySem.F.entry_dict_len (PySem.F.args_dict_len_1 _) (yD (n:=kvs.length) hd) ⟨⟨o,es,ep,h1,h3,hl⟩,?_⟩))
 show wpAny _ _ _ _ _ { s with toks:=s.toks+1 }
 refine wpAny_bind (wpAny_holding (wpAny_pure ?_))
 refine wpAny_bind (wpAny_letGo ?_)
 show wpAny _ _ (if ((kvs.length:Nat):Int) < 0 then _ else _) _ _ _
 rw[if_neg (by omega)]
 show wpAny _ _ (if ((kvs.length:Nat):Int)>=2^63 then _ else _) _ _ _
 rw[if_neg (by omega)]
 exact wpAny_bind (wpAny_mkInt (wpAny_pure ⟨_,rfl,⟨.int kvs.length,H,I.tok _,⟨_,rfl⟩,q⟩⟩))
def Lev (ns ks:List Int)(i:Nat)(M:List Int): Prop:=M.Nodup/\∀m,m∈M↔∃n∈ks,m=n / 2^(ns.drop i).sum.toNat
theorem Good.GB {ns:List Int}{low:Int}(g:Good ns low)(i:Nat): 0<=(ns.drop i).sum/\(ns.drop i).sum<=72:=by
 have h:=vw (B:=24) (ns:=ns.drop i) fun x hx=>g.all x (List.mem_of_mem_drop hx)
 have:=g.len
 have:(ns.drop i).length<=ns.length:=by rw[List.length_drop];omega
 omega
theorem uB (us:List Int): ∀(rs:List Int),(∀w∈rs,0<=w)->∀r:Int,parts (us++rs.reverse) r=parts us (r / 2^rs.reverse.sum.toNat)++parts rs.reverse r
 | [],_,r=>by simp[parts_nil]
 | w::rs,h,r=>by
  have hw:=h w List.mem_cons_self
  have hr:∀w∈rs,0<=w:=fun x hx=>h x (List.mem_cons_of_mem _ hx)
  have nn:0<=rs.reverse.sum:=by
   have:∀l:List Int,(∀w∈l,0<=w)->0<=l.sum:=by
    intro l
    induction l with
    | nil=>intro _;simp
    | cons a l ih =>
     intro h
     rw[List.sum_cons]
     have:=h a List.mem_cons_self
     have:=ih fun x hx=>h x (List.mem_cons_of_mem _ hx)
     omega
   exact this _ fun x hx=>hr x (List.mem_reverse.mp hx)
  rw[List.reverse_cons,<-List.append_assoc,eN,eN,uB us rs hr,List.append_assoc]
  congr 2
  rw[List.sum_append]
  show r / 2^w.toNat / 2^rs.reverse.sum.toNat=r / 2^(rs.reverse.sum+(w+0)).toNat
  rw[Int.add_zero,Int.toNat_add nn hw,Int.pow_add,Int.mul_comm,Int.ediv_ediv_of_nonneg (Int.le_of_lt (two_pos _))]
theorem sg {ns:List Int}(h:∀w∈ns,0<=w)(i:Nat)(n:Int): (parts ns n).take i=parts (ns.take i) (n / 2^(ns.drop i).sum.toNat):=by
 have e:=uB (ns.take i) (ns.drop i).reverse (fun w hw=>h w (List.mem_of_mem_drop (List.mem_reverse.mp hw))) n
 rw[List.reverse_reverse,List.take_append_drop] at e
 rw[e]
 by_cases c:i<=ns.length
 ·rw[List.take_left' (by rw[dB,List.length_take];omega)]
 ·rw[List.drop_eq_nil_of_le (by omega),parts_nil,List.append_nil,List.take_of_length_le]
  rw[dB,List.length_take];omega
theorem xG {ns:List Int}{low:Int}(g:Good ns low)(i:Nat){n:Int}(n0:0<=n)(n1:n < pgs ns): 0<=n / 2^(ns.drop i).sum.toNat/\n / 2^(ns.drop i).sum.toNat < span (ns.take i):=by
 refine⟨Int.ediv_nonneg n0 (Int.le_of_lt (two_pos _)),Int.ediv_lt_of_lt_mul (two_pos _) ?_⟩
 have hd:=(g.GB i).1
 have ht0:=(vw (B:=24) (ns:=ns.take i) fun x hx=>g.all x (List.mem_of_mem_take hx)).1
 have ht:0<=(ns.take i).sum:=by omega
 have e:ns.sum=(ns.take i).sum+(ns.drop i).sum:=by rw[<-List.sum_append,List.take_append_drop]
 have e2:pgs ns=span (ns.take i)*2^(ns.drop i).sum.toNat:=by
  show (2:Int)^ns.sum.toNat=2^(ns.take i).sum.toNat*2^(ns.drop i).sum.toNat
  rw[e,Int.toNat_add ht hd,Int.pow_add]
 omega
theorem Lvl.len0 {ns:List Int}{nd:Ix->Option Addr}{R:Rs}{top:Addr}(lv:Lvl ns nd 0 R)(tp:nd []=some top): R.length=1:=by
 have e:span (ns.take 0)=1:=rfl
 have m0:=(lv.2 0 top).mpr ⟨by decide,by rw[e];decide,by rw[List.take_zero,parts_nil];exact tp⟩
 have all:∀r∈R,r.1=0:=fun r hr=>by
  obtain⟨q1,q2,_⟩:=(lv.2 r.1 r.2).mp hr
  rw[e] at q2
  omega
 cases R with
 | nil=>cases m0
 | cons r R =>
  cases R with
  | nil=>rfl
  | cons r' R =>
   have:=(List.pairwise_cons.mp lv.1).1 r' List.mem_cons_self
   have h1:=all r List.mem_cons_self
   have h2:=all r' (List.mem_cons_of_mem _ List.mem_cons_self)
   omega
section
variable {H:Hp}{ns ks:List Int}{low:Int}{nd:Ix->Option Addr}{fp:List Addr}{cn:Nat}{top:Addr}
theorem FI {i:Nat}{R:Rs}{N:List Int}(g:Good ns low)(S:eD H ns.length top nd fp cn)(fu:Full ns.length nd)(cov:Cov ns.length nd (ks.map (parts ns)))(inn:∀n∈ks,0<=n/\n < pgs ns)(so:∀n∈ks,∃x,nd (parts ns n)=some x)
  (lv:Lvl ns nd i R) (le:Lev ns ks i N) (hi:1<=i) (il:i<=ns.length):R.length=N.length:=by
 have tl:(ns.take i).length=i:=by rw[List.length_take];omega
 have me:∀m,m∈R.map (·.1)↔m∈N:=fun m=>by
  rw[le.2]
  constructor
  ·intro h
   obtain⟨⟨m,x⟩,r1,rfl⟩:=List.mem_map.mp h
   obtain⟨a1,a2,a3⟩:=(lv.2 m x).mp r1
   have pl:(parts (ns.take i) m).length=i:=by rw[dB,tl]
   obtain⟨τ,t1,t2⟩:=cov.ext fu (ns.length-i) a3 (fun z=>by rw[z] at pl;simp at pl;omega) (by omega)
   obtain⟨n,hn,rfl⟩:=List.mem_map.mp t1
   have nb:=inn n hn
   have db:=xG g i nb.1 nb.2
   rw[pl,sg g.nn] at t2
   exact⟨n,hn,((uf (qw g i) db.1 db.2 a1 a2).mp t2).symm⟩
  ·rintro⟨n,hn,rfl⟩
   have nb:=inn n hn
   have db:=xG g i nb.1 nb.2
   obtain⟨x,e1⟩:=so n hn
   obtain⟨d,q⟩:=S.pre _ rfl e1 i
   rw[sg g.nn] at q
   exact List.mem_map.mpr ⟨(_,d),(lv.2 _ d).mpr ⟨db.1,db.2,q⟩,rfl⟩
 have h1:=nJ id (ms:=R.map (·.1)) (L:=N) lv.1.ints (fun _ _ _ _ e=>e) fun m hm=>(me m).mp hm
 have h2:=nJ id (ms:=N) (L:=R.map (·.1)) le.1 (fun _ _ _ _ e=>e) fun m hm=>(me m).mpr hm
 rw[List.length_map] at h1 h2
 omega
theorem Ea {Ls:List Rs}{Ms:List (List Int)}(g:Good ns low)(S:eD H ns.length top nd fp cn)(fu:Full ns.length nd)(cov:Cov ns.length nd (ks.map (parts ns)))(inn:∀n∈ks,0<=n/\n < pgs ns)(so:∀n∈ks,∃x,nd (parts ns n)=some x)
  (ll:Ls.length=ns.length) (h:∀i R,Ls[i]?=some R->Lvl ns nd i R) (ml:Ms.length+1=ns.length) (hm:∀i N,Ms[i]?=some N->Lev ns ks (i+1) N):(Ls.map List.length).sum=1+(Ms.map List.length).sum:=by
 have gl:=g.len
 have one:∀i R N,Ls[i+1]?=some R->Ms[i]?=some N->R.length=N.length:=fun i R N e1 e2=>by
  have:=(List.getElem?_eq_some_iff.mp e1).1
  exact FI g S fu cov inn so (h _ _ e1) (hm _ _ e2) (by omega) (by omega)
 rw[<-ll] at gl ml
 rcases gl with gl | gl
 ·match Ls,gl,h,Ms,ml,one with
  | [B,D],_,h,[N],_,one =>
   have b:=(h 0 B rfl).len0 S.tp
   have d:=one 0 D N rfl rfl
   simp[b,d]
 ·match Ls,gl,h,Ms,ml,one with
  | [B,D,F],_,h,[N,O],_,one =>
   have b:=(h 0 B rfl).len0 S.tp
   have d:=one 0 D N rfl rfl
   have f:=one 1 F O rfl rfl
   simp[b,d,f]
end
abbrev KT2:=List (List Key×V)
def Seen (kvs:KT2)(P:Int->Int->Prop): Prop:=(kvs.map (·.1)).Nodup/\∀key,key∈kvs.map (·.1)↔∃i m:Int,P i m/\key=[.inl i,.inl m]
theorem uC {kvs:KT2}{k:List Key}{v v0:V}(h:bq kvs k=some v0): (putK kvs k v).map (·.1)=kvs.map (·.1):=by
 unfold putK
 split
 ·rw[List.map_map]
  refine List.map_congr_left fun p _=>?_
  show (if p.1=k then (p.1,v) else p).1=p.1
  split<;>rfl
 ·next c =>
  exfalso
  apply c
  rw[fc,h]
  rfl
theorem Seen.put {kvs:KT2}{P:Int->Int->Prop}(S:Seen kvs P)(i m:Int)(v:V): Seen (putK kvs [.inl i,.inl m] v) (fun j n=>P j n\/(j=i/\n=m)):=by
 have key:∀key,key∈(putK kvs [.inl i,.inl m] v).map (·.1)↔key∈kvs.map (·.1)\/key=[.inl i,.inl m]:=fun key=>by
  cases e:bq kvs [Sum.inl i,Sum.inl m] with
  | none=>rw[qG _ e,List.map_append,List.mem_append];simp
  | some w =>
   rw[uC e]
   constructor
   ·exact fun h=>.inl h
   ·rintro(h | h)
    ·exact h
    ·rw[h];exact Dt e
 refine⟨?_,fun k=>?_⟩
 ·cases e:bq kvs [Sum.inl i,Sum.inl m] with
  | none=>exact yW _ S.1 e
  | some w=>rw[uC e];exact S.1
 ·rw[key,S.2]
  constructor
  ·rintro(⟨j,n,h,rfl⟩ | rfl)
   ·exact⟨j,n,.inl h,rfl⟩
   ·exact⟨i,m,.inr ⟨rfl,rfl⟩,rfl⟩
  ·rintro⟨j,n,h | ⟨rfl,rfl⟩,rfl⟩
   ·exact .inl ⟨j,n,h,rfl⟩
   ·exact .inr rfl
theorem Seen.of {kvs:KT2}{P P':Int->Int->Prop}(S:Seen kvs P)(h:∀i m,P i m↔P' i m): Seen kvs P':=⟨S.1,fun key=>by
 rw[S.2]
 exact⟨fun ⟨i,m,a,b⟩=>⟨i,m,(h i m).mp a,b⟩,fun ⟨i,m,a,b⟩=>⟨i,m,(h i m).mpr a,b⟩⟩⟩
def iI (i:Int)(key:List Key): Option Int:=match key with
 | [.inl j,.inl m]=>if j=i then some m else none
 | _=>none
theorem eQ {i m:Int}{key:List Key}: iI i key=some m↔key=[.inl i,.inl m]:=by
 constructor
 ·intro h
  unfold iI at h
  split at h
  ·split at h
   ·next e=>cases h;rw[e]
   ·cases h
  ·cases h
 ·rintro rfl
  show (if i=i then some m else none)=some m
  rw[if_pos rfl]
theorem AU {kvs:List (List Key)}(h:kvs.Nodup)(i:Int): (kvs.filterMap (iI i)).Nodup:=by
 induction kvs with
 | nil=>exact List.nodup_nil
 | cons k r ih =>
  obtain⟨h1,h2⟩:=List.nodup_cons.mp h
  rw[List.filterMap_cons]
  cases e:iI i k with
  | none=>exact ih h2
  | some m =>
   refine List.nodup_cons.mpr ⟨fun z=>?_,ih h2⟩
   obtain⟨k',hk,e'⟩:=List.mem_filterMap.mp z
   rw[eQ.mp e,<-eQ.mp e'] at h1
   exact h1 hk
theorem CY {kvs:List (List Key)}(h:∀key∈kvs,∃m,key=[.inl 1,.inl m]): kvs.length=(kvs.filterMap (iI 1)).length:=by
 induction kvs with
 | nil=>rfl
 | cons k r ih =>
  obtain⟨m,e⟩:=h k List.mem_cons_self
  rw[List.filterMap_cons,eQ.mpr e,List.length_cons,List.length_cons,ih fun key hk=>h key (List.mem_cons_of_mem _ hk)]
theorem CZ {kvs:List (List Key)}(h:∀key∈kvs,∃m,key=[.inl 1,.inl m]\/key=[.inl 2,.inl m]): kvs.length=(kvs.filterMap (iI 1)).length+(kvs.filterMap (iI 2)).length:=by
 induction kvs with
 | nil=>rfl
 | cons k r ih =>
  have ih:=ih fun key hk=>h key (List.mem_cons_of_mem _ hk)
  obtain⟨m,e | e⟩:=h k List.mem_cons_self
  ·have e2:iI 2 k=none:=by rw[e];rfl
   rw[List.filterMap_cons,List.filterMap_cons,eQ.mpr e,e2,List.length_cons,List.length_cons]
   show r.length+1=_+1+(r.filterMap (iI 2)).length
   omega
  ·have e2:iI 1 k=none:=by rw[e];rfl
   rw[List.filterMap_cons,List.filterMap_cons,eQ.mpr e,e2,List.length_cons,List.length_cons]
   show r.length+1=(r.filterMap (iI 1)).length+(_+1)
   omega
theorem Seen.count {kvs:KT2}{ns ks:List Int}{low:Int}(g:Good ns low)(S:Seen kvs fun i m=>∃n∈ks,1<=i/\i < ns.length/\m=n / 2^(ns.drop i.toNat).sum.toNat): ∃Ms:List (List Int),Ms.length+1=ns.length/\(∀i M,Ms[i]?=some M->Lev ns ks (i+1) M)/\kvs.length=(Ms.map List.length).sum:=by
 have lev:∀i:Nat,1<=i->i < ns.length->Lev ns ks i ((kvs.map (·.1)).filterMap (iI (i:Int))):=fun i h1 h2=>by
  refine⟨AU S.1 _,fun m=>?_⟩
  rw[List.mem_filterMap]
  constructor
  ·rintro⟨key,hk,e⟩
   obtain⟨j,m',⟨n,hn,_,_,e2⟩,e1⟩:=(S.2 key).mp hk
   rw[eQ.mp e] at e1
   cases e1
   exact⟨n,hn,e2⟩
  ·rintro⟨n,hn,e⟩
   exact⟨_,(S.2 _).mpr ⟨i,m,⟨n,hn,by omega,by omega,e⟩,rfl⟩,eQ.mpr rfl⟩
 have kl:kvs.length=(kvs.map (·.1)).length:=(List.length_map ..).symm
 rcases g.len with gl | gl
 ·refine⟨[(kvs.map (·.1)).filterMap (iI 1)],by rw[gl];rfl,fun i M e=>?_,?_⟩
  ·cases i with
   | zero=>cases e;exact lev 1 (by omega) (by omega)
   | succ i=>cases e
  ·rw[kl,CY fun key hk=>?_]
   ·simp
   ·obtain⟨j,m,⟨n,_,h1,h2,_⟩,e⟩:=(S.2 key).mp hk
    have:j=1:=by omega
    exact⟨m,by rw[e,this]⟩
 ·refine⟨[(kvs.map (·.1)).filterMap (iI 1),(kvs.map (·.1)).filterMap (iI 2)],by rw[gl];rfl,fun i M e=>?_,?_⟩
  ·match i,e with
   | 0,e=>cases e;exact lev 1 (by omega) (by omega)
   | 1,e=>cases e;exact lev 2 (by omega) (by omega)
  ·rw[kl,CZ fun key hk=>?_]
   ·simp
   ·obtain⟨j,m,⟨n,_,h1,h2,_⟩,e⟩:=(S.2 key).mp hk
    have:j=1\/j=2:=by omega
    rcases this with w | w
    ·exact⟨m,.inl (by rw[e,w])⟩
    ·exact⟨m,.inr (by rw[e,w])⟩
theorem C0 {ns:List Int}{low:Int}(g:Good ns low): ∃z:Int,atI (ns.map V.int) (-1)=some (.int z)/\0<=z/\(ns.drop (ns.length-1)).sum=z:=by
 have al:=g.all
 rcases g.len with gl | gl
 ·match ns,gl,al with
  | [a,b],_,al=>exact⟨b,rfl,by have:=al b (by simp);omega,by simp⟩
 ·match ns,gl,al with
  | [a,b,c],_,al=>exact⟨c,rfl,by have:=al c (by simp);omega,by simp⟩
theorem FJ {ns:List Int}{low:Int}(g:Good ns low){k:Nat}(h1:1<=k)(h2:k < ns.length): ∃z:Int,atI (ns.map V.int) ((k:Int)-1)=some (.int z)/\0<=z/\(ns.drop (k-1)).sum=z+(ns.drop k).sum:=by
 have e:ns[k-1]?=some (ns[k-1]'(by omega)):=List.getElem?_eq_getElem _
 have al:=g.all _ (List.mem_of_getElem? e)
 refine⟨ns[k-1]'(by omega),?_,by omega,?_⟩
 ·rw[show (k:Int)-1=((k-1:Nat):Int) by omega]
  exact dN (by rw[List.getElem?_map,e];rfl)
 ·rw[List.drop_eq_getElem_cons (show k-1 < ns.length by omega),List.sum_cons,show k-1+1=k by omega]
def si:Sp:=fun vs H Q _=>∃(d w':Addr) (kvs:List (Key×V)) (ks ns:List Int) (low:Int),vs=[.ref d,.ref w']/\H d=some (.dK kvs)/\fe kvs ks/\ks.length < 100/\H w'=some (.lst (ns.map V.int))/\Good ns low ∧
 ∀(Ms:List (List Int)) (H':Hp),Ms.length+1=ns.length->(∀i M,Ms[i]?=some M->Lev ns ks (i+1) M)->Same H H'->Q (.int ((1+(Ms.map List.length).sum:Nat):Int)) H'
section
variable {P:Program}{w:World}{K:W.Frag}{mg:Str->Option Value}{base:Heap}{a:Adr}
theorem sj {dvs:List V} (R:cE K mg "_law_tables" i8 ["_law_own", "_law_widths_here"] dvs) (T:Txt w K mg a) :
  HasFn P w K mg base 1 "_law_tables" ["_law_own", "_law_widths_here"] (si) dvs:=by
 refine R.ok df (fun vs H Q E h=>?_) (fun f cdv A outer s H vs Q E hr h=>?_)
 ·obtain⟨d,w',kvs,ks,ns,low,rfl,_⟩:=h
  rfl
 obtain⟨d,w',kvs,ks,ns,low,rfl,hd,ik,kl,hw,g,k⟩:=h
 refine⟨_,(@ah _ _ _ _ _ (@aI _ _ 2 _ _ _ _ df.nd rfl (by first | exact Or.inl rfl | exact Or.inr rfl) Bw (by rfl) (by first | exact Or.inl rfl | exact Or.inr rfl))
   (@ah _ _ _ _ _ (DL bU rfl (pv 0) (bn (i:=3) df.nd rfl (by first | exact Or.inl rfl | exact Or.inr rfl))
   (@ah _ _ _ _ _ (@aI _ _ 4 _ _ _ _ df.nd rfl (by first | exact Or.inl rfl | exact Or.inr rfl) (aM uH (pv 3) (@aX _ _ _ _ _ _ _ aV (pv 1) (kq g9 aw) (fun _ _=>rfl))) (by rfl) (by first | exact Or.inl rfl | exact Or.inr rfl))
   (@aq _ _ _ (cM bU rfl (DT (by rfl) T.iA (by rfl) T.eI (@ae _ _ _ _ _ aw (@ae _ _ _ _ _ (aH aJ (by rfl) T.cT PySem.boot_len (@ae _ _ _ _ _ (pv 1) af rfl)) af rfl) rfl)) (bn (i:=5) df.nd rfl (by first | exact Or.inl rfl | exact Or.inr rfl))
   (@ah _ _ _ _ _ (@mS _ _ _ _ _ _ _ _ _ hr.u1 (pv 2) (@c8 _ _ _ _ _ (@ae _ _ _ _ _ (pv 5) (@ae _ _ _ _ _ (pv 4) af rfl) rfl)) eR (by rfl))
   (@aq _ _ _ (@aI _ _ 4 _ _ _ _ df.nd rfl (by first | exact Or.inl rfl | exact Or.inr rfl) (aM uH (pv 4) (@aX _ _ _ _ _ _ _ aV (pv 1) (aM iZ (pv 5) aw) (fun _ _=>rfl))) (by rfl) (by first | exact Or.inl rfl | exact Or.inr rfl))))))))
   (@aq _ _ _ (@aG _ _ _ _ (aM cB aw (aH AT (by rfl) T.cT PySem.boot_len (@ae _ _ _ _ _ (pv 2) af rfl))))))),?_⟩
 have gl:=g.len
 have wl:(ns.map V.int).length=ns.length:=List.length_map ..
 walk_at "go"
 intro sd hsd
 generalize hh:upd _ sd _=H1
 obtain⟨s1,e1⟩:=b7 hsd hh
 clear hh
 have hd1:=s1 _ _ hd
 have hw1:=s1 _ _ hw
 have nsd:d≠sd:=ay hd hsd
 have nwd:w'≠d:=L2.tI hw hd (fun z=>by cases z)
 have nws:w'≠sd:=ay hw hsd
 obtain⟨zl,al,zl0,zls⟩:=C0 g
 have r3:-(2^60)<=(1:Int)/\(1:Int)<=((ns.map V.int).length:Int)/\((ns.map V.int).length:Int) < 2^60:=by rw[wl];omega
 walk_at "go"
 intro o nf
 refine Ca nf (fun j σ H'=>Bx (∃(kv2:KT2) (v3 v4 v5:Option V),σ=[some (.ref d),some (.ref w'),some (.ref sd),v3,v4,v5]/\H' sd=some (.dT kv2)/\Seen kv2 (fun i m=>∃n∈ks.take j,1<=i/\i < ns.length/\m=n / 2^(ns.drop i.toNat).sum.toNat)/\kv2.length<=3*j/\(∀b u,H1 b=some u->b≠d->b≠sd->H' b=some u)/\H' d=some (.frz o (.dK kvs))))
  ⟨⟨[],_,_,_,rfl,by rw[av nsd.symm];exact e1,⟨List.nodup_nil,fun key=>⟨fun z=>(by cases z),fun ⟨i,m,⟨n,z,_⟩,_⟩=>(by cases z)⟩⟩,Nat.le_refl _,fun b u e n1 n2=>(by rw[av n1];exact e),aj⟩⟩ (fun j σ H' _ z=>?_) ?_ ?_
 ·obtain⟨kv2,v3,v4,v5,_,_,_,_,_,z⟩:=z.o
  exact z
 ·rintro j n σ H3 hj ⟨kv2,v3,v4,v5,rfl,m1,m2,m3,m4,m5⟩
  have jl:=(List.getElem?_eq_some_iff.mp hj).1
  have hw3:=m4 _ _ hw1 nwd nws
  walk_at "go"
  have en:(((ns.map V.int).length:Int)-1).toNat=ns.length-1:=by rw[wl];omega
  refine wJ (lo:=((ns.map V.int).length:Int)-1) (n:=(((ns.map V.int).length:Int)-1).toNat) (fun i σ H'=>Bx (∃(kv3:KT2) (v5:Option V),σ=[some (.ref d),some (.ref w'),some (.ref sd),some (.int n),some (.int (n / 2^(ns.drop (ns.length-1-i)).sum.toNat)),v5]/\H' sd=some (.dT kv3)/\Seen kv3 (fun i' m=>(∃n∈ks.take j,1<=i'/\i' < ns.length/\m=n / 2^(ns.drop i'.toNat).sum.toNat)\/(((ns.length-1-i:Nat):Int) < i'/\i' < ns.length/\m=n / 2^(ns.drop i'.toNat).sum.toNat))/\kv3.length<=3*j+i/\(∀b u,H1 b=some u->b≠d->b≠sd->H' b=some u)/\H' d=some (.frz o (.dK kvs))))
   ⟨⟨kv2,v5,?_,m1,m2.of fun i' m=>⟨fun z=>.inl z,fun z=>?_⟩,by omega,m4,m5⟩⟩ ?_ ?_
  ·show _=[some (.ref d),some (.ref w'),some (.ref sd),some (.int n),some (.int (n / 2^(ns.drop (ns.length-1-0)).sum.toNat)),v5]
   rw[Nat.sub_zero,zls]
   rfl
  ·rcases z with z | z
   ·exact z
   ·have:=z.1;have:=z.2.1;omega
  ·rintro i σ H4 hi ⟨kv3,v5,rfl,q1,q2,q3,q4,q5⟩
   rw[en] at hi
   have hw4:=q4 _ _ hw1 nwd nws
   obtain⟨kk,ekk,kk1,kk2⟩:∃kk:Nat,((ns.map V.int).length:Int)-1-(i:Int)=(kk:Int)/\1<=kk/\ns.length-1-i=kk:=⟨ns.length-1-i,by rw[wl];omega,by omega,rfl⟩
   have kkl:kk < ns.length:=by omega
   obtain⟨zk,ak,zk0,zks⟩:=FJ g kk1 kkl
   have ds:=(g.GB kk).1
   rw[kk2] at q2
   rw[ekk,kk2]
   walk_at "go"
   intro t ht
   generalize hh:upd _ t _=H5
   obtain⟨s5,e5⟩:=b7 ht hh
   clear hh
   have q15:=s5 _ _ q1
   have hw5:=s5 _ _ hw4
   have e5':H5 t=some (.tup (([.inl (kk:Int),.inl (n / 2^(ns.drop kk).sum.toNat)]:List Key).map kV)):=e5
   have dp:=pN.t (k:=[.inl (kk:Int),.inl (n / 2^(ns.drop kk).sum.toNat)]) (v:=V.bl true) q15 e5' (by rw[sizeLine_eq];omega)
   have hw6:upd H5 sd (.dT (putK kv3 [.inl (kk:Int),.inl (n / 2^(ns.drop kk).sum.toNat)] (V.bl true))) w'=some (.lst (ns.map V.int)):=by rw[av nws];exact hw5
   walk_at "go"
   have el:=eS kv3 [.inl (kk:Int),.inl (n / 2^(ns.drop kk).sum.toNat)] (V.bl true)
   have ei:ns.length-1-(i+1)=kk-1:=by omega
   refine⟨⟨_,some (.int (kk:Int)),?_,aj,(q2.put kk (n / 2^(ns.drop kk).sum.toNat) (V.bl true)).of fun i' m=>?_,by omega,fun b u e n1 n2=>by rw[av n2];exact s5 _ _ (q4 b u e n1 n2),by rw[av nsd];exact s5 _ _ q5⟩⟩
   ·rw[ei,zks,Int.toNat_add zk0 ds,Int.pow_add,Int.mul_comm,<-Int.ediv_ediv_of_nonneg (Int.le_of_lt (two_pos _))]
    rfl
   ·rw[ei]
    constructor
    ·rintro((z | z) | ⟨rfl,rfl⟩)
     ·exact .inl z
     ·exact .inr ⟨by omega,z.2⟩
     ·exact .inr ⟨by omega,by omega,by rw[Int.toNat_natCast]⟩
    ·rintro(z | ⟨z1,z2,z3⟩)
     ·exact .inl (.inl z)
     ·by_cases c:i'=(kk:Int)
      ·rw[c,Int.toNat_natCast] at z3
       exact .inr ⟨c,z3⟩
      ·exact .inl (.inr ⟨by omega,z2,z3⟩)
  ·rintro σ H4 ⟨kv3,v5,rfl,q1,q2,q3,q4,q5⟩
   rw[en] at q2 q3
   refine⟨⟨kv3,_,_,_,rfl,q1,q2.of fun i' m=>?_,by omega,q4,q5⟩⟩
   have tk:ks.take (j+1)=ks.take j++[n]:=by rw[List.take_add_one,hj];rfl
   rw[tk]
   constructor
   ·rintro(⟨n',z1,z2⟩ | ⟨z1,z2,z3⟩)
    ·exact⟨n',List.mem_append_left _ z1,z2⟩
    ·exact⟨n,by simp,by omega,z2,z3⟩
   ·rintro⟨n',z1,z2,z3,z4⟩
    rcases List.mem_append.mp z1 with w | w
    ·exact .inl ⟨n',w,z2,z3,z4⟩
    ·rw[List.mem_singleton.mp w] at z4
     exact .inr ⟨by omega,z3,z4⟩
 ·rintro σ H3 ⟨kv2,v3,v4,v5,rfl,m1,m2,m3,m4,m5⟩
  rw[List.take_length] at m2
  obtain⟨Ms,l1,l2,l3⟩:=m2.count g
  have m1':upd H3 d (.dK kvs) sd=some (.dT kv2):=by rw[av nsd.symm];exact m1
  walk_at "go"
  rw[l3]
  show Q (.int (1+(((Ms.map List.length).sum:Nat):Int))) _
  rw[show (1:Int)+(((Ms.map List.length).sum:Nat):Int)=((1+(Ms.map List.length).sum:Nat):Int) by omega]
  refine k Ms _ l1 l2 fun b u e=>?_
  by_cases c:b=d
  ·rw[c] at e ⊢
   rw[hd] at e
   cases e
   exact aj
  ·rw[av c]
   exact m4 _ _ (s1 _ _ e) c (ay e hsd)
end
end K19

set_option maxHeartbeats 4000000
namespace K19
open PySem L2
def zD (a:Adr): Sp:=fun vs H Q _=>∃(p d w':Addr) (pg:Int) (ns:List Int) (low task:Int) (nd:Ix->Option Addr) (fp:List Addr) (cn:Nat) (M:Mf) (kvs:List (Key×V)) (ks:List Int),vs=[.ref p,.ref d,.ref w',.int pg]/\bZ a H p ns low task nd fp cn/\Ab a H ns nd M/\Kp H d M kvs ks/\(∀n g,M n=some g->(0<=n/\n < pgs ns)/\g.ok)/\ks.length < 64/\H w'=some (.lst (ns.map V.int))/\(0<=pg/\pg < pgs ns)/\∀H',Same H H'->Q (.bl true) H'
section
variable {P:Program}{w:World}{K:W.Frag}{mg:Str->Option Value}{base:Heap}{a:Adr}
theorem xH {dvs:List V} (R:cE K mg "_law_all" mq ["_law_space", "_law_own", "_law_widths_here", "_law_page"] dvs) (T:Txt w K mg a)
  (d9:aE P w K mg base a.aD 3 "rows" ["self"] (rR a) [])
  (bA:HasFn P w K mg base 1 "_law_whole" ["_law_found"] (nW) [])
  (bR:HasFn P w K mg base 2 "_law_like" ["_law_found", "_law_due"] (nX) [])
  (bS:aE P w K mg base a.bp 1 "row" ["self"] (cy a 0) [])
  (b8:aE P w K mg base a.bC 1 "row" ["self"] (cy a 1) [])
  (cL:aE P w K mg base a.b9 1 "row" ["self"] (cy a 2) [])
  (bT:aE P w K mg base a.aZ 1 "row" ["self"] (cy a 3) [])
  (iJ:aE P w K mg base a.aD 3 "tables" ["self"] (xA a) [])
  (jh:HasFn P w K mg base 1 "_law_tables" ["_law_own", "_law_widths_here"] (si) [])
  (bf:aE P w K mg base a.aD 6 "leaf" ["self", "page"] (iE a) []) :
  HasFn P w K mg base 7 "_law_all" ["_law_space", "_law_own", "_law_widths_here", "_law_page"] (zD a) dvs:=by
 refine R.ok eT (fun vs H Q E h=>?_) (fun f cdv A outer s H vs Q E hr h=>?_)
 ·obtain⟨p,d,w',pg,ns,low,task,nd,fp,cn,M,kvs,ks,rfl,_⟩:=h
  rfl
 obtain⟨p,d,w',pg,ns,low,task,nd,fp,cn,M,kvs,ks,rfl,S,A0,KP,inn,k63,hw,pin,k⟩:=h
 refine⟨_,(@ah _ _ _ _ _ (@aI _ _ 4 _ _ _ _ eT.nd rfl (by first | exact Or.inl rfl | exact Or.inr rfl) (gq (pv 0) T.aN d9 (hr.mono (by decide)) ao) (by rfl) (by first | exact Or.inl rfl | exact Or.inr rfl))
   (@ah _ _ _ _ _ (@aI _ _ 5 _ _ _ _ eT.nd rfl (by first | exact Or.inl rfl | exact Or.inr rfl) (aH (mY hr.hd) (by rfl) T.nC PyProof.Rows.Boot.«sorted» (@ae _ _ _ _ _ (pv 1) af rfl)) (by rfl) (by first | exact Or.inl rfl | exact Or.inr rfl))
   (@ah _ _ _ _ _ (bD (PW.pt (jn (cA (dI (aH bP (by rfl) T.bw PyProof.Rows.Boot.«isinstance» (@ae _ _ _ _ _ (pv 4) (@ae _ _ _ _ _ (gQ (v:=.ty "list") (by rfl) T.oS PyProof.Rows.Boot.«list» rfl) af rfl) rfl)))) (g6 (aW lT (aH aJ (by rfl) T.cT PySem.boot_len (@ae _ _ _ _ _ (pv 4) af rfl)) (aH aJ (by rfl) T.cT PySem.boot_len (@ae _ _ _ _ _ (pv 5) af rfl)) (bo _))))) (@aq _ _ _ (@aG _ _ _ _ eR)) aQ)
   (@ah _ _ _ _ _ (cM bU rfl (fG (by rfl) T.eI (@ae _ _ _ _ _ (aH aJ (by rfl) T.cT PySem.boot_len (@ae _ _ _ _ _ (pv 5) af rfl)) af rfl)) (bn (i:=6) eT.nd rfl (by first | exact Or.inl rfl | exact Or.inr rfl))
   (@ah _ _ _ _ _ (bD (PW.pt (jn (cA (dI (aH bP (by rfl) T.bw PyProof.Rows.Boot.«isinstance» (@ae _ _ _ _ _ (@aX _ _ _ _ _ _ _ aV (pv 4) (pv 6) (fun _ _=>rfl)) (@ae _ _ _ _ _ (gQ (v:=.ty "tuple") (by rfl) T.lE PyProof.Rows.Boot.«tuple» rfl) af rfl) rfl)))) (jn (aW lT (aH aJ (by rfl) T.cT PySem.boot_len (@ae _ _ _ _ _ (@aX _ _ _ _ _ _ _ aV (pv 4) (pv 6) (fun _ _=>rfl)) af rfl)) aw (bo _)) (g6 (cA (dI (bv bA (hr.mono (by decide)) (by rfl) ao (@ae _ _ _ _ _ (@aX _ _ _ _ _ _ _ ck (@aX _ _ _ _ _ _ _ aV (pv 4) (pv 6) (fun _ _=>rfl)) aw (fun _ _=>rfl)) af rfl)))))))) (@aq _ _ _ (@aG _ _ _ _ eR)) aQ)
   (@aq _ _ _ (bD (PW.pt (jn (aW lT (@aX _ _ _ _ _ _ _ ck (@aX _ _ _ _ _ _ _ aV (pv 4) (pv 6) (fun _ _=>rfl)) aw (fun _ _=>rfl)) (@aX _ _ _ _ _ _ _ aV (pv 5) (pv 6) (fun _ _=>rfl)) (bo _)) (g6 (cA (dI (bv bR (hr.mono (by decide)) (by rfl) ao (@ae _ _ _ _ _ (mX (k:=1) (m := "row") (dvs:=[]) (@aX _ _ _ _ _ _ _ ck (@aX _ _ _ _ _ _ _ aV (pv 4) (pv 6) (fun _ _=>rfl)) aw (fun _ _=>rfl)) (hr.mono (by decide)) ao (by rfl)) (@ae _ _ _ _ _ (gS hr.u1 (pv 1) (@aX _ _ _ _ _ _ _ aV (pv 5) (pv 6) (fun _ _=>rfl)) (fun _ _=>rfl)) af rfl) rfl))))))) (@aq _ _ _ (@aG _ _ _ _ eR)) aQ))))
   (@ah _ _ _ _ _ (@aI _ _ 7 _ _ _ _ eT.nd rfl (by first | exact Or.inl rfl | exact Or.inr rfl) (gq (pv 0) T.aN iJ (hr.mono (by decide)) ao) (by rfl) (by first | exact Or.inl rfl | exact Or.inr rfl))
   (@ah _ _ _ _ _ (bD (PW.pt (jn (cA (dI (bv bA (hr.mono (by decide)) (by rfl) ao (@ae _ _ _ _ _ (pv 7) af rfl)))) (g6 (aW lT (pv 7) (bv jh (hr.mono (by decide)) (by rfl) ao (@ae _ _ _ _ _ (pv 1) (@ae _ _ _ _ _ (pv 2) af rfl) rfl)) (bo _))))) (@aq _ _ _ (@aG _ _ _ _ eR)) aQ)
   (@ah _ _ _ _ _ (@aI _ _ 8 _ _ _ _ eT.nd rfl (by first | exact Or.inl rfl | exact Or.inr rfl) (cq (pv 0) T.aN bf (hr.mono (by decide)) ao (@ae _ _ _ _ _ (pv 3) af rfl)) (by rfl) (by first | exact Or.inl rfl | exact Or.inr rfl))
   (@ah _ _ _ _ _ (bD (aW (gZ hr.u1) (pv 3) (pv 1) (by with_unfolding_all rfl)) (@aq _ _ _ (@aG _ _ _ _ (fU xT (pv 8) eX (bo _)))) aQ)
   (@aq _ _ _ (@aG _ _ _ _ (n_ (fU qm (pv 8) eX (bo _)) (uG (bv bR (hr.mono (by decide)) (by rfl) ao (@ae _ _ _ _ _ (mX (k:=1) (m := "row") (dvs:=[]) (pv 8) (hr.mono (by decide)) ao (by rfl)) (@ae _ _ _ _ _ (gS hr.u1 (pv 1) (pv 3) (fun _ _=>rfl)) af rfl) rfl)))))))))))))),?_⟩
 have t1:=T.aN
 have kl:=bh K (.type "list")
 have kt:=bh K (.type "tuple")
 have gd:=S.good
 obtain⟨dx,sh,tr,dt,sh2,top,dxs,ts,hp,_⟩:=id S
 have cov:=S.cov (ks:=ks) fun m m0 m1 h=>(KP.mem m).mpr (by rw[<-A0.isS m0 m1];exact h)
 have c64:(ks.map (parts ns)).length < 64:=by rw[List.length_map];exact k63
 walk_at "go"
 intro q us R H1 RA lv s1 hq
 have KP1:=KP.same s1
 have hd1:=KP1.h
 have id1:IsD H1 d:=.inl ⟨kvs,Rd.of hd1⟩
 have ik1:=KP1.ik
 walk_at "go"
 intro q2 js hq2 pm GC
 generalize hh:upd _ q2 _=H2
 obtain⟨s2,e2⟩:=b7 hq2 hh
 clear hh
 have jj:R.map (·.1)=js:=by
  refine sf (List.pairwise_map.mpr lv.1) (uw GC (pm.nodup_iff.mpr (nM KP1.ik KP1.nd))) fun n=>?_
  rw[pm.mem_iff,KP1.mem,List.mem_map]
  constructor
  ·rintro⟨r,hr,rfl⟩
   obtain⟨h1,h2,h3⟩:=(lv.2 r.1 r.2).mp hr
   rw[List.take_length,iF] at h2
   rw[List.take_length] at h3
   rw[<-A0.isS h1 h2,h3];rfl
  ·intro h
   cases e:M n with
   | none=>rw[e] at h;cases h
   | some g =>
    obtain⟨⟨n0,n1⟩,_⟩:=inn n g e
    obtain⟨x,e1,_⟩:=A0.so n g n0 n1 e
    exact⟨(n,x),(lv.2 n x).mpr ⟨n0,by rw[List.take_length,iF];exact n1,by rw[List.take_length];exact e1⟩,rfl⟩
 subst jj
 have s12:=s1.trans s2
 have GD:=s2 _ _ RA.l
 have jl:(R.map (·.1)).length < 64:=by rw[pm.length_eq];exact k63
 have l1:(us.map V.ref).length=R.length:=by rw[List.length_map,RA.n]
 have l2:((R.map (·.1)).map V.int).length=R.length:=by rw[List.length_map,List.length_map]
 have tq:TyE K H2 (.ref q) (.type "list"):=.of (.lst GD)
 walk_at "go"
 refine pO (fun z=>absurd (by rw[l1,l2]) z) (fun _=>?_)
 clear GC hd1 ik1 id1 tq
 rw[List.length_map] at jl
 walk_at "go"
 refine dF (fun i σ H'=>Bx ((∃v4,σ=[some (.ref p),some (.ref d),some (.ref w'),some (.int pg),some (.ref q),some (.ref q2),v4,none,none])/\∀b u,H2 b=some u->H' b=some u)) ⟨⟨⟨_,rfl⟩,fun _ _ e=>e⟩⟩ ?_ ?_
 ·rintro i σ H3 hi ⟨⟨v4,rfl⟩,s3⟩
  have s23:Same H2 H3:=s3
  have s03:=s12.trans s23
  have il:i < R.length:=by rw[l2] at hi;omega
  have er:R[i]?=some R[i]:=List.getElem?_eq_getElem il
  generalize R[i]=r at er
  obtain⟨n,x⟩:=r
  obtain⟨n0,n1,hx⟩:=(lv.2 n x).mp (List.mem_of_getElem? er)
  rw[List.take_length,iF] at n1
  rw[List.take_length] at hx
  obtain⟨g,hg,lf⟩:=A0.leaf n0 n1 hx
  have ok:=(inn n g hg).2
  have eu:us[i]?=some (us[i]'(by rw[RA.n];exact il)):=List.getElem?_eq_getElem _
  generalize us[i]'(by rw[RA.n];exact il)=u at eu
  have hu:H1 u=some (.tup [.int n,.ref x]):=RA.t i u _ eu er
  have hu3:=s23 _ _ (s2 _ _ hu)
  have hq3:=s23 _ _ GD
  have e23:=s23 _ _ e2
  have a1:atI (us.map V.ref) (0+(i:Int))=some (.ref u):=by rw[Int.zero_add];exact dN (by rw[List.getElem?_map,eu];rfl)
  have a2:atI ((R.map (·.1)).map V.int) (0+(i:Int))=some (.int n):=by rw[Int.zero_add];exact dN (by rw[List.getElem?_map,List.getElem?_map,er];rfl)
  have tt:TyE K H3 (.ref u) (.type "tuple"):=.of (.tup hu3)
  have b0:atI [V.int n,V.ref x] 0=some (.int n):=rfl
  have b1:atI [V.int n,V.ref x] 1=some (.ref x):=rfl
  have lf3:=lf.same s03
  obtain⟨C,dxl,fs,f1,f2,f3,f4⟩:∃C dx fs,H3 x=some (.ins C dx fs)/\Cls K C/\aE P w K mg base C 1 "row" ["self"] (cy a g.kind) []/\fs.lookup ("row" : Str)=none:=by
   obtain⟨dl,hl⟩:=id lf3
   cases g with
   | fresh r=>exact⟨_,_,_,hl,T.dD,bS,by walk_at "lk"⟩
   | held r f=>exact⟨_,_,_,hl,T.eG,b8,by walk_at "lk"⟩
   | out r f=>exact⟨_,_,_,hl,T.gH,cL,by walk_at "lk"⟩
   | named r n f=>exact⟨_,_,_,hl,T.dE,bT,by walk_at "lk"⟩
  obtain⟨t,vt,ht⟩:=(KP.same s03).so n g hg
  walk_at "go"
  refine Ej rfl ?_
  walk_at "go"
  intro v hv
  generalize hh:upd _ v _=H4
  obtain⟨s4,e4⟩:=b7 hv hh
  clear hh
  have hd4:=s4 _ _ (KP.same s03).h
  have gg:dv H4 d (.int n) (bq kvs (.inl n)):=dv.k (k:=Sum.inl n) hd4
  rw[vt] at gg
  have ht4:=s4 _ _ ht
  have e24:=s4 _ _ e23
  walk_at "go"
  exact⟨⟨⟨_,rfl⟩,fun b u' e=>s4 _ _ (s3 _ _ e)⟩⟩
 ·rintro σ H3 ⟨⟨v4,rfl⟩,s3⟩
  have s23:Same H2 H3:=s3
  have s03:=s12.trans s23
  have S3:=S.same s03
  have hp3:=s03 _ _ hp
  walk_at "go"
  intro Ls H4 ll lvs s4
  have s04:=s03.trans s4
  have KP4:=KP.same s04
  have hd4:=KP4.h
  have ik4:=KP4.ik
  have hw4:=s04 _ _ hw
  have IE:ks.length < 100:=by omega
  walk_at "go"
  intro Ms H5 ml lms s5
  have te:(Ls.map List.length).sum=1+(Ms.map List.length).sum:=by
   obtain⟨_,_,_,_,_,_,_,_,_,_,⟨⟨_,_,_,_,_,h3⟩,g3,fu,ib⟩,_⟩:=id S
   refine Ea gd h3 fu cov (fun n hn=>?_) (fun n hn=>?_) ll lvs ml lms
   ·obtain⟨g,e⟩:=Option.isSome_iff_exists.mp ((KP.mem n).mp hn)
    exact(inn n g e).1
   ·obtain⟨g,e⟩:=Option.isSome_iff_exists.mp ((KP.mem n).mp hn)
    obtain⟨x,e1,_⟩:=A0.so n g (inn n g e).1.1 (inn n g e).1.2 e
    exact⟨x,e1⟩
  rw[te]
  walk_at "go"
  refine Ej rfl ?_
  have s05:=s04.trans s5
  have S5:=S.same s05
  have hp5:=s05 _ _ hp
  have KP5:=KP.same s05
  walk_at "go"
  refine⟨fun _ H6 s6=>?_,fun z=>absurd pin z⟩
  have s06:=s05.trans s6
  have KP6:=KP.same s06
  have hd6:=KP6.h
  have id6:IsD H6 d:=.inl ⟨kvs,Rd.of hd6⟩
  have gg:dv H6 d (.int pg) (bq kvs (.inl pg)):=dv.k (k:=Sum.inl pg) hd6
  cases e:M pg with
  | none =>
   rw[KP6.no pg e] at gg
   rw[A0.no pg pin.1 pin.2 e]
   have nv:ndV none=.non:=rfl
   walk_at "go"
   exact k H6 s06
  | some g =>
   obtain⟨t,vt,ht⟩:=KP6.so pg g e
   rw[vt] at gg
   obtain⟨x,e1,lf⟩:=A0.so pg g pin.1 pin.2 e
   rw[e1]
   have nv:ndV (some x)=.ref x:=rfl
   have ok:=(inn pg g e).2
   have lf6:=lf.same s06
   obtain⟨C,dxl,fs,f1,f2,f3,f4⟩:∃C dx fs,H6 x=some (.ins C dx fs)/\Cls K C/\aE P w K mg base C 1 "row" ["self"] (cy a g.kind) []/\fs.lookup ("row" : Str)=none:=by
    obtain⟨dl,hl⟩:=id lf6
    cases g with
    | fresh r=>exact⟨_,_,_,hl,T.dD,bS,by walk_at "lk"⟩
    | held r f=>exact⟨_,_,_,hl,T.eG,b8,by walk_at "lk"⟩
    | out r f=>exact⟨_,_,_,hl,T.gH,cL,by walk_at "lk"⟩
    | named r n f=>exact⟨_,_,_,hl,T.dE,bT,by walk_at "lk"⟩
   walk_at "go"
   intro v hv
   generalize hh:upd _ v _=H7
   obtain⟨s7,e7⟩:=b7 hv hh
   clear hh
   have hd7:=s7 _ _ hd6
   have id7:IsD H7 d:=.inl ⟨kvs,Rd.of hd7⟩
   have gg7:dv H7 d (.int pg) (bq kvs (.inl pg)):=dv.k (k:=Sum.inl pg) hd7
   rw[vt] at gg7
   have ht7:=s7 _ _ ht
   walk_at "go"
   exact k H7 (s06.trans s7)
end
end K19

set_option maxHeartbeats 4000000
namespace K19
open PySem L2
theorem C3 {X:Cx}{K:W.Frag}{tg l:Expr}{tl:TE}(h:X.K=K)(hl:PE X l tl): PI X tg l (Ee K tl):=by subst h;exact eY hl
theorem xI {K:W.Frag}{l acc:Addr}{xs:List V}{k:Nat}{te:TE}{σ:St}{H1:Hp}{QH:Hp->Prop}(I:Nat->List V->Hp->Prop)(hn:xs.length < sizeLine)(h0:I 0 [] (upd H1 acc (.lst [])))
  (sm:∀i ys H2,I i ys H2->H2 acc=some (.lst ys)/\SqL K H2 l xs/\ys.length=i)
  (he:∀(i:Nat) (x:V) (ys:List V) (H2:Hp),xs[i]?=some x->I i ys H2->∃t u v,x=.ref t/\H2 t=some (.tup [u,v])/\∀R:VK,(∀v H6,H6 acc=some (.lst ys)->I (i+1) (ys++[v]) (upd H6 acc (.lst (ys++[v])))->R v H6)->te (some u::some v::σ) H2 R)
  (q:∀ys H2,I xs.length ys H2->QH H2) (hk:k=2:=by rfl):∃(W:Nat->List V->Hp->Prop) (n':Nat),W 0 [] (upd H1 acc (.lst [])) ∧
 ∀i ys H2,W i ys H2->H2 acc=some (.lst ys)/\ys.length < sizeLine/\((i=n'/\(Itl K l).stop i H2/\QH H2)\/(i < n'/\(Itl K l).go i H2/\∀x H3,(Itl K l).yld i H2 x H3->∀τ:St,τ.length=k->(EJ K 2 (Bj (pc 0) (Bj (pc 1) FW))) x (τ++σ) H3 fun τ2 H4 =>
  (∃τ':St,τ'.length=k/\τ2=τ'++σ)/\qP τ2 H4 fun b H5=>if b=true then te τ2 H5 fun v H6=>H6 acc=some (.lst ys)/\W (i+1) (ys++[v]) (upd H6 acc (.lst (ys++[v]))) else W (i+1) ys H5)):=by
 subst hk
 refine⟨fun i ys H2=>i<=xs.length/\I i ys H2,xs.length,⟨Nat.zero_le _,h0⟩,?_⟩
 rintro i ys H2 ⟨hi,hI⟩
 obtain⟨m1,m2,m3⟩:=sm i ys H2 hI
 refine⟨m1,by omega,?_⟩
 by_cases hlt:i < xs.length
 ·refine .inr ⟨hlt,⟨xs,xs[i],m2,by simp[hlt]⟩,?_⟩
  rintro x H3 ⟨rfl,hx⟩ τ hτ
  have hx:=hx xs m2
  obtain⟨t,u,v,rfl,ht,he⟩:=he i x ys _ hx hI
  obtain⟨t1,t2,rfl⟩:∃t1 t2,τ=[t1,t2]:=by
   match τ,hτ with
   | [t1,t2],_=>exact⟨t1,t2,rfl⟩
  refine⟨t,_,rfl,SqT.of ht,rfl,_,_,rfl,_,_,rfl,rfl,⟨[some _,some _],rfl,rfl⟩,?_⟩
  unfold qP
  simp only [if_true]
  exact he _ fun v H6 e1 e2=>⟨e1,hlt,e2⟩
 ·have e:i=xs.length:=by omega
  subst e
  exact .inl ⟨rfl,⟨xs,m2,Nat.le_refl _⟩,q ys H2 hI⟩
def C5 (H:Hp)(e:Addr)(C:Addr)(task ad:Int)(dd:Str): Prop:=∃d,H e=some (exO e (.ref C) (some d))/\H d=some (xdW d (o4 (.int task) (.int ad) (.str dd)))
def Hy (a:Adr)(H:Hp)(e:Addr)(n:Int): Prop:=∃d,H e=some (exO e (.ref a.bj) (some d))/\H d=some (xdW d [("page",.int n)])
def Wd (way:Int)(dd:Str): Prop:=(way=1/\dd = "unmap")\/(way=2/\dd = "rights")
theorem bZ.inr {a:Adr}{H:Hp}{p:Addr}{ns:List Int}{low task:Int}{nd:Ix->Option Addr}{fp:List Addr}{cn:Nat}{m:Int}{x:Addr}(S:bZ a H p ns low task nd fp cn)(h:nd (parts ns m)=some x): ∃m',0<=m'/\m' < pgs ns/\nd (parts ns m')=some x:=by
 have g:=S.good
 obtain⟨dx,sh,tr,dt,sh2,top,dxs,ts,h1,h2,h3,_⟩:=S
 have f:=h3.ib _ x h
 rw[dj,List.take_length] at f
 have gl:=y6 g.nn f
 exact⟨_,gl.1,gl.2,by rw[qU f];exact h⟩
def xJ (a:Adr): Sp:=fun vs H Q _=>∃(p rl:Addr) (way f r:Int) (ns:List Int) (low task:Int) (nd:Ix->Option Addr) (fp:List Addr) (cn:Nat) (ts:List Addr) (gs:List Lf),vs=[.ref p,.int way,.int f,.ref rl,.int r]/\bZ a H p ns low task nd fp cn/\cn < 80000/\(∀m x,0<=m->m < pgs ns->nd (parts ns m)=some x->∃g:Lf,dn a H x g)/\RwL H rl ts gs/\(∀g∈gs,Lf.ok g/\OkR g.rights)/\gs.length<=4/\nH ns f gs.length/\OkR r/\(way=0\/way=1\/way=2) ∧
 (way=0->∀(j:Nat) x,j < gs.length->(∀i:Nat,i < j->nd (parts ns (f+i))=none)->nd (parts ns (f+j))=some x->∀t e H',H' t=some (.tup [.non,.ref e])->Hy a H' e (f+j)->Same H H'->Q (.ref t) H') ∧
 (way=0->(∀i:Nat,i < gs.length->nd (parts ns (f+i))=none)->∀t (xs:List Addr) nd' fp' H',H' t=some (.tup [.non,.non])->Lvs a H' xs gs->bZ a H' p ns low task nd' fp' (cn+64)->(∀m,0<=m->m < pgs ns->nd' (parts ns m)=eF (fun m=>nd (parts ns m)) f xs m)->L2.Fr fp fp' H H'->Q (.ref t) H') ∧
 (∀dd,Wd way dd->∀j:Nat,j < gs.length->Hole ns nd f j->∀t e H',H' t=some (.tup [.non,.ref e])->C5 H' e a.aA task ((f+j)*plc low) dd->Same H H'->Q (.ref t) H') ∧
 (way=1->∀(t q:Addr) (xs:List Addr) nd' H',H' t=some (.tup [.ref q,.non])->H' q=some (.lst (xs.map V.ref))->H q=none->xs.length=gs.length->(∀(i:Nat) x,xs[i]?=some x->nd (parts ns (f+i))=some x)->bZ a H' p ns low task nd' fp cn->(∀m',0<=m'->m' < pgs ns->nd' (parts ns m')=nV (fun m=>nd (parts ns m)) f gs.length m')->L2.Fr fp fp H H'->Q (.ref t) H') ∧
 (way=2->(∀j:Nat,j < gs.length->(nd (parts ns (f+j))).isSome=true)->∀(t:Addr) (ys:List Addr) nd' fp' H',H' t=some (.tup [.non,.non])->ys.length=gs.length->bZ a H' p ns low task nd' fp' (cn+64)->(∀(i:Nat) x y g,nd (parts ns (f+i))=some x->dn a H x g->ys[i]?=some y->dn a H' y (g.lZ r))->(∀m',0<=m'->m' < pgs ns->nd' (parts ns m')=eF (fun m=>nd (parts ns m)) f ys m')->L2.Fr fp fp' H H'->Q (.ref t) H')
def zE (a:Adr): Sp:=fun vs H Q _=>∃(e:Addr) (task ad way:Int) (dd:Str),vs=[.ref e,.int task,.int ad,.int way]/\C5 H e a.aA task ad dd/\Wd way dd/\∀H',Same H H'->Q (.bl true) H'
section
variable {P:Program}{w:World}{K:W.Frag}{mg:Str->Option Value}{base:Heap}{a:Adr}
theorem vP {dvs:List V} (R:cE K mg "_law_done" kP ["_law_space", "_law_way", "_law_first", "_law_rows", "_law_rights"] dvs) (T:Txt w K mg a)
  (la:aE P w K mg base a.aD 7 "lay" ["self", "first", "leaves"] (zC a) [])
  (eW:HasFn P w K mg base 5 "_law_leaf" ["_law_row_here"] (vM a) [])
  (j2:aE P w K mg base a.aD 8 "lift" ["self", "first", "many"] (CL a) [])
  (iK:aE P w K mg base a.aD 8 "change" ["self", "first", "many", "rights"] (xx a) []) :
  HasFn P w K mg base 9 "_law_done" ["_law_space", "_law_way", "_law_first", "_law_rows", "_law_rights"] (xJ a) dvs:=by
 refine R.ok d5 (fun vs H Q E h=>?_) (fun f cdv A outer s H vs Q E hr h=>?_)
 ·obtain⟨p,rl,way,fi,r,ns,low,task,nd,fp,cn,ts,gs,rfl,_⟩:=h
  rfl
 obtain⟨p,rl,way,fi,r,ns,low,task,nd,fp,cn,ts,gs,rfl,S,cc,lv,RW,AV,g4,st,okr,hw,k1,k2,k3,k4,k5⟩:=h
 refine⟨_,(ah (aI (i:=5) d5.nd rfl (by first | exact Or.inl rfl | exact Or.inr rfl) eX)
   (ah (aI (i:=6) d5.nd rfl (by first | exact Or.inl rfl | exact Or.inr rfl) eX)
   (ah (tY (i:=7) rfl rfl rfl rfl T.iR (by rfl) T.iS d5.nd rfl rfl
   (fun pn xe EX hx=>(aq (bD (aW fb (pv 1) aw (bo _)) (aq (bu (cq (pv 0) T.aN la (hr.mono (by decide)) hx (ae (pv 2) (ae (qt (xs:=["_law_row_here"]) (N':=["_law_space", "_law_way", "_law_first", "_law_rows", "_law_rights", "_law_found", "_law_refusal", "e"]) rfl ⟨rfl,by decide +kernel,by decide +kernel,by dsimp only [dJ,PyProof.Rows.envOfC];decide +kernel,by decide +kernel,by dsimp only [dJ];decide +kernel,rfl⟩ (C3 (K:=K) rfl (pv 3)) (fun _ _ _ _ _=>(bn (i:=0) (by dsimp only [c9];decide +kernel) rfl (by first | exact Or.inl rfl | exact Or.inr rfl))) (fun _ _ _ _ _=>mW) (fun _ _ _ _ _=>(bv eW (hr.mono (by decide)) (by rfl) gY (ae (pv 0) af rfl)))) af rfl) rfl)))) (aq (bD (aW fb (pv 1) aw (bo _)) (aq (aI (i:=5) d5.nd rfl (by first | exact Or.inl rfl | exact Or.inr rfl) (cq (pv 0) T.aN j2 (hr.mono (by decide)) hx (ae (pv 2) (ae (aH (t_ (K:=K) rfl) (by rfl) T.cT PySem.boot_len (ae (pv 3) af rfl)) af rfl) rfl)))) (aq (bu (cq (pv 0) T.aN iK (hr.mono (by decide)) hx (ae (pv 2) (ae (aH (t_ (K:=K) rfl) (by rfl) T.cT PySem.boot_len (ae (pv 3) af rfl)) (ae (pv 4) af rfl) rfl) rfl)))))))))
   (fun pn A' xe=>(aq (aI (i:=6) d5.nd rfl (by first | exact Or.inl rfl | exact Or.inr rfl) (pv 7)))))
   (aq (aG (c8 (ae (pv 5) (ae (pv 6) af rfl) rfl))))))),?_⟩
 have t1:=T.aN
 have m1:=T.kW;have m2:=T.jW;have m3:=T.mz;have m4:=T.vq
 have SA:=S
 obtain⟨dx,sh,tr,dt,sh2,top,dxs,tsh,hp,_⟩:=id S
 have hrl:=RW.hl
 have tl:(ts.map V.ref).length=gs.length:=by rw[List.length_map,RW.len]
 have cc9:cn < 90000:=by omega
 rcases hw with rfl | rfl | rfl
 ·walk_at "go"
  intro acc hacc
  refine rX (xs:=ts.map V.ref) (fun i ys H'=>Bx (∃xs,ys=xs.map V.ref/\H' acc=some (.lst ys)/\Lvs a H' xs (gs.take i)/\xs.length=i/\∀b u,H b=some u->H' b=some u)) (by rw[tl,sizeLine_eq];omega) ⟨⟨[],rfl,aj,⟨rfl,fun i x g h=>(by cases h)⟩,rfl,aB hacc⟩⟩ (fun i ys H' z=>?_) (fun i x ys H' hx z RR rr=>?_) (fun ys H1 z=>?_)
  ·obtain⟨xs,z1,z2,z3,z4,z5⟩:=z.o
   exact⟨z2,SqL.of (z5 _ _ hrl),by rw[z1,List.length_map];exact z4⟩
  ·obtain⟨xs,z1,z2,z3,z4,z5⟩:=z.o
   rw[List.getElem?_map,Option.map_eq_some_iff] at hx
   obtain⟨t,ht,rfl⟩:=hx
   have il:=(List.getElem?_eq_some_iff.mp ht).1
   have eg:gs[i]?=some (gs[i]'(by rw[<-RW.len];exact il)):=List.getElem?_eq_getElem _
   generalize gs[i]'(by rw[<-RW.len];exact il)=g' at eg
   have ht':=z5 _ _ (RW.at' i t g' ht eg)
   have okg:=(AV g' (List.mem_of_getElem? eg)).2
   walk_at "go"
   intro y' H9 lf9 s9 hy9
   have a9:=s9 _ _ z2
   refine rr _ _ a9 ⟨⟨xs++[y'],by rw[z1,List.map_append];rfl,aj,?_,by rw[List.length_append,z4];rfl,fun b u e=>?_⟩⟩
   ·rw[List.take_add_one,eg]
    exact((z3.same s9).snoc lf9).fE (dO.upd a9)
   ·rw[av (ay e hacc)];exact s9 _ _ (z5 _ _ e)
  obtain⟨xs,z1,hl1,LV1,xl,s1⟩:=z.o
  rw[tl] at LV1 xl
  rw[List.take_length] at LV1
  subst z1
  have s01:Same H H1:=s1
  have S1:=S.same s01
  have hp1:=s01 _ _ hp
  have lx:=LV1.mem
  have lc:cn+xs.length < 100000:=by omega
  walk_at "go"
  rw[xl]
  refine⟨fun z=>absurd st z,fun _ j x jl pre hx d H2 hd s2=>?_,fun _ all nd' fp' H2 S2 pv fr sub=>?_⟩
  ·walk_at "go"
   intro e he
   generalize hh:upd _ e _=H3
   obtain⟨s3,e3⟩:=b7 he hh
   clear hh
   walk_at "go"
   intro t ht
   generalize hh:upd _ t _=H4
   obtain⟨s4,e4⟩:=b7 ht hh
   clear hh
   exact k1 rfl j x jl pre hx t e H4 e4 ⟨d,s4 _ _ e3,s4 _ _ (s3 _ _ hd)⟩ (((s01.trans s2).trans s3).trans s4)
  ·have kn:=S1.eV fr
   walk_at "go"
   intro t ht
   generalize hh:upd _ t _=H3
   obtain⟨s3,e3⟩:=b7 ht hh
   clear hh
   exact k2 rfl all t xs nd' fp' H3 e3 ((LV1.eV kn).same s3) ((S2.mono (by omega)).same s3) pv ((L2.Fr.same s01).trans (fr.trans (L2.Fr.same s3)))
 ·walk_at "go"
  rw[tl]
  refine⟨fun z=>absurd st z,fun _ j jl ho d H1 hd s1=>?_,fun _ xs xl xa q nd' H1 S1 hq pv fr q0=>?_⟩
  ·walk_at "go"
   intro e he
   generalize hh:upd _ e _=H2
   obtain⟨s2,e2⟩:=b7 he hh
   clear hh
   walk_at "go"
   intro t ht
   generalize hh:upd _ t _=H3
   obtain⟨s3,e3⟩:=b7 ht hh
   clear hh
   exact k3 _ (.inl ⟨rfl,rfl⟩) j (by omega) ho t e H3 e3 ⟨d,s3 _ _ e2,s3 _ _ (s2 _ _ hd)⟩ ((s1.trans s2).trans s3)
  ·walk_at "go"
   intro t ht
   generalize hh:upd _ t _=H2
   obtain⟨s2,e2⟩:=b7 ht hh
   clear hh
   exact k4 rfl t q xs nd' H2 e2 (s2 _ _ hq) q0 (by omega) xa (S1.same s2) pv (fr.trans (L2.Fr.same s2))
 ·have lvi:∀(i:Nat) x,(i:Int) < ((ts.map V.ref).length:Int)->nd (parts ns (fi+i))=some x->∃g,dn a H x g:=fun i x il e=>by
   obtain⟨m',h1,h2,h3⟩:=SA.inr e
   exact lv m' x h1 h2 h3
  walk_at "go"
  rw[tl]
  refine⟨fun z=>absurd st z,fun _ bad=>absurd okr bad,fun _ _ j jl ho d H1 hd s1=>?_,fun _ _ all ys nd' fp' H1 yl S1 ly pv fr sub=>?_⟩
  ·walk_at "go"
   intro e he
   generalize hh:upd _ e _=H2
   obtain⟨s2,e2⟩:=b7 he hh
   clear hh
   walk_at "go"
   intro t ht
   generalize hh:upd _ t _=H3
   obtain⟨s3,e3⟩:=b7 ht hh
   clear hh
   exact k3 _ (.inr ⟨rfl,rfl⟩) j (by omega) ho t e H3 e3 ⟨d,s3 _ _ e2,s3 _ _ (s2 _ _ hd)⟩ ((s1.trans s2).trans s3)
  ·walk_at "go"
   intro t ht
   generalize hh:upd _ t _=H2
   obtain⟨s2,e2⟩:=b7 ht hh
   clear hh
   exact k5 rfl (fun j jl=>all j (by omega)) t ys nd' fp' H2 e2 (by omega) (S1.same s2) (fun i x y g a1 a2 a3=>(ly i x y g a1 a2 a3).same s2) pv (fr.trans (L2.Fr.same s2))
theorem o5 {dvs:List V} (R:cE K mg "_law_unmapped" gE ["_law_refusal", "_law_task", "_law_address", "_law_way"] dvs) (T:Txt w K mg a)
  (bA:HasFn P w K mg base 1 "_law_whole" ["_law_found"] (nW) []) :
  HasFn P w K mg base 2 "_law_unmapped" ["_law_refusal", "_law_task", "_law_address", "_law_way"] (zE a) dvs:=by
 refine R.ok oQ (fun vs H Q E h=>?_) (fun f cdv A outer s H vs Q E hr h=>?_)
 ·obtain⟨e,task,ad,way,dd,rfl,_⟩:=h
  rfl
 obtain⟨e,task,ad,way,dd,rfl,flt,hwd,k⟩:=h
 refine⟨_,(@ah _ _ _ _ _ (bD (PW.pt (jn (cA (dI (aH bP (by rfl) T.bw PyProof.Rows.Boot.«isinstance» (@ae _ _ _ _ _ (pv 0) (@ae _ _ _ _ _ (mL (v:=.ref a.aA) (by rfl) T.jS rfl) af rfl) rfl)))) (jn (cA (dI (bv bA (hr.mono (by decide)) (by rfl) ao (@ae _ _ _ _ _ (fV (pv 0) rfl) af rfl)))) (g6 (cA (dI (bv bA (hr.mono (by decide)) (by rfl) ao (@ae _ _ _ _ _ (fV (pv 0) rfl) af rfl)))))))) (@aq _ _ _ (@aG _ _ _ _ eR)) aQ)
   (@aq _ _ _ (@aG _ _ _ _ (n_ (fU fb (fV (pv 0) rfl) (pv 1) (bo _)) (n_ (fU fb (fV (pv 0) rfl) (pv 2) (bo _)) (uG (fU fb (fV (pv 0) rfl) (@aX _ _ _ _ _ _ _ aV (@eh _ _ _ _ (@ae _ _ _ _ _ b5 (@ae _ _ _ _ _ b5 (@ae _ _ _ _ _ b5 af rfl) rfl) rfl)) (pv 3) (fun _ _=>rfl)) (bo _)))))))),?_⟩
 obtain⟨d,he,hdd⟩:=id flt
 have ty:TyE K H (.ref e) (.ref a.aA):=.Ac he hdd T.jV T.isk
 have f1:=T.DY
 have g1:=T.jz;have g2:=T.gO;have g3:=T.jy
 have l1:(o4 (.int task) (.int ad) (.str dd)).lookup ("task" : Str)=some (.int task):=rfl
 have l2:(o4 (.int task) (.int ad) (.str dd)).lookup ("address" : Str)=some (.int ad):=rfl
 have l3:(o4 (.int task) (.int ad) (.str dd)).lookup ("deed" : Str)=some (.str dd):=rfl
 walk_at "go"
 refine lL (fun _=>?_) (fun z=>absurd rfl z)
 walk_at "go"
 refine lL (fun _=>?_) (fun z=>absurd rfl z)
 walk_at "go"
 intro l hl
 generalize hh:upd _ l _=H1
 obtain⟨s1,e1⟩:=b7 hl hh
 clear hh
 rcases hwd with ⟨rfl,rfl⟩ | ⟨rfl,rfl⟩
 ·have ix:atI [V.str "",V.str "unmap",V.str "rights"] 1=some (.str "unmap"):=rfl
  walk_at "go"
  rw[decide_eq_true rfl]
  exact k H1 s1
 ·have ix:atI [V.str "",V.str "unmap",V.str "rights"] 2=some (.str "rights"):=rfl
  walk_at "go"
  rw[decide_eq_true rfl]
  exact k H1 s1
end
end K19

set_option maxHeartbeats 4000000
namespace K19
open PySem L2
structure Hf (a:Adr)(H:Hp)(p d:Addr)(ns:List Int)(low task base:Int)(long:Nat)(nd:Ix->Option Addr)(fp:List Addr)(cn:Nat)(M:Mf)(kvs:List (Key×V))(ks:List Int): Prop where
 S:bZ a H p ns low task nd fp cn
 A:Ab a H ns nd M
 KP:Kp H d M kvs ks
 inn:∀n g,M n=some g->(base<=n/\n < base+long)/\g.ok/\OkR g.rights
 nf:d∉fp
 b0:0<=base
 b1:base+long<=pgs ns
 lg:long<=40
structure Did (H H':Hp)(d:Addr)(fp fp':List Addr): Prop where
 k:bF H H'
 o:∀b u,H b=some u->b≠d->b∉fp->H' b=some u
 n:∀b∈fp',b∈fp\/H b=none
theorem Did.same {H H':Hp}{d:Addr}{fp:List Addr}(s:Same H H'): Did H H' d fp fp:=⟨bF.same s,fun b u e _ _=>s b u e,fun _ h=>.inl h⟩
theorem Did.trans {H H' H'':Hp}{d:Addr}{fp fp' qS:List Addr}(x:Did H H' d fp fp')(y:Did H' H'' d fp' qS)(lv:∀b u,H b=some u->H' b≠none): Did H H'' d fp qS:=by
 refine⟨x.k.trans y.k,fun b u e n1 n2=>y.o b u (x.o b u e n1 n2) n1 fun z=>?_,fun b hb=>?_⟩
 ·rcases x.n b z with w | w
  ·exact n2 w
  ·rw[w] at e;cases e
 ·rcases y.n b hb with w | w
  ·exact x.n b w
  ·refine .inr ?_
   cases e:H b with
   | none=>rfl
   | some u=>exact absurd w (lv b u e)
section
variable {a:Adr}{H H':Hp}{p d:Addr}{ns:List Int}{low task base:Int}{long:Nat}{nd nd':Ix->Option Addr}{fp fp':List Addr}{cn:Nat}{M M':Mf}{kvs kvs':List (Key×V)}{ks ks':List Int}
theorem Hf.same (W:Hf a H p d ns low task base long nd fp cn M kvs ks)(s:Same H H'): Hf a H' p d ns low task base long nd fp cn M kvs ks :=
 { W with S:=W.S.same s,A:=W.A.same s,KP:=W.KP.same s }
theorem Hf.few (W:Hf a H p d ns low task base long nd fp cn M kvs ks): kvs.length<=40/\ks.length<=40:=by
 have h:=W.KP.few fun n g e=>(W.inn n g e).1
 have:=W.lg
 omega
theorem Hf.lv (W:Hf a H p d ns low task base long nd fp cn M kvs ks): ∀m x,0<=m->m < pgs ns->nd (parts ns m)=some x->∃g:Lf,dn a H x g:=fun m x h1 h2 h3=>let ⟨g,_,h⟩:=W.A.leaf h1 h2 h3;⟨g,h⟩
theorem Kp.sp {H1:Hp}(S:bZ a H1 p ns low task nd fp cn)(A:Ab a H1 ns nd M')(hd:H1 d=some (.dK kvs))(nf:d∉fp)(k:∀b u,H1 b=some u->b≠d->H' b=some u): bZ a H' p ns low task nd fp cn/\Ab a H' ns nd M'/\bF H1 H':=by
 have kn:bF H1 H':=fun b u e n=>k b u e fun z=>by rw[z,hd] at e;cases e;exact n _ rfl
 exact⟨S.Hx k nf hd,A.kept kn,kn⟩
theorem yE {H1:Hp}(fr:L2.Fr fp fp' H H1)(kn:bF H H1)(k:∀b u,H1 b=some u->b≠d->H' b=some u)(kn2:bF H1 H'): Did H H' d fp fp' :=
 ⟨kn.trans kn2,fun b u e n1 n2=>k b u (fr.1 b u e n2) n1,fr.2⟩
end
theorem C6 {M:Mf}{f:Int}{gs:List Lf}{i:Nat}{g:Lf}(h:gs[i]?=some g): (M.lay f (gs.take i)).put (f+i) (some g)=M.lay f (gs.take (i+1)):=funext fun m=>by
 have il:=(List.getElem?_eq_some_iff.mp h).1
 unfold Mf.lay
 by_cases c:m=f+i
 ·rw[c,Mf.jZ,if_pos (by rw[List.length_take];omega),show (f+(i:Int)-f).toNat=i by omega,List.getElem?_take_of_lt (Nat.lt_succ_self _),h]
 ·rw[Mf.jg c]
  rw[List.length_take,List.length_take]
  by_cases c2:f<=m/\m < f+((min i gs.length:Nat):Int)
  ·rw[if_pos c2,if_pos (by omega),List.getElem?_take_of_lt (by omega),List.getElem?_take_of_lt (by omega)]
  ·rw[if_neg c2,if_neg (by omega)]
theorem C7 (M:Mf)(f:Int)(gs:List Lf): M.lay f (gs.take 0)=M:=funext fun m=>by
 unfold Mf.lay
 rw[if_neg (by rw[List.take_zero];show ¬(f<=m/\m < f+((0:Nat):Int));omega)]
def xK (a:Adr): Sp:=fun vs H Q _=>∃(p d rl:Addr) (way f r:Int) (ns:List Int) (low task base:Int) (long:Nat) (nd:Ix->Option Addr) (fp:List Addr) (cn:Nat) (M:Mf) (kvs:List (Key×V)) (ks:List Int) (ts:List Addr) (gs:List Lf),vs=[.ref p,.ref d,.int task,.int low,.int way,.int f,.ref rl,.int r]/\Hf a H p d ns low task base long nd fp cn M kvs ks/\cn < 80000/\RwL H rl ts gs/\(∀g∈gs,Lf.ok g/\OkR g.rights)/\1<=gs.length/\gs.length<=4/\base<=f/\f+gs.length<=base+long/\OkR r/\(way=0\/way=1\/way=2) ∧
 ∀nd' fp' M' kvs' ks' H',Hf a H' p d ns low task base long nd' fp' (cn+64) M' kvs' ks'->Did H H' d fp fp'->Q (.bl true) H'
section
variable {P:Program}{w:World}{K:W.Frag}{mg:Str->Option Value}{base:Heap}{a:Adr}
theorem vQ {dvs:List V} (R:cE K mg "_law_step" cX ["_law_space", "_law_own", "_law_task", "_law_low", "_law_way", "_law_first", "_law_rows", "_law_rights"] dvs) (T:Txt w K mg a)
  (lh:HasFn P w K mg base 9 "_law_done" ["_law_space", "_law_way", "_law_first", "_law_rows", "_law_rights"] (xJ a) [])
  (bA:HasFn P w K mg base 1 "_law_whole" ["_law_found"] (nW) [])
  (gM:HasFn P w K mg base 2 "_law_unmapped" ["_law_refusal", "_law_task", "_law_address", "_law_way"] (zE a) [])
  (bR:HasFn P w K mg base 2 "_law_like" ["_law_found", "_law_due"] (nX) [])
  (bS:aE P w K mg base a.bp 1 "row" ["self"] (cy a 0) [])
  (b8:aE P w K mg base a.bC 1 "row" ["self"] (cy a 1) [])
  (cL:aE P w K mg base a.b9 1 "row" ["self"] (cy a 2) [])
  (bT:aE P w K mg base a.aZ 1 "row" ["self"] (cy a 3) []) :
  HasFn P w K mg base 10 "_law_step" ["_law_space", "_law_own", "_law_task", "_law_low", "_law_way", "_law_first", "_law_rows", "_law_rights"] (xK a) dvs:=by
 refine R.ok d6 (fun vs H Q E h=>?_) (fun f cdv A outer s H vs Q E hr h=>?_)
 ·obtain⟨p,d,rl,way,fi,r,ns,low,task,base',long,nd,fp,cn,M,kvs,ks,ts,gs,rfl,_⟩:=h
  rfl
 obtain⟨p,d,rl,way,fi,r,ns,low,task,base',long,nd,fp,cn,M,kvs,ks,ts,gs,rfl,W,cc,RW,AV,g1,g4,f0,f1,okr,hw,k⟩:=h
 let R4:{t:TS // PSs (dJ (CXE P w) P w K mg base iQ "_law_step" (au cX) f cdv A outer s H E) ((aO cX).drop 4) t}:=⟨_,(@ah _ _ _ _ _ (cM bU rfl (fG (by rfl) T.eI (@ae _ _ _ _ _ (aH aJ (by rfl) T.cT PySem.boot_len (@ae _ _ _ _ _ (pv 6) af rfl)) af rfl)) (bn (i:=10) d6.nd rfl (by first | exact Or.inl rfl | exact Or.inr rfl))
   (@aq _ _ _ (bD (aW fb (pv 4) aw (bo _)) (@aq _ _ _ (@mS _ _ _ _ _ _ _ _ _ hr.u1 (pv 1) (aM cB (pv 5) (pv 10)) (@aX _ _ _ _ _ _ _ aV (pv 6) (pv 10) (fun _ _=>rfl)) (by rfl))) (@aq _ _ _ (bD (aW fb (pv 4) aw (bo _)) (@aq _ _ _ (bD (cA (dI (bv bR (hr.mono (by decide)) (by rfl) ao (@ae _ _ _ _ _ (mX (k:=1) (m := "row") (dvs:=[]) (@aX _ _ _ _ _ _ _ aV (pv 8) (pv 10) (fun _ _=>rfl)) (hr.mono (by decide)) ao (by rfl)) (@ae _ _ _ _ _ (wu (pv 1) (aM cB (pv 5) (pv 10)) ⟨rfl,rfl,rfl,rfl⟩) af rfl) rfl)))) (@aq _ _ _ (@aG _ _ _ _ eR)) aQ)) (@ah _ _ _ _ _ (@aI _ _ 11 _ _ _ _ d6.nd rfl (by first | exact Or.inl rfl | exact Or.inr rfl) (gS hr.u1 (pv 1) (aM cB (pv 5) (pv 10)) (fun _ _=>rfl)) (by rfl) (by first | exact Or.inl rfl | exact Or.inr rfl))
   (@aq _ _ _ (@mS _ _ _ _ _ _ _ _ _ hr.u1 (pv 1) (aM cB (pv 5) (pv 10)) (aM yQ (@c8 _ _ _ _ _ (@ae _ _ _ _ _ (@aX _ _ _ _ _ _ _ ck (pv 11) aw (fun _ _=>rfl)) (@ae _ _ _ _ _ (pv 7) af rfl) rfl)) (fZ oh (pv 11) (gR aw) jE)) (by rfl)))))))))
   (@aq _ _ _ (@aG _ _ _ _ eR)))⟩
 let R2:{t:TS // PSs (dJ (CXE P w) P w K mg base iQ "_law_step" (au cX) f cdv A outer s H E) ((aO cX).drop 2) t}:=⟨_,(@ah _ _ _ _ _ (bD (aW qm (pv 9) eX (bo _)) (@aq _ _ _ (@aG _ _ _ _ eR)) aQ)
   (@ah _ _ _ _ _ (bD (PW.pt (uF (aW fb (pv 4) aw (bo _)) (qk (PW.pt (jn (cA (dI (aH bP (by rfl) T.bw PyProof.Rows.Boot.«isinstance» (@ae _ _ _ _ _ (pv 8) (@ae _ _ _ _ _ (gQ (v:=.ty "list") (by rfl) T.oS PyProof.Rows.Boot.«list» rfl) af rfl) rfl)))) (g6 (aW lT (aH aJ (by rfl) T.cT PySem.boot_len (@ae _ _ _ _ _ (pv 8) af rfl)) (aH aJ (by rfl) T.cT PySem.boot_len (@ae _ _ _ _ _ (pv 6) af rfl)) (bo _)))))))) (@aq _ _ _ (@aG _ _ _ _ eR)) aQ)
   R4.2))⟩
 let R1:{t:TS // PSs (dJ (CXE P w) P w K mg base iQ "_law_step" (au cX) f cdv A outer s H E) ((aO cX).drop 1) t}:=⟨_,(@ah _ _ _ _ _ (cM bU rfl (fG (by rfl) T.eI (@ae _ _ _ _ _ (aH aJ (by rfl) T.cT PySem.boot_len (@ae _ _ _ _ _ (pv 6) af rfl)) af rfl)) (bn (i:=10) d6.nd rfl (by first | exact Or.inl rfl | exact Or.inr rfl))
   (@ah _ _ _ _ _ (bD (PW.pt (uF (aW fb (pv 4) aw (bo _)) (qk (aW (BV hr.u1) (aM cB (pv 5) (pv 10)) (pv 1) (by with_unfolding_all rfl))))) (@aq _ _ _ (@aG _ _ _ _ (n_ (aH bP (by rfl) T.bw PyProof.Rows.Boot.«isinstance» (@ae _ _ _ _ _ (pv 9) (@ae _ _ _ _ _ (mL (v:=.ref a.bj) (by rfl) T.zc rfl) af rfl) rfl)) (n_ (bv bA (hr.mono (by decide)) (by rfl) ao (@ae _ _ _ _ _ (fV (pv 9) rfl) af rfl)) (uG (fU fb (fV (pv 9) rfl) (aM cB (pv 5) (pv 10)) (bo _))))))) aQ)
   (@aq _ _ _ (bD (PW.pt (uF (aW Eg (pv 4) aw (bo _)) (qk (aW (gZ hr.u1) (aM cB (pv 5) (pv 10)) (pv 1) (by with_unfolding_all rfl))))) (@aq _ _ _ (@aG _ _ _ _ (bv gM (hr.mono (by decide)) (by rfl) ao (@ae _ _ _ _ _ (pv 9) (@ae _ _ _ _ _ (pv 2) (@ae _ _ _ _ _ (aM qC (aM cB (pv 5) (pv 10)) (aM kr aw (pv 3))) (@ae _ _ _ _ _ (pv 4) af rfl) rfl) rfl) rfl)))) aQ))))
   R2.2)⟩
 refine⟨_,(@ah _ _ _ _ _ (EL (bv lh (hr.mono (by decide)) (by rfl) ao (@ae _ _ _ _ _ (pv 0) (@ae _ _ _ _ _ (pv 4) (@ae _ _ _ _ _ (pv 5) (@ae _ _ _ _ _ (pv 6) (@ae _ _ _ _ _ (pv 7) af rfl) rfl) rfl) rfl) rfl)) (qz (n:=2) rfl (eA (bn (i:=8) d6.nd rfl (by first | exact Or.inl rfl | exact Or.inr rfl)) (eA (bn (i:=9) d6.nd rfl (by first | exact Or.inl rfl | exact Or.inr rfl)) mM))))
   R1.2),?_⟩
 have gd:=W.S.good
 have b0:=W.b0
 have b1:=W.b1
 have lg:=W.lg
 have lv:=W.lv
 have WS:=W.S
 have st:nH ns fi gs.length:=⟨⟨by omega,by omega⟩,by omega,by omega⟩
 have tl:(ts.map V.ref).length=gs.length:=by rw[List.length_map,RW.len]
 have cc8:cn < 80000:=cc
 have fin:∀H',Same H H'->Q (.bl true) H':=fun H' s=>k nd fp M kvs ks H' { W.same s with S:=(W.S.same s).mono (by omega) } (Did.same s)
 have mn:∀m:Int,0<=m->m < pgs ns->(nd (parts ns m)=none↔M m=none):=fun m h1 h2=>by
  have:=W.A.isS h1 h2
  cases e1:nd (parts ns m)<;>cases e2:M m<;>rw[e1,e2] at this<;>simp at this<;>simp
 have P1:∀(v8 v9:V) (H1:Hp),RwL H1 rl ts gs->Kp H1 d M kvs ks->(∀i:Nat,i < gs.length->(way=0->M (fi+i)=none)/\(way≠0->(M (fi+i)).isSome=true))->(∀v10,R2.1 { nx:=fun _ H'=>Q .non H',rt:=Q } [some (.ref p),some (.ref d),some (.int task),some (.int low),some (.int way),some (.int fi),some (.ref rl),some (.int r),some v8,some v9,v10,none] H1)->R1.1 { nx:=fun _ H'=>Q .non H',rt:=Q } [some (.ref p),some (.ref d),some (.int task),some (.int low),some (.int way),some (.int fi),some (.ref rl),some (.int r),some v8,some v9,none,none] H1:=by
  intro v8 v9 H1 RW1 KP1 cond h
  have hrl:=RW1.hl
  have hd1:=KP1.h
  have id1:IsD H1 d:=.inl ⟨kvs,Rd.of hd1⟩
  walk_at "go"
  refine dF (fun i σ H'=>Bx (H'=H1/\∃v10,σ=[some (.ref p),some (.ref d),some (.int task),some (.int low),some (.int way),some (.int fi),some (.ref rl),some (.int r),some v8,some v9,v10,none])) ⟨⟨rfl,_,rfl⟩⟩ ?_ ?_
  ·rintro i σ H2 hi ⟨rfl,v10,rfl⟩
   have il:i < gs.length:=by rw[tl] at hi;omega
   have nz:fi+(0+(i:Int))=fi+(i:Int):=by omega
   have gg:dv H2 d (.int (fi+(0+(i:Int)))) (bq kvs (.inl (fi+(0+(i:Int))))):=dv.k (k:=Sum.inl (fi+(0+(i:Int)))) hd1
   rcases hw with rfl | rfl | rfl
   ·have c:=(cond i il).1 rfl
    rw[nz] at gg
    rw[KP1.no _ c,<-nz] at gg
    walk_at "go"
    exact⟨⟨rfl,_,rfl⟩⟩
   ·have c:=(cond i il).2 (by decide)
    obtain⟨g,hg⟩:=Option.isSome_iff_exists.mp c
    obtain⟨t,vt,_⟩:=KP1.so _ g hg
    rw[nz] at gg
    rw[vt,<-nz] at gg
    walk_at "go"
    exact⟨⟨rfl,_,rfl⟩⟩
   ·have c:=(cond i il).2 (by decide)
    obtain⟨g,hg⟩:=Option.isSome_iff_exists.mp c
    obtain⟨t,vt,_⟩:=KP1.so _ g hg
    rw[nz] at gg
    rw[vt,<-nz] at gg
    walk_at "go"
    exact⟨⟨rfl,_,rfl⟩⟩
  ·rintro σ H2 ⟨rfl,v10,rfl⟩
   exact h v10
 walk_at "go"
 refine⟨fun ew j x jl pre hx t e H1 ht tkn s1=>?_,fun ew all t xs nd' fp' H1 ht LV S1 pv fr=>?_,fun dd hwd j jl ho t e H1 ht flt s1=>?_,fun ew t q xs nd' H1 ht hq q0 xl xa S1 pv fr=>?_,fun ew all t ys nd' fp' H1 ht yl S1 ly pv fr=>?_⟩
 ·subst ew
  have D1:R1.1 { nx:=fun _ H'=>Q .non H',rt:=Q } [some (.ref p),some (.ref d),some (.int task),some (.int low),some (.int 0),some (.int fi),some (.ref rl),some (.int r),some .non,some (.ref e),none,none] H1:=by
   have KP1:=W.KP.same s1
   have RW1:=RW.same s1
   have hrl:=RW1.hl
   have hd1:=KP1.h
   have id1:IsD H1 d:=.inl ⟨kvs,Rd.of hd1⟩
   obtain⟨dk,he,hdk⟩:=id tkn
   have ty:TyE K H1 (.ref e) (.ref a.bj):=.Ac he hdk T.vp T.isk
   have kt:=T.Fv
   have xg:=T.sV
   have lk:([("page",.int (fi+(j:Int)))]:List (Str×V)).lookup ("page" : Str)=some (.int (fi+(j:Int))):=rfl
   walk_at "go"
   refine dF (fun i σ H'=>Bx (i<=j/\H'=H1/\∃v10,σ=[some (.ref p),some (.ref d),some (.int task),some (.int low),some (.int 0),some (.int fi),some (.ref rl),some (.int r),some .non,some (.ref e),v10,none])) ⟨⟨Nat.zero_le _,rfl,_,rfl⟩⟩ ?_ ?_
   ·rintro i σ H2 hi ⟨ij,rfl,v10,rfl⟩
    have nz:fi+(0+(i:Int))=fi+(i:Int):=by omega
    have gg:dv H2 d (.int (fi+(0+(i:Int)))) (bq kvs (.inl (fi+(0+(i:Int))))):=dv.k (k:=Sum.inl (fi+(0+(i:Int)))) hd1
    rw[nz] at gg
    by_cases c:i < j
    ·have c0:=(mn (fi+i) (by omega) (by omega)).mp (pre i c)
     rw[KP1.no _ c0,<-nz] at gg
     walk_at "go"
     exact⟨⟨by omega,rfl,_,rfl⟩⟩
    ·have ej:i=j:=by omega
     subst ej
     obtain⟨g,hg,_⟩:=W.A.leaf (by omega) (by omega) hx
     obtain⟨t',vt,_⟩:=KP1.so _ g hg
     rw[vt,<-nz] at gg
     walk_at "go"
     show Q (.bl (decide (V.int (fi+(i:Int))=V.int (fi+(0+(i:Int)))))) H2
     rw[decide_eq_true (by rw[nz])]
     exact fin H2 s1
   ·rintro σ H2 ⟨ij,_⟩
    rw[tl] at ij
    omega
  repeat (first | exact D1 | (apply And.intro;(walk_at "cl")) | walk_at "ex")
 ·subst ew
  have kn:=WS.eV fr
  have fd:=L2.Fr.out fr W.KP.h W.nf
  have KP1:=W.KP.keep kn fd.1
  have RW1:=RW.eV kn
  have A1:=W.A.lay kn pv LV
  have D2:∀v10,R2.1 { nx:=fun _ H'=>Q .non H',rt:=Q } [some (.ref p),some (.ref d),some (.int task),some (.int low),some (.int 0),some (.int fi),some (.ref rl),some (.int r),some .non,some .non,v10,none] H1:=by
   intro v10
   have hrl:=RW1.hl
   walk_at "go"
   refine dF (fun i σ H'=>Bx (∃kvs' ks' v10,Kp H' d (M.lay fi (gs.take i)) kvs' ks'/\(∀b u,H1 b=some u->b≠d->H' b=some u)/\σ=[some (.ref p),some (.ref d),some (.int task),some (.int low),some (.int 0),some (.int fi),some (.ref rl),some (.int r),some .non,some .non,v10,none])) ⟨⟨kvs,ks,_,by rw[C7];exact KP1,fun b u e _=>e,rfl⟩⟩ ?_ ?_
   ·rintro i σ H3 hi ⟨kvs',ks',v10,KP3,k3,rfl⟩
    have il:i < gs.length:=by rw[tl] at hi;omega
    have eg:gs[i]?=some gs[i]:=List.getElem?_eq_getElem il
    generalize gs[i]=g at eg
    have et:ts[i]?=some (ts[i]'(by rw[RW.len];exact il)):=List.getElem?_eq_getElem _
    generalize ts[i]'(by rw[RW.len];exact il)=t' at et
    have nz:fi+(0+(i:Int))=fi+(i:Int):=by omega
    have a1:atI (ts.map V.ref) (0+(i:Int))=some (.ref t'):=by rw[Int.zero_add];exact dN (by rw[List.getElem?_map,et];rfl)
    have IG:=k3 _ _ hrl (fun z=>by rw[z,KP1.h] at hrl;cases hrl)
    have ht1:=RW1.at' i t' g et eg
    have ht3:=k3 _ _ ht1 (fun z=>by rw[z,KP1.h] at ht1;cases ht1)
    have kl3:kvs'.length < sizeLine:=by
     have h:=(KP3.few (base:=base') (long:=long) fun n g h=>?_).1
     ·rw[sizeLine_eq];omega
     ·unfold Mf.lay at h
      by_cases c:fi<=n/\n < fi+(gs.take i).length
      ·rw[List.length_take] at c;omega
      ·rw[if_neg c] at h;exact(W.inn n g h).1
    have dp:=pN.k (k:=Sum.inl (fi+(0+(i:Int)))) (v:=V.ref t') KP3.h kl3
    walk_at "go"
    rw[nz]
    obtain⟨ks2,KP4⟩:=KP3.put (n:=fi+i) ht3
    rw[C6 eg] at KP4
    exact⟨⟨_,ks2,_,KP4,fun b u e nb=>by rw[av nb];exact k3 b u e nb,rfl⟩⟩
   ·rintro σ H3 ⟨kvs',ks',v10,KP3,k3,rfl⟩
    rw[Int.toNat_natCast,tl,List.take_length] at KP3
    walk_at "go"
    obtain⟨S3,A3,kn3⟩:=Kp.sp S1 A1 KP1.h fd.2 k3
    refine k nd' fp' _ kvs' ks' H3 ⟨S3,A3,KP3,fun n g h=>?_,fd.2,b0,b1,lg⟩ (yE fr kn k3 kn3)
    unfold Mf.lay at h
    by_cases c:fi<=n/\n < fi+gs.length
    ·rw[if_pos c] at h
     exact⟨by omega,AV g (List.mem_of_getElem? h)⟩
    ·rw[if_neg c] at h;exact W.inn n g h
  have D1:=P1 .non .non H1 RW1 KP1 (fun i il=>⟨fun _=>(mn _ (by omega) (by omega)).mp (all i il),fun z=>absurd rfl z⟩) D2
  repeat (first | exact D1 | (apply And.intro;(walk_at "cl")) | walk_at "ex")
 ·have D1:R1.1 { nx:=fun _ H'=>Q .non H',rt:=Q } [some (.ref p),some (.ref d),some (.int task),some (.int low),some (.int way),some (.int fi),some (.ref rl),some (.int r),some .non,some (.ref e),none,none] H1:=by
   have KP1:=W.KP.same s1
   have RW1:=RW.same s1
   have hrl:=RW1.hl
   have hd1:=KP1.h
   have id1:IsD H1 d:=.inl ⟨kvs,Rd.of hd1⟩
   have pl1:(1:Int)*2^low.toNat=plc low:=Int.one_mul _
   have ple:=gd.yy
   have plp:=nG low
   have cpl:zN 1 low:=⟨gd.yw,by have:=gd.yx;omega,by decide⟩
   have w1:¬way=0:=fun z=>by rcases hwd with ⟨w,_⟩ | ⟨w,_⟩<;>omega
   have w2:(0:Int) < way:=by rcases hwd with ⟨w,_⟩ | ⟨w,_⟩<;>omega
   walk_at "go"
   refine dF (fun i σ H'=>Bx (i<=j/\H'=H1/\∃v10,σ=[some (.ref p),some (.ref d),some (.int task),some (.int low),some (.int way),some (.int fi),some (.ref rl),some (.int r),some .non,some (.ref e),v10,none])) ⟨⟨Nat.zero_le _,rfl,_,rfl⟩⟩ ?_ ?_
   ·rintro i σ H2 hi ⟨ij,rfl,v10,rfl⟩
    have nz:fi+(0+(i:Int))=fi+(i:Int):=by omega
    have gg:dv H2 d (.int (fi+(0+(i:Int)))) (bq kvs (.inl (fi+(0+(i:Int))))):=dv.k (k:=Sum.inl (fi+(0+(i:Int)))) hd1
    rw[nz] at gg
    have cmu:zO (fi+(0+(i:Int))) (1*2^low.toNat):=.inr (by rw[pl1];omega)
    by_cases c:i < j
    ·have c0:=ho.1 i c
     rw[W.A.isS (by omega) (by omega)] at c0
     obtain⟨g,hg⟩:=Option.isSome_iff_exists.mp c0
     obtain⟨t',vt,_⟩:=KP1.so _ g hg
     rw[vt,<-nz] at gg
     walk_at "go"
     refine lL (fun z=>absurd (V.int.inj z) w1) (fun _=>?_)
     walk_at "go"
     refine lL (fun _=>?_) (fun z=>absurd w2 z)
     walk_at "go"
     exact⟨⟨by omega,rfl,_,rfl⟩⟩
    ·have ej:i=j:=by omega
     subst ej
     have c0:=(mn (fi+i) (by omega) (by omega)).mp ho.2
     rw[KP1.no _ c0,<-nz] at gg
     have IH:C5 H2 e a.aA task ((fi+(0+(i:Int)))*(1*2^low.toNat)) dd:=by rw[pl1,nz];exact flt
     walk_at "go"
     refine lL (fun z=>absurd (V.int.inj z) w1) (fun _=>?_)
     walk_at "go"
     refine lL (fun _=>?_) (fun z=>absurd w2 z)
     walk_at "go"
     exact fun H3 s3=>fin H3 (s1.trans s3)
   ·rintro σ H2 ⟨ij,_⟩
    rw[tl] at ij
    omega
  repeat (first | exact D1 | (apply And.intro;(walk_at "cl")) | walk_at "ex")
 ·subst ew
  have kn:=WS.eV fr
  have fd:=L2.Fr.out fr W.KP.h W.nf
  have KP1:=W.KP.keep kn fd.1
  have RW1:=RW.eV kn
  have A1:=W.A.gone kn pv
  have lx:∀(i:Nat) x,xs[i]?=some x->∃g,M (fi+i)=some g/\dn a H1 x g/\g.ok:=fun i x e=>by
   have il:=(List.getElem?_eq_some_iff.mp e).1
   obtain⟨g,e1,e2⟩:=W.A.leaf (by omega) (by omega) (xa i x e)
   exact⟨g,e1,kn.lf e2,(W.inn _ g e1).2.1⟩
  have mm:∀i:Nat,i < gs.length->(M (fi+i)).isSome=true:=fun i il=>by
   have ex:xs[i]?=some (xs[i]'(by omega)):=List.getElem?_eq_getElem _
   obtain⟨g,e1,_⟩:=lx i _ ex
   rw[e1];rfl
  have xl2:(xs.map V.ref).length=(ts.map V.ref).length:=by rw[tl,List.length_map,xl]
  have kl:=bh K (.type "list")
  have tq:TyE K H1 (.ref q) (.type "list"):=.of (.lst hq)
  have D2:∀v10,R2.1 { nx:=fun _ H'=>Q .non H',rt:=Q } [some (.ref p),some (.ref d),some (.int task),some (.int low),some (.int 1),some (.int fi),some (.ref rl),some (.int r),some (.ref q),some .non,v10,none] H1:=by
   intro v10
   have hrl:=RW1.hl
   walk_at "go"
   refine pO (fun z=>absurd (by rw[xl2]) z) (fun _=>?_)
   walk_at "go"
   refine dF (fun i σ H'=>Bx (∃kvs' ks' v10,Kp H' d (M.gone fi i) kvs' ks'/\(∀b u,H1 b=some u->b≠d->H' b=some u)/\σ=[some (.ref p),some (.ref d),some (.int task),some (.int low),some (.int 1),some (.int fi),some (.ref rl),some (.int r),some (.ref q),some .non,v10,none])) ⟨⟨kvs,ks,_,by rw[AQ];exact KP1,fun b u e _=>e,rfl⟩⟩ ?_ ?_
   ·rintro i σ H3 hi ⟨kvs',ks',v10,KP3,k3,rfl⟩
    have il:i < gs.length:=by rw[tl] at hi;omega
    have ex:xs[i]?=some (xs[i]'(by omega)):=List.getElem?_eq_getElem _
    generalize xs[i]'(by omega)=x at ex
    obtain⟨g,hg,lf,ok⟩:=lx i x ex
    have nz:fi+(0+(i:Int))=fi+(i:Int):=by omega
    have a1:atI (xs.map V.ref) (0+(i:Int))=some (.ref x):=by rw[Int.zero_add];exact dN (by rw[List.getElem?_map,ex];rfl)
    have hq3:=k3 _ _ hq (fun z=>by rw[z,KP1.h] at hq;cases hq)
    have lf':dn a H3 x g:=let ⟨dl,h⟩:=lf;⟨dl,k3 _ _ h fun z=>by rw[z,KP1.h] at h;cases h⟩
    obtain⟨t',vt,ht'⟩:=KP3.so (fi+i) g (by rw[D_];exact hg)
    obtain⟨C,dxl,fs,f1',f2',f3',f4'⟩:∃C dx fs,H3 x=some (.ins C dx fs)/\Cls K C/\aE P w K mg base C 1 "row" ["self"] (cy a g.kind) []/\fs.lookup ("row" : Str)=none:=by
     obtain⟨dl,hl⟩:=id lf'
     cases g with
     | fresh r=>exact⟨_,_,_,hl,T.dD,bS,by walk_at "lk"⟩
     | held r f=>exact⟨_,_,_,hl,T.eG,b8,by walk_at "lk"⟩
     | out r f=>exact⟨_,_,_,hl,T.gH,cL,by walk_at "lk"⟩
     | named r n f=>exact⟨_,_,_,hl,T.dE,bT,by walk_at "lk"⟩
    walk_at "go"
    intro v hv
    generalize hh:upd _ v _=H4
    obtain⟨s4,e4⟩:=b7 hv hh
    clear hh
    have hd4:=s4 _ _ KP3.h
    have id4:IsD H4 d:=.inl ⟨kvs',Rd.of hd4⟩
    have kn4:V.int (fi+(0+(i:Int)))=kV (Sum.inl (fi+(0+(i:Int))):Key):=rfl
    have vt':bq kvs' (Sum.inl (fi+(0+(i:Int))))=some (.ref t'):=by rw[nz];exact vt
    have nvd:v≠d:=(ay KP3.h hv).symm
    have ntd:t'≠d:=fun z=>by rw[z,KP3.h] at ht';cases ht'
    have e4':upd H4 d (.dK (dA kvs' (.inl (fi+(0+(i:Int)))))) v=some (.tup g.row):=by rw[av nvd];exact(by assumption)
    have II:upd H4 d (.dK (dA kvs' (.inl (fi+(0+(i:Int)))))) t'=some (.tup g.row):=by rw[av ntd];exact s4 _ _ ht'
    walk_at "go"
    rw[nz]
    obtain⟨ks2,KP5⟩:=(KP3.same s4).drop (fi+i)
    rw[AO] at KP5
    exact⟨⟨_,ks2,_,KP5,fun b u e nb=>by rw[av nb];exact s4 _ _ (k3 b u e nb),rfl⟩⟩
   ·rintro σ H3 ⟨kvs',ks',v10,KP3,k3,rfl⟩
    rw[Int.toNat_natCast,tl] at KP3
    walk_at "go"
    obtain⟨S3,A3,kn3⟩:=Kp.sp S1 A1 KP1.h fd.2 k3
    refine k nd' fp _ kvs' ks' H3 ⟨S3.mono (by omega),A3,KP3,fun n g h=>?_,fd.2,b0,b1,lg⟩ (yE fr kn k3 kn3)
    unfold Mf.gone at h
    by_cases c:fi<=n/\n < fi+(gs.length:Int)
    ·rw[if_pos c] at h;cases h
    ·rw[if_neg c] at h;exact W.inn n g h
  have D1:=P1 (.ref q) .non H1 RW1 KP1 (fun i il=>⟨fun z=>absurd z (by decide),fun _=>mm i il⟩) D2
  repeat (first | exact D1 | (apply And.intro;(walk_at "cl")) | walk_at "ex")
 ·subst ew
  have kn:=WS.eV fr
  have fd:=L2.Fr.out fr W.KP.h W.nf
  have KP1:=W.KP.keep kn fd.1
  have RW1:=RW.eV kn
  have A1:=W.A.chg (j:=gs.length) kn (by omega) (fun i hi=>all i (by omega)) ly (by rw[show ((gs.length:Nat):Int)=(ys.length:Int) by omega] at *;exact pv)
  have mm:∀i:Nat,i < gs.length->(M (fi+i)).isSome=true:=fun i il=>by
   rw[<-W.A.isS (by omega) (by omega)];exact all i il
  have D2:∀v10,R2.1 { nx:=fun _ H'=>Q .non H',rt:=Q } [some (.ref p),some (.ref d),some (.int task),some (.int low),some (.int 2),some (.int fi),some (.ref rl),some (.int r),some .non,some .non,v10,none] H1:=by
   intro v10
   have hrl:=RW1.hl
   walk_at "go"
   refine dF (fun i σ H'=>Bx (∃kvs' ks' v10 v11,Kp H' d (M.chg fi i r) kvs' ks'/\(∀b u,H1 b=some u->b≠d->H' b=some u)/\σ=[some (.ref p),some (.ref d),some (.int task),some (.int low),some (.int 2),some (.int fi),some (.ref rl),some (.int r),some .non,some .non,v10,v11])) ⟨⟨kvs,ks,_,_,by rw[CP];exact KP1,fun b u e _=>e,rfl⟩⟩ ?_ ?_
   ·rintro i σ H3 hi ⟨kvs',ks',v10,v11,KP3,k3,rfl⟩
    have il:i < gs.length:=by rw[tl] at hi;omega
    obtain⟨g,hg⟩:=Option.isSome_iff_exists.mp (mm i il)
    obtain⟨t',vt,ht'⟩:=KP3.so (fi+i) g (by rw[FH];exact hg)
    have hd3:=KP3.h
    have id3:IsD H3 d:=.inl ⟨kvs',Rd.of hd3⟩
    have gg:dv H3 d (.int (fi+(i:Int))) (bq kvs' (.inl (fi+(i:Int)))):=dv.k (k:=Sum.inl (fi+(i:Int))) hd3
    have nz:fi+(0+(i:Int))=fi+(i:Int):=by omega
    rw[vt,<-nz] at gg
    have vt':bq kvs' (Sum.inl (fi+(0+(i:Int))))=some (.ref t'):=by rw[nz];exact vt
    obtain⟨sn,a0,er⟩:=CU g r
    have cw:=CV g
    walk_at "go"
    intro u hu
    generalize hh:upd _ u _=H4
    obtain⟨s4,e4⟩:=b7 hu hh
    clear hh
    have ht4:=s4 _ _ ht'
    walk_at "go"
    intro v hv
    generalize hh:upd _ v _=H5
    obtain⟨s5,e5⟩:=b7 hv hh
    clear hh
    rw[D8] at e5
    have e45:=s5 _ _ e4
    have kl3:kvs'.length < sizeLine:=by
     have h:=(KP3.few (base:=base') (long:=long) fun n g h=>?_).1
     ·rw[sizeLine_eq];omega
     ·unfold Mf.chg at h
      by_cases c:fi<=n/\n < fi+(i:Int)
      ·omega
      ·rw[if_neg c] at h;exact(W.inn n g h).1
    have rf:=D9 g
    have ne:[V.str sn,V.int r]≠[]:=fun z=>by cases z
    have s35:=s4.trans s5
    have fin2:∀(tt:Addr) (H6:Hp),Same H3 H6->H6 tt=some (.tup (g.lZ r).row)->∃C8 ks2,Kp (upd H6 d (.dK (putK kvs' (.inl (fi+(i:Int))) (.ref tt)))) d (M.chg fi ((i+1:Nat):Int) r) C8 ks2/\∀b u,H1 b=some u->b≠d->upd H6 d (.dK (putK kvs' (.inl (fi+(i:Int))) (.ref tt))) b=some u:=fun tt H6 s6 ht6=>by
     obtain⟨ks2,KP6⟩:=(KP3.same s6).put (n:=fi+i) ht6
     rw[CQ hg] at KP6
     exact⟨_,ks2,KP6,fun b u e nb=>by rw[av nb];exact s6 _ _ (k3 b u e nb)⟩
    walk_at "go"
    refine⟨by rw[sizeLine_eq,List.length_drop];show 2+_<=_;omega,fun z=>?_,fun z tt htt=>?_⟩
    ·have dp:=pN.k (k:=Sum.inl (fi+(0+(i:Int)))) (v:=V.ref u) (s35 _ _ hd3) kl3
     walk_at "go"
     rw[nz]
     rw[z,List.append_nil] at er
     obtain⟨C8,ks2,q1,q2⟩:=fin2 u H5 s35 (by rw[er];exact e45)
     exact⟨⟨C8,ks2,_,_,q1,q2,rfl⟩⟩
    ·generalize hh:upd H5 tt _=H6
     obtain⟨s6,e6⟩:=b7 htt hh
     clear hh
     have dp:=pN.k (k:=Sum.inl (fi+(0+(i:Int)))) (v:=V.ref tt) (s6 _ _ (s35 _ _ hd3)) kl3
     walk_at "go"
     rw[nz]
     obtain⟨C8,ks2,q1,q2⟩:=fin2 tt H6 (s35.trans s6) (by rw[er];exact e6)
     exact⟨⟨C8,ks2,_,_,q1,q2,rfl⟩⟩
   ·rintro σ H3 ⟨kvs',ks',v10,v11,KP3,k3,rfl⟩
    rw[Int.toNat_natCast,tl] at KP3
    walk_at "go"
    obtain⟨S3,A3,kn3⟩:=Kp.sp S1 A1 KP1.h fd.2 k3
    refine k nd' fp' _ kvs' ks' H3 ⟨S3,A3,KP3,fun n g h=>?_,fd.2,b0,b1,lg⟩ (yE fr kn k3 kn3)
    unfold Mf.chg at h
    by_cases c:fi<=n/\n < fi+(gs.length:Int)
    ·rw[if_pos c,Option.map_eq_some_iff] at h
     obtain⟨g',h1,rfl⟩:=h
     exact⟨(W.inn n g' h1).1,CW (W.inn n g' h1).2.1,by cases g'<;>exact okr⟩
    ·rw[if_neg c] at h;exact W.inn n g h
  have D1:=P1 .non .non H1 RW1 KP1 (fun i il=>⟨fun z=>absurd z (by decide),fun _=>mm i il⟩) D2
  repeat (first | exact D1 | (apply And.intro;(walk_at "cl")) | walk_at "ex")
end
end K19

set_option maxHeartbeats 4000000
namespace K19
open PySem L2
theorem AW {r:Int}(h:OkR r): decide (V.int (r / 2%2)=V.int 0)=!rT r "write" := by
 have:r=0\/r=1\/r=2\/r=3:=by have:=h.1;have:=h.2;omega
 rcases this with rfl | rfl | rfl | rfl<;>decide +kernel
theorem AX {r:Int}(h:OkR r): decide (V.int (r / 1%2)=V.int 0)=!rT r "read" := by
 have:r=0\/r=1\/r=2\/r=3:=by have:=h.1;have:=h.2;omega
 rcases this with rfl | rfl | rfl | rfl<;>decide +kernel
theorem zF {r:Int} {dd:Str} (h:OkR r) (hd:dd = "read" ∨ dd = "write"):∃bt:Int,atI [V.int 1,V.int 2] (if decide (V.str dd=V.str "write")=true then 1 else 0)=some (.int bt)/\(bt=1\/bt=2)/\decide (V.int (r / bt%2)=V.int 0)=!rT r dd:=by
 rcases hd with rfl | rfl
 ·refine⟨1,?_,.inl rfl,AX h⟩
  rw[if_neg (by decide +kernel)];rfl
 ·refine⟨2,?_,.inr rfl,AW h⟩
  rw[if_pos (by decide +kernel)];rfl
theorem zG (g:Lf): atI g.row 1=some (.int g.rights):=by cases g<;>rfl
def sk (a:Adr): Sp:=fun vs H Q _=>∃(p d:Addr) (n c:Int) (ns:List Int) (low task base:Int) (long:Nat) (nd:Ix->Option Addr) (fp:List Addr) (cn:Nat) (M:Mf) (kvs:List (Key×V)) (ks:List Int),vs=[.ref p,.ref d,.int task,.int low,.int n,.int c]/\Hf a H p d ns low task base long nd fp cn M kvs ks/\(0<=n/\n < pgs ns)/\∀H',Same H H'->Q (.bl true) H'
def pJ (a:Adr)(H:Hp)(t:Addr): Prop:=∃x tr g,H t=some (.tup [.ref x,.ref tr])/\dn a H x g/\H tr=some (.tup g.row)/\g.ok
theorem pJ.eV {a:Adr}{H H':Hp}{t:Addr}(h:pJ a H t)(k:bF H H'): pJ a H' t:=let ⟨x,tr,g,h1,h2,h3,h4⟩:=h;⟨x,tr,g,k.tup h1,k.lf h2,k.tup h3,h4⟩
def xL (a:Adr): Sp:=fun vs H Q _=>∃(p d hl:Addr) (n:Int) (ns:List Int) (low task base:Int) (long:Nat) (nd:Ix->Option Addr) (fp:List Addr) (cn:Nat) (M:Mf) (kvs:List (Key×V)) (ks:List Int) (hs:List Addr),vs=[.ref p,.ref d,.ref hl,.int n]/\Hf a H p d ns low task base long nd fp cn M kvs ks/\(0<=n/\n < pgs ns)/\H hl=some (.lst (hs.map V.ref))/\hs.length < 1000 ∧
 (∀H',Same H H'->Q .non H')/\(∀t H',pJ a H' t->H' hl=some (.lst ((hs++[t]).map V.ref))->(∀b u,H b=some u->b≠hl->H' b=some u)->Q .non H')
section
variable {P:Program}{w:World}{K:W.Frag}{mg:Str->Option Value}{base:Heap}{a:Adr}
theorem sr {dvs:List V} (R:cE K mg "_law_sought" c6 ["_law_space", "_law_own", "_law_task", "_law_low", "_law_page", "_law_cell"] dvs) (T:Txt w K mg a)
  (aL:HasFn P w K mg base 1 "_law_drawn" ["_law_cell", "_law_by", "_law_prime", "_law_many"] (lI) [])
  (j3:aE P w K mg base a.aD 7 "seek" ["self", "address", "deed"] (CK a) [])
  (bR:HasFn P w K mg base 2 "_law_like" ["_law_found", "_law_due"] (nX) [])
  (bS:aE P w K mg base a.bp 1 "row" ["self"] (cy a 0) [])
  (b8:aE P w K mg base a.bC 1 "row" ["self"] (cy a 1) [])
  (cL:aE P w K mg base a.b9 1 "row" ["self"] (cy a 2) [])
  (bT:aE P w K mg base a.aZ 1 "row" ["self"] (cy a 3) []) :
  HasFn P w K mg base 8 "_law_sought" ["_law_space", "_law_own", "_law_task", "_law_low", "_law_page", "_law_cell"] (sk a) dvs:=by
 refine R.ok cr (fun vs H Q E h=>?_) (fun f cdv A outer s H vs Q E hr h=>?_)
 ·obtain⟨p,d,n,c,ns,low,task,base',long,nd,fp,cn,M,kvs,ks,rfl,_⟩:=h
  rfl
 obtain⟨p,d,n,c,ns,low,task,base',long,nd,fp,cn,M,kvs,ks,rfl,W,pin,k⟩:=h
 let R5:{t:TS // PSs (dJ (CXE P w) P w K mg base i_ "_law_sought" (au c6) f cdv A outer s H E) ((aO c6).drop 5) t}:=⟨_,(@ah _ _ _ _ _ (bD (PW.pt (jn (aW (gZ hr.u1) (pv 4) (pv 1) (by with_unfolding_all rfl)) (g6 (aW fb (aM eM (aM ql (@aX _ _ _ _ _ _ _ ck (gS hr.u1 (pv 1) (pv 4) (fun _ _=>rfl)) aw (fun _ _=>rfl)) (@aX _ _ _ _ _ _ _ aV (@eh _ _ _ _ (@ae _ _ _ _ _ aw (@ae _ _ _ _ _ aw af rfl) rfl)) (jt zQ (by rfl) T.zi PyProof.Rows.Boot.«int» (@ae _ _ _ _ _ (fU fb (pv 6) b5 (bo _)) af rfl)) (fun _ _=>rfl))) aw) aw (bo _))))) (@ah _ _ _ _ _ (bD (PW.pt (jn (aW lT (aH bP (by rfl) T.bw PyProof.Rows.Boot.«isinstance» (@ae _ _ _ _ _ (pv 9) (@ae _ _ _ _ _ (mL (v:=.ref a.aA) (by rfl) T.jS rfl) af rfl) rfl)) (fU (gZ hr.u1) (pv 4) (pv 1) (by with_unfolding_all rfl)) (bo _)) (g6 (cA (dI (aH bP (by rfl) T.bw PyProof.Rows.Boot.«isinstance» (@ae _ _ _ _ _ (pv 9) (@ae _ _ _ _ _ (mL (v:=.ref a.fm) (by rfl) T.DW rfl) af rfl) rfl))))))) (@aq _ _ _ (@aG _ _ _ _ eR)) aQ)
   (@aq _ _ _ (@aG _ _ _ _ (fU (Fe hr.units) (@c8 _ _ _ _ _ (@ae _ _ _ _ _ (fV (pv 9) rfl) (@ae _ _ _ _ _ (fV (pv 9) rfl) (@ae _ _ _ _ _ (fV (pv 9) rfl) af rfl) rfl) rfl)) (@c8 _ _ _ _ _ (@ae _ _ _ _ _ (pv 2) (@ae _ _ _ _ _ (pv 7) (@ae _ _ _ _ _ (pv 6) af rfl) rfl) rfl)) (bo _))))) aQ)
   (@ah _ _ _ _ _ (bD (PW.pt (jn (aW qm (pv 9) eX (bo _)) (g6 (aW (Ff hr.units) (fZ oh (pv 8) jE (gR aw)) (@c8 _ _ _ _ _ (@ae _ _ _ _ _ (pv 4) (@ae _ _ _ _ _ (aM eM (pv 7) (aM kr aw (pv 3))) af rfl) rfl)) (bo _))))) (@aq _ _ _ (@aG _ _ _ _ eR)) aQ)
   (@aq _ _ _ (@aG _ _ _ _ (bv bR (hr.mono (by decide)) (by rfl) ao (@ae _ _ _ _ _ (mX (k:=1) (m := "row") (dvs:=[]) (@aX _ _ _ _ _ _ _ ck (pv 8) aw (fun _ _=>rfl)) (hr.mono (by decide)) ao (by rfl)) (@ae _ _ _ _ _ (gS hr.u1 (pv 1) (pv 4) (fun _ _=>rfl)) af rfl) rfl))))))⟩
 let R4:{t:TS // PSs (dJ (CXE P w) P w K mg base i_ "_law_sought" (au c6) f cdv A outer s H E) ((aO c6).drop 4) t}:=⟨_,(@ah _ _ _ _ _ (tY (i:=10) rfl rfl rfl rfl T.iR (by rfl) T.iS cr.nd rfl rfl
   (fun pn xe EX hx=>(@aq _ _ _ (@aI _ _ 8 _ _ _ _ cr.nd rfl (by first | exact Or.inl rfl | exact Or.inr rfl) (cq (pv 0) T.aN j3 (hr.mono (by decide)) hx (@ae _ _ _ _ _ (pv 7) (@ae _ _ _ _ _ (pv 6) af rfl) rfl)) (by rfl) (by first | exact Or.inl rfl | exact Or.inr rfl))))
   (fun pn A' xe=>(@aq _ _ _ (@aI _ _ 9 _ _ _ _ cr.nd rfl (by first | exact Or.inl rfl | exact Or.inr rfl) (pv 10) (by rfl) (by first | exact Or.inl rfl | exact Or.inr rfl)))))
   R5.2)⟩
 refine⟨_,(@ah _ _ _ _ _ (@aI _ _ 6 _ _ _ _ cr.nd rfl (by first | exact Or.inl rfl | exact Or.inr rfl) (@aX _ _ _ _ _ _ _ aV (@eh _ _ _ _ (@ae _ _ _ _ _ b5 (@ae _ _ _ _ _ b5 af rfl) rfl)) (bv aL (hr.mono (by decide)) (by rfl) ao (@ae _ _ _ _ _ (pv 5) (@ae _ _ _ _ _ aw (@ae _ _ _ _ _ aw (@ae _ _ _ _ _ aw af rfl) rfl) rfl) rfl)) (fun _ _=>rfl)) (by rfl) (by first | exact Or.inl rfl | exact Or.inr rfl))
   (@ah _ _ _ _ _ (@aI _ _ 7 _ _ _ _ cr.nd rfl (by first | exact Or.inl rfl | exact Or.inr rfl) (aM cB (aM qC (pv 4) (aM kr aw (pv 3))) (bv aL (hr.mono (by decide)) (by rfl) ao (@ae _ _ _ _ _ (pv 5) (@ae _ _ _ _ _ aw (@ae _ _ _ _ _ aw (@ae _ _ _ _ _ (aM kr aw (pv 3)) af rfl) rfl) rfl) rfl))) (by rfl) (by first | exact Or.inl rfl | exact Or.inr rfl))
   (@ah _ _ _ _ _ (@aI _ _ 8 _ _ _ _ cr.nd rfl (by first | exact Or.inl rfl | exact Or.inr rfl) eX (by rfl) (by first | exact Or.inl rfl | exact Or.inr rfl))
   (@ah _ _ _ _ _ (@aI _ _ 9 _ _ _ _ cr.nd rfl (by first | exact Or.inl rfl | exact Or.inr rfl) eX (by rfl) (by first | exact Or.inl rfl | exact Or.inr rfl))
   R4.2)))),?_⟩
 have gd:=W.S.good
 have WS:=W.S
 have t1:=T.aN
 have m2:=T.jW;have m3:=T.rF
 obtain⟨dx,sh,tr,dt,sh2,top,dxs,tsh,hp,_⟩:=id WS
 have d0:=d_ c 30269 99923 (show (0:Int) < 2 by decide)
 have d1:=du c 30269 99923 (show (0:Int) < 2 by decide)
 obtain⟨dd,edd,hdd⟩:∃dd:Str,atI [V.str "read",V.str "write"] (drawn c 30269 99923 2)=some (.str dd)/\(dd = "read" ∨ dd = "write"):=by
  have h:drawn c 30269 99923 2=0\/drawn c 30269 99923 2=1:=by omega
  rcases h with h | h
  ·rw[h];exact⟨"read",rfl,.inl rfl⟩
  ·rw[h];exact⟨"write",rfl,.inr rfl⟩
 have cpl:zN 1 low:=⟨gd.yw,by have:=gd.yx;omega,by decide⟩
 have pl1:(1:Int)*2^low.toNat=plc low:=Int.one_mul _
 have plp:=nG low
 have ple:=gd.yy
 have FK:(0:Int) < 1*2^low.toNat:=by rw[pl1];exact plp
 have IJ:zO n (1*2^low.toNat):=.inr (by rw[pl1];omega)
 have q0:=d_ c 39373 99961 FK
 have q1:=du c 39373 99961 FK
 obtain⟨ad,ead⟩:∃ad:Int,n*(1*2^low.toNat)+drawn c 39373 99961 (1*2^low.toNat)=ad:=⟨_,rfl⟩
 have n0:0<=ad:=by
  have:=Int.mul_nonneg pin.1 (Int.le_of_lt FK);omega
 have n1:ad < pgs ns*plc low:=by
  have h1:(n+1)*plc low<=pgs ns*plc low:=Int.mul_le_mul_of_nonneg_right (by omega) (Int.le_of_lt plp)
  rw[Int.add_mul,Int.one_mul] at h1
  rw[pl1] at q1 ead
  omega
 have hdv:ad / plc low=n:=by
  rw[<-ead]
  rw[pl1] at q0 q1 ⊢
  rw[Int.add_comm,Int.add_mul_ediv_right _ _ (by omega),Int.ediv_eq_zero_of_lt q0 q1]
  omega
 have hin:0<=ad/\ad < pgs ns*plc low:=⟨n0,n1⟩
 have slv:∀x,nd (parts ns (ad / plc low))=some x->∃g:Lf,dn a H x g/\OkR g.rights:=fun x e=>by
  rw[hdv] at e
  obtain⟨g,h1,h2⟩:=W.A.leaf pin.1 pin.2 e
  exact⟨g,h2,(W.inn _ g h1).2.2⟩
 have l1:(o4 (.int task) (.int ad) (.str dd)).lookup ("task" : Str)=some (.int task):=rfl
 have l2:(o4 (.int task) (.int ad) (.str dd)).lookup ("address" : Str)=some (.int ad):=rfl
 have l3:(o4 (.int task) (.int ad) (.str dd)).lookup ("deed" : Str)=some (.str dd):=rfl
 have GF:Tid 2 (.tuple [.int task,.int ad,.str dd]):=Tid.tuple fun x hx=>by
  simp at hx
  rcases hx with rfl | rfl | rfl
  ·exact Tid.int _
  ·exact Tid.int _
  ·exact Tid.str (by rcases hdd with rfl | rfl<;>decide +kernel)
 have D5u:∀(v10:Option V) (e:Addr) (H1:Hp),Same H H1->M n=none->C5 H1 e a.aA task ad dd->R5.1 { nx:=fun _ H'=>Q .non H',rt:=Q } [some (.ref p),some (.ref d),some (.int task),some (.int low),some (.int n),some (.int c),some (.str dd),some (.int ad),some .non,some (.ref e),v10] H1:=by
  intro v10 e H1 s1 mn flt
  obtain⟨dk,he,hdk⟩:=id flt
  have ty:TyE K H1 (.ref e) (.ref a.aA):=.Ac he hdk T.jV T.isk
  have f1:=T.DY;have f2:=T.Fw
  have g1:=T.jz;have g2:=T.gO;have g3:=T.jy
  have KP1:=W.KP.same s1
  have hd1:=KP1.h
  have id1:IsD H1 d:=.inl ⟨kvs,Rd.of hd1⟩
  have gg:dv H1 d (.int n) (bq kvs (.inl n)):=dv.k (k:=Sum.inl n) hd1
  rw[KP1.no n mn] at gg
  walk_at "go"
  intro ta hta
  generalize hh:upd _ ta _=H2
  obtain⟨s2,e2⟩:=b7 hta hh
  clear hh
  walk_at "go"
  intro tb htb
  generalize hh:upd _ tb _=H3
  obtain⟨s3,e3⟩:=b7 htb hh
  clear hh
  have e23:=s3 _ _ e2
  refine ua (.tup (SqT.of e23) (.cons (.int _) (.cons (.int _) (.cons (.str _) .nil)))) (.tup (SqT.of e3) (.cons (.int _) (.cons (.int _) (.cons (.str _) .nil)))) GF ?_
  exact k H3 ((s1.trans s2).trans s3)
 have D5b:∀(v10:Option V) (e:Addr) (g:Lf) (H1:Hp),Same H H1->M n=some g->rT g.rights dd=false->C5 H1 e a.aK task ad dd->R5.1 { nx:=fun _ H'=>Q .non H',rt:=Q } [some (.ref p),some (.ref d),some (.int task),some (.int low),some (.int n),some (.int c),some (.str dd),some (.int ad),some .non,some (.ref e),v10] H1:=by
  intro v10 e g H1 s1 mn mb flt
  obtain⟨dk,he,hdk⟩:=id flt
  have ty:TyE K H1 (.ref e) (.ref a.aK):=.Ac he hdk T.nD T.isk
  have f1:=T.Fx;have f2:=T.Fy
  have g1:=T.rD;have g2:=T.nA;have g3:=T.rC
  have KP1:=W.KP.same s1
  have hd1:=KP1.h
  have id1:IsD H1 d:=.inl ⟨kvs,Rd.of hd1⟩
  have gg:dv H1 d (.int n) (bq kvs (.inl n)):=dv.k (k:=Sum.inl n) hd1
  obtain⟨t,vt,ht⟩:=KP1.so n g mn
  rw[vt] at gg
  have a1:=zG g
  obtain⟨bt,ebt,hbt,emb⟩:=zF (dd:=dd) (W.inn n g mn).2.2 hdd
  rw[mb] at emb
  walk_at "go"
  intro lb hlb
  generalize hh:upd _ lb _=H2
  obtain⟨s2,e2⟩:=b7 hlb hh
  clear hh
  have cdb:EW g.rights bt:=⟨by omega,by omega⟩
  have hd2:=s2 _ _ hd1
  have he2:=s2 _ _ he
  have Hz:=s2 _ _ hdk
  have ty2:TyE K H2 (.ref e) (.ref a.aK):=.Ac he2 Hz T.nD T.isk
  have gg2:dv H2 d (.int n) (bq kvs (.inl n)):=dv.k (k:=Sum.inl n) hd2
  rw[vt] at gg2
  walk_at "go"
  refine .inr ⟨_,rfl,?_⟩
  walk_at "go"
  rw[show decide ((fun i j=>V.int (i%j)) (g.rights / bt) 2=V.int 0)=true from emb]
  refine sE ?_
  walk_at "go"
  intro ta hta
  generalize hh:upd _ ta _=H3
  obtain⟨s3,e3⟩:=b7 hta hh
  clear hh
  walk_at "go"
  intro tb htb
  generalize hh:upd _ tb _=H4
  obtain⟨s4,e4⟩:=b7 htb hh
  clear hh
  have e34:=s4 _ _ e3
  refine ua (.tup (SqT.of e34) (.cons (.int _) (.cons (.int _) (.cons (.str _) .nil)))) (.tup (SqT.of e4) (.cons (.int _) (.cons (.int _) (.cons (.str _) .nil)))) GF ?_
  exact k H4 (((s1.trans s2).trans s3).trans s4)
 have D5f:∀(v10:Option V) (t x:Addr) (g:Lf) (H1:Hp),Same H H1->M n=some g->rT g.rights dd=true->dn a H x g->H1 t=some (.tup [.int n,.int (ad%plc low),.ref x])->R5.1 { nx:=fun _ H'=>Q .non H',rt:=Q } [some (.ref p),some (.ref d),some (.int task),some (.int low),some (.int n),some (.int c),some (.str dd),some (.int ad),some (.ref t),some .non,v10] H1:=by
  intro v10 t x g H1 s1 mn mb lf ht
  have KP1:=W.KP.same s1
  have hd1:=KP1.h
  have id1:IsD H1 d:=.inl ⟨kvs,Rd.of hd1⟩
  have gg:dv H1 d (.int n) (bq kvs (.inl n)):=dv.k (k:=Sum.inl n) hd1
  obtain⟨tg,vt,htg⟩:=KP1.so n g mn
  rw[vt] at gg
  have a1:=zG g
  obtain⟨bt,ebt,hbt,emb⟩:=zF (dd:=dd) (W.inn n g mn).2.2 hdd
  rw[mb] at emb
  walk_at "go"
  intro lb hlb
  generalize hh:upd _ lb _=H2
  obtain⟨s2,e2⟩:=b7 hlb hh
  clear hh
  have cdb:EW g.rights bt:=⟨by omega,by omega⟩
  have ht2:=s2 _ _ ht
  have cw:¬(HT.sIx [V.int n,V.int (ad%plc low),V.ref x].length 0 none=0/\HT.sIx [V.int n,V.int (ad%plc low),V.ref x].length [V.int n,V.int (ad%plc low),V.ref x].length (some 2)=[V.int n,V.int (ad%plc low),V.ref x].length):=fun z=>absurd (show HT.sIx 3 3 (some 2)=3 from z.2) (by decide)
  walk_at "go"
  refine .inr ⟨_,rfl,?_⟩
  walk_at "go"
  rw[show decide ((fun i j=>V.int (i%j)) (g.rights / bt) 2=V.int 0)=false from emb]
  refine Bt ?_
  walk_at "go"
  intro ta hta
  generalize hh:upd _ ta _=H3
  obtain⟨s3,e3⟩:=b7 hta hh
  clear hh
  have e3':H3 ta=some (.tup [.int n,.int (ad%plc low)]):=e3
  walk_at "go"
  intro tb htb
  generalize hh:upd _ tb _=H4
  obtain⟨s4,e4⟩:=b7 htb hh
  clear hh
  have e34:=s4 _ _ e3'
  have e4':H4 tb=some (.tup [.int n,.int (ad%plc low)]):=by rw[e4];rw[<-pl1]
  refine Ah (d:=.tuple [.int n,.int (ad%plc low)]) (.tup (SqT.of e34) (.cons (.int _) (.cons (.int _) .nil))) (.tup (SqT.of e4') (.cons (.int _) (.cons (.int _) .nil))) (Tid.tuple (n:=1) fun x hx=>by
   simp at hx
   rcases hx with rfl | rfl<;>exact Tid.int _) ?_
  have s14:=((s1.trans s2).trans s3).trans s4
  have ht4:=s4 _ _ (s3 _ _ ht2)
  have b2:atI [V.int n,V.int (ad%plc low),V.ref x] 2=some (.ref x):=rfl
  have lf4:=lf.same s14
  have ok:=(W.inn n g mn).2.1
  obtain⟨C,dxl,fs,f1,f2,f3,f4⟩:∃C dx fs,H4 x=some (.ins C dx fs)/\Cls K C/\aE P w K mg base C 1 "row" ["self"] (cy a g.kind) []/\fs.lookup ("row" : Str)=none:=by
   obtain⟨dl,hl⟩:=id lf4
   cases g with
   | fresh r=>exact⟨_,_,_,hl,T.dD,bS,by walk_at "lk"⟩
   | held r f=>exact⟨_,_,_,hl,T.eG,b8,by walk_at "lk"⟩
   | out r f=>exact⟨_,_,_,hl,T.gH,cL,by walk_at "lk"⟩
   | named r n f=>exact⟨_,_,_,hl,T.dE,bT,by walk_at "lk"⟩
  walk_at "go"
  intro v hv
  generalize hh:upd _ v _=H5
  obtain⟨s5,e5⟩:=b7 hv hh
  clear hh
  have hd5:=s5 _ _ ((W.KP.same s14).h)
  have id5:IsD H5 d:=.inl ⟨kvs,Rd.of hd5⟩
  have gg5:dv H5 d (.int n) (bq kvs (.inl n)):=dv.k (k:=Sum.inl n) hd5
  rw[vt] at gg5
  have IK:=s5 _ _ (((s2.trans s3).trans s4) _ _ htg)
  walk_at "go"
  exact k H5 (s14.trans s5)
 have D4:∀H1,Same H H1->R4.1 { nx:=fun _ H'=>Q .non H',rt:=Q } [some (.ref p),some (.ref d),some (.int task),some (.int low),some (.int n),some (.int c),some (.str dd),some (.int ad),some .non,some .non,none] H1:=by
  intro H1 s1
  have S1:=WS.same s1
  have hp1:=s1 _ _ hp
  have IL:∀x,nd (parts ns (ad / plc low))=some x->∃g:Lf,dn a H1 x g/\OkR g.rights:=fun x e=>let ⟨g,h1,h2⟩:=slv x e;⟨g,h1.same s1,h2⟩
  walk_at "go"
  refine⟨fun _ hn dk H2 hdk s2=>?_,fun _ x g hx lf=>⟨fun mb dk H2 hdk s2=>?_,fun mb t H2 ht s2 ht0=>?_⟩⟩
  ·rw[hdv] at hn
   have mn:M n=none:=by
    cases e:M n with
    | none=>rfl
    | some g=>obtain⟨x,e1,_⟩:=W.A.so n g pin.1 pin.2 e;rw[hn] at e1;cases e1
   walk_at "go"
   intro e he
   generalize hh:upd _ e _=H3
   obtain⟨s3,e3⟩:=b7 he hh
   clear hh
   repeat (first | exact D5u _ e H3 ((s1.trans s2).trans s3) mn ⟨dk,e3,s3 _ _ hdk⟩ | (apply And.intro;(walk_at "cl")) | walk_at "ex")
  ·rw[hdv] at hx
   obtain⟨g',mn,lf'⟩:=W.A.leaf pin.1 pin.2 hx
   have eg:g'=g:=yB (lf'.same s1) lf
   subst eg
   walk_at "go"
   intro e he
   generalize hh:upd _ e _=H3
   obtain⟨s3,e3⟩:=b7 he hh
   clear hh
   repeat (first | exact D5b _ e g' H3 ((s1.trans s2).trans s3) mn mb ⟨dk,e3,s3 _ _ hdk⟩ | (apply And.intro;(walk_at "cl")) | walk_at "ex")
  ·rw[hdv] at hx
   obtain⟨g',mn,lf'⟩:=W.A.leaf pin.1 pin.2 hx
   have eg:g'=g:=yB (lf'.same s1) lf
   subst eg
   rw[hdv] at ht
   repeat (first | exact D5f _ t x g' H2 (s1.trans s2) mn mb lf' ht | (apply And.intro;(walk_at "cl")) | walk_at "ex")
 walk_at "go"
 intro lq hlq
 generalize hh:upd _ lq _=H1
 obtain⟨s1,e1⟩:=b7 hlq hh
 clear hh
 have fin:=D4 H1 s1
 rw[<-ead] at fin
 repeat (first | exact fin | (apply And.intro;(walk_at "cl")) | walk_at "ex")
theorem vR {dvs:List V} (R:cE K mg "_law_kept" kQ ["_law_space", "_law_own", "_law_held", "_law_page"] dvs) (T:Txt w K mg a)
  (bf:aE P w K mg base a.aD 6 "leaf" ["self", "page"] (iE a) []) :
  HasFn P w K mg base 7 "_law_kept" ["_law_space", "_law_own", "_law_held", "_law_page"] (xL a) dvs:=by
 refine R.ok vn (fun vs H Q E h=>?_) (fun f cdv A outer s H vs Q E hr h=>?_)
 ·obtain⟨p,d,hl,n,ns,low,task,base',long,nd,fp,cn,M,kvs,ks,hs,rfl,_⟩:=h
  rfl
 obtain⟨p,d,hl,n,ns,low,task,base',long,nd,fp,cn,M,kvs,ks,hs,rfl,W,pin,hhl,hs1,k1,k2⟩:=h
 refine⟨_,(@aq _ _ _ (bD (aW (BV hr.u1) (pv 3) (pv 1) (by with_unfolding_all rfl)) (@aq _ _ _ (bu (tR PySem.F.plainAttrs_list PySem.F.slot_list_append PySem.F.type_list_append fH (pv 2) (@ae _ _ _ _ _ (@c8 _ _ _ _ _ (@ae _ _ _ _ _ (cq (pv 0) T.aN bf (hr.mono (by decide)) ao (@ae _ _ _ _ _ (pv 3) af rfl)) (@ae _ _ _ _ _ (gS hr.u1 (pv 1) (pv 3) (fun _ _=>rfl)) af rfl) rfl)) af rfl)))) aQ)),?_⟩
 have WS:=W.S
 have t1:=T.aN
 obtain⟨dx,sh,tr,dt,sh2,top,dxs,tsh,hp,_⟩:=id WS
 have hd:=W.KP.h
 have id0:IsD H d:=.inl ⟨kvs,Rd.of hd⟩
 have gg:dv H d (.int n) (bq kvs (.inl n)):=dv.k (k:=Sum.inl n) hd
 have zl:(hs.map V.ref).length < sizeLine:=by rw[List.length_map,sizeLine_eq];omega
 cases e:M n with
 | none =>
  rw[W.KP.no n e] at gg
  walk_at "go"
  exact k1 H (.refl _)
 | some g =>
  obtain⟨t,vt,ht⟩:=W.KP.so n g e
  rw[vt] at gg
  obtain⟨x,e1,lf⟩:=W.A.so n g pin.1 pin.2 e
  walk_at "go"
  refine⟨fun _ H1 s1=>?_,fun z=>absurd pin z⟩
  rw[e1]
  have nv:ndV (some x)=.ref x:=rfl
  have hd1:=s1 _ _ hd
  have id1:IsD H1 d:=.inl ⟨kvs,Rd.of hd1⟩
  have gg1:dv H1 d (.int n) (bq kvs (.inl n)):=dv.k (k:=Sum.inl n) hd1
  rw[vt] at gg1
  walk_at "go"
  intro tt htt
  generalize hh:upd _ tt _=H2
  obtain⟨s2,e2⟩:=b7 htt hh
  clear hh
  have hh2:=s2 _ _ (s1 _ _ hhl)
  walk_at "go"
  have kl2:=dO.upd (u:=.lst (hs.map V.ref++[.ref tt])) hh2
  exact k2 tt _ ⟨x,t,g,kl2.tup e2,kl2.lf ((lf.same s1).same s2),kl2.tup (s2 _ _ (s1 _ _ ht)),(W.inn n g e).2.1⟩ (by rw[aj,List.map_append];rfl) fun b u e nb=>by rw[av nb];exact s2 _ _ (s1 _ _ e)
end
end K19

set_option maxHeartbeats 4000000
namespace K19
open PySem L2
def xM (a:Adr): Sp:=fun vs H Q _=>∃(p d:Addr) (c:Int) (ns:List Int) (low task base:Int) (long:Nat) (nd:Ix->Option Addr) (fp:List Addr) (cn:Nat) (M:Mf) (kvs:List (Key×V)) (ks:List Int),vs=[.ref p,.ref d,.int task,.int low,.int c,.int base,.int (long:Int)]/\Hf a H p d ns low task base long nd fp cn M kvs ks/\cn < 70000/\1<=long ∧
 ∀nd' fp' M' kvs' ks' H',Hf a H' p d ns low task base long nd' fp' (cn+64) M' kvs' ks'->Did H H' d fp fp'->Q (.bl true) H'
section
variable {P:Program}{w:World}{K:W.Frag}{mg:Str->Option Value}{base:Heap}{a:Adr}
theorem vS {dvs:List V} (R:cE K mg "_law_deed" gi ["_law_space", "_law_own", "_law_task", "_law_low", "_law_cell", "_law_base", "_law_window"] dvs) (T:Txt w K mg a)
  (aL:HasFn P w K mg base 1 "_law_drawn" ["_law_cell", "_law_by", "_law_prime", "_law_many"] (lI) [])
  (mE:HasFn P w K mg base 2 "_law_row" ["_law_cell"] (CO) [])
  (b4:aE P w K mg base a.aD 6 "put" ["self", "page", "leaf"] (nR a) [])
  (eW:HasFn P w K mg base 5 "_law_leaf" ["_law_row_here"] (vM a) [])
  (lj:HasFn P w K mg base 10 "_law_step" ["_law_space", "_law_own", "_law_task", "_law_low", "_law_way", "_law_first", "_law_rows", "_law_rights"] (xK a) []) :
  HasFn P w K mg base 11 "_law_deed" ["_law_space", "_law_own", "_law_task", "_law_low", "_law_cell", "_law_base", "_law_window"] (xM a) dvs:=by
 refine R.ok fk (fun vs H Q E h=>?_) (fun f cdv A outer s H vs Q E hr h=>?_)
 ·obtain⟨p,d,c,ns,low,task,base',long,nd,fp,cn,M,kvs,ks,rfl,_⟩:=h
  rfl
 obtain⟨p,d,c,ns,low,task,base',long,nd,fp,cn,M,kvs,ks,rfl,W,cc,lo1,k⟩:=h
 let R2:{t:TS // PSs (dJ (CXE P w) P w K mg base pA "_law_deed" (au gi) f cdv A outer s H E) ((aO gi).drop 2) t}:=⟨_,(ah (DA (j:=9) fk.nd rfl rfl (xs:=["_law_k"]) (N':=["_law_space", "_law_own", "_law_task", "_law_low", "_law_cell", "_law_base", "_law_window", "_law_first", "_law_many", "_law_rows", "_law_way"]) rfl ⟨rfl,by decide +kernel,by decide +kernel,by dsimp only [dJ,PyProof.Rows.envOfC];decide +kernel,by decide +kernel,by dsimp only [dJ];decide +kernel,rfl⟩ (fG (by rfl) T.eI (ae (pv 8) af rfl)) (fun _ _ _ _ _=>(bn (i:=0) (by dsimp only [c9];decide +kernel) rfl (by first | exact Or.inl rfl | exact Or.inr rfl))) (fun _ _ _ _ _=>mW) (fun _ _ _ _ _=>(bv mE (hr.mono (by decide)) (by rfl) gY (ae (aM cB (pv 5) (pv 0)) af rfl))))
   (ah (aI (i:=10) fk.nd rfl (by first | exact Or.inl rfl | exact Or.inr rfl) (bv aL (hr.mono (by decide)) (by rfl) ao (ae (pv 4) (ae aw (ae aw (ae aw af rfl) rfl) rfl) rfl)))
   (ah (bD (aW Eg (pv 10) aw (bo _)) (ah (mS hr.u1 (pv 1) (pv 7) (aX aV (pv 9) aw (fun _ _=>rfl)) rfl)
   (ah (bu (cq (pv 0) T.aN b4 (hr.mono (by decide)) ao (ae (pv 7) (ae (bv eW (hr.mono (by decide)) (by rfl) ao (ae (aX aV (pv 9) aw (fun _ _=>rfl)) af rfl)) af rfl) rfl)))
   (aq (aG eR)))) aQ)
   (aq (aG (bv lj (hr.mono (by decide)) (by rfl) ao (ae (pv 0) (ae (pv 1) (ae (pv 2) (ae (pv 3) (ae (aM eM (pv 10) aw) (ae (pv 7) (ae (pv 9) (ae (bv aL (hr.mono (by decide)) (by rfl) ao (ae (pv 4) (ae aw (ae aw (ae aw af rfl) rfl) rfl) rfl)) af rfl) rfl) rfl) rfl) rfl) rfl) rfl) rfl)))))))⟩
 refine⟨_,(ah (aI (i:=7) fk.nd rfl (by first | exact Or.inl rfl | exact Or.inr rfl) (aM cB (pv 5) (bv aL (hr.mono (by decide)) (by rfl) ao (ae (pv 4) (ae aw (ae aw (ae (pv 6) af rfl) rfl) rfl) rfl))))
   (ah (aI (i:=8) fk.nd rfl (by first | exact Or.inl rfl | exact Or.inr rfl) (aM cB aw (bv aL (hr.mono (by decide)) (by rfl) ao (ae (pv 4) (ae aw (ae aw (ae (aH (tL rfl) (by rfl) T.zj PyProof.Rows.Boot.«min» (ae aw (ae (aM iZ (aM cB (pv 5) (pv 6)) (pv 7)) af rfl) rfl)) af rfl) rfl) rfl) rfl))))
   R2.2)),?_⟩
 have gd:=W.S.good
 have WS:=W.S
 have t1:=T.aN
 have b0:=W.b0
 have b1:=W.b1
 have lg:=W.lg
 have lp:(0:Int) < (long:Int):=by omega
 have d0:=d_ c 69621 99989 lp
 have d1:=du c 69621 99989 lp
 obtain⟨fi,efi⟩:∃fi:Int,base'+drawn c 69621 99989 (long:Int)=fi:=⟨_,rfl⟩
 have f0:base'<=fi:=by omega
 have f1:fi < base'+long:=by omega
 obtain⟨mx,emx,mx1,mx4,mxl⟩:∃mx:Int,(if base'+(long:Int)-fi < 4 then base'+(long:Int)-fi else 4)=mx/\0 < mx/\mx<=4/\fi+mx<=base'+long:=by
  by_cases z:base'+(long:Int)-fi < 4
  ·rw[if_pos z];exact⟨_,rfl,by omega,by omega,by omega⟩
  ·rw[if_neg z];exact⟨_,rfl,by omega,by omega,by omega⟩
 have e0:=d_ c 16807 99971 mx1
 have e1:=du c 16807 99971 mx1
 obtain⟨mn,emn,mn1,mn4,mnl⟩:∃mn:Nat,1+drawn c 16807 99971 mx=(mn:Int)/\1<=mn/\mn<=4/\fi+mn<=base'+long:=⟨(1+drawn c 16807 99971 mx).toNat,by omega,by omega,by omega,by omega⟩
 have w0:=d_ c 48271 99991 (show (0:Int) < 5 by decide)
 have w1:=du c 48271 99991 (show (0:Int) < 5 by decide)
 have r0:=d_ c 35969 99901 (show (0:Int) < 4 by decide)
 have r1:=du c 35969 99901 (show (0:Int) < 4 by decide)
 have okr:OkR (drawn c 35969 99901 4):=⟨r0,by omega⟩
 have cc8:cn < 80000:=by omega
 have D2:R2.1 { nx:=fun _ H'=>Q .non H',rt:=Q } [some (.ref p),some (.ref d),some (.int task),some (.int low),some (.int c),some (.int base'),some (.int (long:Int)),some (.int fi),some (.int (mn:Int)),none,none] H:=by
  walk_at "go"
  intro acc hacc
  refine xv (fun i ys H'=>Bx (∃ts gs,ys=ts.map V.ref/\RwL H' acc ts gs/\ts.length=i/\(∀g∈gs,Lf.ok g/\OkR g.rights)/\∀b u,H b=some u->H' b=some u)) (by rw[sizeLine_eq];omega) ⟨⟨[],[],rfl,⟨aj,rfl,fun i t g h=>(by cases h)⟩,rfl,fun g h=>(by cases h),aB hacc⟩⟩ (fun i ys H' z=>?_) (fun i ys H' hi z RR rr=>?_) (fun ys H1 z=>?_)
  ·obtain⟨ts,gs,z1,z2,z3,_⟩:=z.o
   exact⟨by rw[z1];exact z2.hl,by rw[z1,List.length_map];exact z3⟩
  ·obtain⟨ts,gs,z1,z2,z3,z4,z5⟩:=z.o
   walk_at "go"
   intro t g' H5 ht ok okg s5 htn
   have a5:=s5 _ _ z2.hl
   subst z1
   refine rr _ _ a5 ⟨⟨ts++[t],gs++[g'],by rw[List.map_append];rfl,(z2.same s5).snoc ht,by rw[List.length_append,z3];rfl,fun g2 hg=>?_,fun b u e=>?_⟩⟩
   ·rcases List.mem_append.mp hg with w | w
    ·exact z4 g2 w
    ·rw[List.mem_singleton.mp w];exact⟨ok,okg⟩
   ·rw[av (ay e hacc)];exact s5 _ _ (z5 _ _ e)
  obtain⟨ts,gs,z1,RW,tl,AV,s1⟩:=z.o
  subst z1
  rw[Int.toNat_natCast] at tl
  have gl:gs.length=mn:=by rw[<-RW.len];exact tl
  have s01:Same H H1:=s1
  have W1:=W.same s01
  have hrl:=RW.hl
  have gl1:1<=gs.length:=by omega
  have gl4:gs.length<=4:=by omega
  have gll:fi+gs.length<=base'+long:=by omega
  walk_at "go"
  refine lL (fun z=>?_) (fun z=>?_)
  ·have eg:gs[0]?=some (gs[0]'(by omega)):=List.getElem?_eq_getElem _
   generalize gs[0]'(by omega)=g at eg
   have et:ts[0]?=some (ts[0]'(by omega)):=List.getElem?_eq_getElem _
   generalize ts[0]'(by omega)=t at et
   have ht:=RW.at' 0 t g et eg
   have okg:=(AV g (List.mem_of_getElem? eg)).2
   have a0:atI (ts.map V.ref) 0=some (.ref t):=(dN (by rw[List.getElem?_map,et];rfl):atI (ts.map V.ref) ((0:Nat):Int)=some (.ref t))
   have few:=W1.few
   have dp:=pN.k (k:=Sum.inl fi) (v:=V.ref t) W1.KP.h (by rw[sizeLine_eq];omega)
   obtain⟨ks2,KP2⟩:=W1.KP.put (n:=fi) ht
   obtain⟨S2,A2,kn2⟩:=Kp.sp (H':=upd H1 d (.dK (putK kvs (.inl fi) (.ref t)))) W1.S W1.A W1.KP.h W.nf (fun b u e nb=>by rw[av nb];exact e)
   have o2:∀b u,H1 b=some u->b≠d->upd H1 d (.dK (putK kvs (.inl fi) (.ref t))) b=some u:=fun b u e nb=>by rw[av nb];exact e
   have HA:=kn2.lst hrl
   have ht2:=kn2.tup ht
   generalize upd H1 d (.dK (putK kvs (.inl fi) (.ref t)))=H2 at dp KP2 S2 A2 kn2 o2 HA ht2
   obtain⟨dx,sh,tr,dt,sh2,top,dxs,tsh,hp2,_⟩:=id S2
   walk_at "go"
   intro y H3 lf3 s3 hy
   have S3:=S2.same s3
   have hp3:=s3 _ _ hp2
   have ly:∃u,H3 y=some u:=let ⟨dl,h⟩:=lf3;⟨_,h⟩
   have cc3:cn < 100000:=by omega
   have pin:0<=fi/\fi < pgs ns:=by omega
   walk_at "go"
   refine⟨fun _ nd2 fp2 H4 S4 pt fr sub=>?_,fun z=>absurd pin z⟩
   have kn4:=S3.eV fr
   have fd:=L2.Fr.out fr (s3 _ _ KP2.h) W.nf
   have A4:=(A2.same s3).put gd kn4 pin.1 pin.2 pt (kn4.lf lf3)
   have KP4:=(KP2.same s3).keep kn4 fd.1
   walk_at "go"
   refine k nd2 fp2 _ _ _ H4 ⟨S4.mono (by omega),A4,KP4,fun n g' h=>?_,fd.2,b0,b1,lg⟩ ⟨(((bF.same s01).trans kn2).trans (bF.same s3)).trans kn4,fun b u e n1 n2=>fr.1 _ _ (s3 _ _ (o2 _ _ (s01 _ _ e) n1)) n2,fun b hb=>?_⟩
   ·by_cases e:n=fi
    ·rw[e,Mf.jZ] at h
     cases h
     exact⟨by omega,AV g (List.mem_of_getElem? eg)⟩
    ·rw[Mf.jg e] at h;exact W.inn n g' h
   ·rcases fr.2 b hb with w | w
    ·exact .inl w
    ·refine .inr ?_
     cases e:H b with
     | none=>rfl
     | some u =>
      by_cases c:b=d
      ·rw[c,s3 _ _ KP2.h] at w;cases w
      ·rw[s3 _ _ (o2 _ _ (s01 _ _ e) c)] at w;cases w
  ·have hw:drawn c 48271 99991 5%3=0\/drawn c 48271 99991 5%3=1\/drawn c 48271 99991 5%3=2:=by omega
   walk_at "go"
   intro nd' fp' M' kvs' ks' H2 W2 did
   refine k nd' fp' M' kvs' ks' H2 W2 ((Did.same s01).trans did fun b u e z=>?_)
   rw[s01 _ _ e] at z;cases z
 have fin:=D2
 rw[<-emn,<-emx,<-efi] at fin
 repeat (first | exact fin | (apply And.intro;(walk_at "cl")) | walk_at "ex")
end
end K19

set_option maxHeartbeats 4000000
namespace K19
open PySem L2
theorem bZ.GH {a:Adr}{H H':Hp}{p:Addr}{ns:List Int}{low task:Int}{nd:Ix->Option Addr}{fp:List Addr}{cn:Nat}(S:bZ a H p ns low task nd fp cn)(k:bF H H')(kd:∀b u,H b=some u->b∈fp->H' b=some u): bZ a H' p ns low task nd fp cn:=by
 have ki:∀b C dx fs,H b=some (.ins C dx fs)->H' b=some (.ins C dx fs):=fun b C dx fs e=>k b _ e (fun _ w=>by cases w)
 have kt:∀b ys,H b=some (.tup ys)->H' b=some (.tup ys):=fun b ys e=>k b _ e (fun _ w=>by cases w)
 obtain⟨dx,sh,tr,dt,sh2,top,dxs,ts,h1,h2,h3,h4,h4',h5⟩:=S
 refine⟨dx,sh,tr,dt,sh2,top,dxs,ts,ki _ _ _ _ h1,ki _ _ _ _ h2,?_,ki _ _ _ _ h4,kt _ _ h4',h5⟩
 obtain⟨⟨dy,sh,top,q1,⟨dz,tz,q2,q3⟩,q4⟩,g,fu,ib⟩:=h3
 exact⟨⟨dy,sh,top,ki _ _ _ _ q1,⟨dz,tz,ki _ _ _ _ q2,kt _ _ q3⟩,q4.keep fun b u e m=>kd b u e m⟩,g,fu,ib⟩
theorem bZ.live {a:Adr}{H:Hp}{p:Addr}{ns:List Int}{low task:Int}{nd:Ix->Option Addr}{fp:List Addr}{cn:Nat}(S:bZ a H p ns low task nd fp cn){b:Addr}(hb:b∈fp): H b≠none:=by
 obtain⟨_,_,_,_,_,_,_,_,_,_,⟨⟨_,_,_,_,_,q4⟩,_⟩,_⟩:=S
 obtain⟨kv,e⟩:=q4.lv b hb
 rw[e];simp
structure Ws (a:Adr)(H:Hp)(ns:List Int)(low task base:Int)(long:Nat)(m:Nat)(P D:Nat->Addr)(Fp:Nat->List Addr)(C:Nat): Prop where
 hf:∀i,i < m->∃nd cn M kvs ks,Hf a H (P i) (D i) ns low (task+(i:Int)) base long nd (Fp i) cn M kvs ks/\cn<=C
 ap:∀i j,i < m->j < m->i≠j->D i≠D j/\D i∉Fp j/\∀b∈Fp i,b∉Fp j
section
variable {a:Adr}{H H':Hp}{ns:List Int}{low task base:Int}{long m:Nat}{P D:Nat->Addr}{Fp:Nat->List Addr}{C:Nat}
theorem Ws.same (W:Ws a H ns low task base long m P D Fp C)(s:Same H H'): Ws a H' ns low task base long m P D Fp C :=
 ⟨fun i hi=>let ⟨nd,cn,M,kvs,ks,h,c⟩:=W.hf i hi;⟨nd,cn,M,kvs,ks,h.same s,c⟩,W.ap⟩
theorem Ws.fE (W:Ws a H ns low task base long m P D Fp C)(s:dO H H'): Ws a H' ns low task base long m P D Fp C :=
 ⟨fun i hi=>let ⟨nd,cn,M,kvs,ks,h,c⟩:=W.hf i hi;⟨nd,cn,M,kvs,ks,{ h with S:=h.S.fE s,A:=h.A.fE s,KP:=h.KP.fE s },c⟩,W.ap⟩
theorem Ws.did {k:Nat}{fp':List Addr}{nd':Ix->Option Addr}{cn':Nat}{M':Mf}{kvs':List (Key×V)}{ks':List Int}(W:Ws a H ns low task base long m P D Fp C)(hk:k < m)(x:Did H H' (D k) (Fp k) fp')(h':Hf a H' (P k) (D k) ns low (task+(k:Int)) base long nd' fp' cn' M' kvs' ks'){C':Nat}(c':cn'<=C')(cc:C<=C'): Ws a H' ns low task base long m P D (fun i=>if i=k then fp' else Fp i) C':=by
 have lv:∀i,i < m->∀b∈Fp i,H b≠none:=fun i hi b hb=>let ⟨nd,cn,M,kvs,ks,h,_⟩:=W.hf i hi;h.S.live hb
 have dl:∀i,i < m->H (D i)≠none:=fun i hi=>by
  obtain⟨nd,cn,M,kvs,ks,h,_⟩:=W.hf i hi
  rw[h.KP.h];simp
 refine⟨fun i hi=>?_,fun i j hi hj ne=>?_⟩
 ·by_cases c:i=k
  ·subst c
   exact⟨nd',cn',M',kvs',ks',by show Hf a H' (P i) (D i) ns low (task+(i:Int)) base long nd' (if i=i then fp' else Fp i) cn' M' kvs' ks';rw[if_pos rfl];exact h',c'⟩
  ·obtain⟨nd,cn,M,kvs,ks,h,c2⟩:=W.hf i hi
   obtain⟨a1,a2,a3⟩:=W.ap i k hi hk c
   obtain⟨b1,b2,b3⟩:=W.ap k i hk hi (Ne.symm c)
   refine⟨nd,cn,M,kvs,ks,?_,by omega⟩
   show Hf a H' (P i) (D i) ns low (task+(i:Int)) base long nd (if i=k then fp' else Fp i) cn M kvs ks
   rw[if_neg c]
   exact { h with S:=h.S.GH x.k fun b u e hb=>x.o b u e (fun z=>b2 (z ▸ hb)) (a3 b hb),A:=h.A.kept x.k,KP:=h.KP.keep x.k (x.o _ _ h.KP.h a1 a2) }
 ·obtain⟨a1,a2,a3⟩:=W.ap i j hi hj ne
  refine⟨a1,fun z=>?_,fun b hb z=>?_⟩
  ·have z:D i∈(if j=k then fp' else Fp j):=z
   by_cases c:j=k
   ·rw[if_pos c] at z
    rcases x.n _ z with w | w
    ·rw[<-c] at w;exact a2 w
    ·exact dl i hi w
   ·rw[if_neg c] at z;exact a2 z
  ·have z:b∈(if j=k then fp' else Fp j):=z
   have hb:b∈(if i=k then fp' else Fp i):=hb
   by_cases c:i=k
   ·have cj:¬j=k:=fun w=>ne (c.trans w.symm)
    rw[if_pos c] at hb
    rw[if_neg cj] at z
    rcases x.n _ hb with w | w
    ·rw[<-c] at w;exact a3 b w z
    ·exact lv j hj b z w
   ·rw[if_neg c] at hb
    by_cases cj:j=k
    ·rw[if_pos cj] at z
     rcases x.n _ z with w | w
     ·rw[<-cj] at w;exact a3 b hb w
     ·exact lv i hi b hb w
    ·rw[if_neg cj] at z;exact a3 b hb z
end
theorem o7 {m i:Nat}(f:Nat->V)(h:i < m): atI ((List.range m).map f) (i:Int)=some (f i):=dN (by rw[List.getElem?_map,List.getElem?_range h];rfl)
theorem C9 {t:Int}{i:Nat}(h:i < 2): atI [V.int t,V.int (t+1)] (i:Int)=some (.int (t+(i:Int))):=by
 match i,h with
 | 0,_=>show some (V.int t)=some (.int (t+0));rw[Int.add_zero]
 | 1,_=>rfl
end K19

set_option maxHeartbeats 4000000
namespace K19
open PySem L2
def zH (K:W.Frag): Sp:=fun vs H Q _=>∃(a:Addr) (ns:List Int),vs=[.ref a]/\SqL K H a (ns.map V.int)/\ns.length<=63/\∀H',Q (.bl true) H'
theorem nd0 {ns:List Int}{low:Int}(g:Good ns low)(top:Addr)(m:Int): (if parts ns m=[] then some top else none)=(none:Option Addr):=by
 rw[if_neg fun z=>?_]
 have h1:ns.length=0:=by
  have:=congrArg List.length z
  rw[dj] at this
  exact this
 have h2:=g.len
 omega
structure Ls9 (a:Adr)(H:Hp)(ns:List Int)(low task base:Int)(long:Nat)(w' sl ol tl cl hl:Addr)(ms:List Int)(m C h:Nat): Prop where
 w:∃P D Fp,Ws a H ns low task base long m P D Fp C/\H sl=some (.lst ((List.range m).map fun i=>V.ref (P i)))/\H ol=some (.lst ((List.range m).map fun i=>V.ref (D i)))
 wd:H w'=some (.lst (ns.map V.int))
 tk:H tl=some (.lst [.int task,.int (task+1)])
 cs:H cl=some (.lst (ms.map V.int))
 hd:∃hs:List Addr,H hl=some (.lst (hs.map V.ref))/\hs.length<=h/\∀t∈hs,pJ a H t
theorem Ls9.same {a:Adr}{H H':Hp}{ns:List Int}{low task base:Int}{long:Nat}{w' sl ol tl cl hl:Addr}{ms:List Int}{m C h:Nat}(L:Ls9 a H ns low task base long w' sl ol tl cl hl ms m C h)(s:Same H H'): Ls9 a H' ns low task base long w' sl ol tl cl hl ms m C h:=by
 obtain⟨⟨P,D,Fp,W,e1,e2⟩,h1,h2,h3,hs,h4,h5,h6⟩:=L
 exact⟨⟨P,D,Fp,W.same s,s _ _ e1,s _ _ e2⟩,s _ _ h1,s _ _ h2,s _ _ h3,hs,s _ _ h4,h5,fun t ht=>(h6 t ht).eV (bF.same s)⟩
theorem pJ.fE {a:Adr}{H H':Hp}{t:Addr}(h:pJ a H t)(k:dO H H'): pJ a H' t:=let ⟨x,tr,g,h1,h2,h3,h4⟩:=h;⟨x,tr,g,k.tup h1,k.lf h2,k.tup h3,h4⟩
def Ne9 (w' sl ol tl cl hl:Addr): Prop:=(sl≠ol/\sl≠tl/\sl≠cl/\sl≠hl/\sl≠w')/\(ol≠tl/\ol≠cl/\ol≠hl/\ol≠w')/\hl≠tl/\hl≠cl/\hl≠w'
section
variable {P:Program}{w:World}{K:W.Frag}{mg:Str->Option Value}{base:Heap}{a:Adr}
theorem FL {f:Addr} {oc:Value} {od:Option Addr} {dV kV doc pm:Value} {an:Option Addr} {cdv ct:Value} {osl:Array (Option Value)} (lk:K.lookup f=some ⟨oc,od,.func (W.fnOf "law" "law" (bK cP) (aO cP) (au cP) dV kV doc pm an cdv ct),osl⟩) (hcd:W.codeIn K cdv "law" = true) (T:Txt w K mg a)
  (ji:HasFn P w K mg base 2 "_law_widths" ["_law_cell"] (rZ) [])
  (cx:HasFn P w K mg base 1 "_law_cell_at" ["_law_script", "_law_k"] (CN K) [])
  (aL:HasFn P w K mg base 1 "_law_drawn" ["_law_cell", "_law_by", "_law_prime", "_law_many"] (lI) [])
  (cK:eB P w K mg base a.aD 3 ["self", "shape", "task"] (rS a) [])
  (fS:eB P w K mg base a.az 2 ["self", "widths", "low"] (xi a) [])
  (j4:aE P w K mg base a.aD 7 "like" ["self", "task"] (xB a) [])
  (lr:HasFn P w K mg base 7 "_law_kept" ["_law_space", "_law_own", "_law_held", "_law_page"] (xL a) [])
  (lu:HasFn P w K mg base 11 "_law_deed" ["_law_space", "_law_own", "_law_task", "_law_low", "_law_cell", "_law_base", "_law_window"] (xM a) [])
  (mF:HasFn P w K mg base 7 "_law_all" ["_law_space", "_law_own", "_law_widths_here", "_law_page"] (zD a) [])
  (jk:HasFn P w K mg base 8 "_law_sought" ["_law_space", "_law_own", "_law_task", "_law_low", "_law_page", "_law_cell"] (sk a) [])
  (bR:HasFn P w K mg base 2 "_law_like" ["_law_found", "_law_due"] (nX) [])
  (bS:aE P w K mg base a.bp 1 "row" ["self"] (cy a 0) [])
  (b8:aE P w K mg base a.bC 1 "row" ["self"] (cy a 1) [])
  (cL:aE P w K mg base a.b9 1 "row" ["self"] (cy a 2) [])
  (bT:aE P w K mg base a.aZ 1 "row" ["self"] (cy a 3) []) :
  fY P w K mg base (CXE P w) 12 f (W.fnOf "law" "law" (bK cP) (aO cP) (au cP) dV kV doc pm an cdv ct) ["_law_script"] (zH K):=by
 refine pf lk hcd dW (fun vs H Q E h=>?_) (fun A outer s H vs Q E hr h=>?_)
 ·obtain⟨sc,ss,rfl,_⟩:=h
  rfl
 obtain⟨sc,ss,rfl,hS,hlen,k⟩:=h
 let Ex:{t:TS // PSs (dJ (CXE P w) P w K mg base lX "law" (au cP) f cdv A outer s H E) ((bodyOf ((aO cP).getD 12 (.Pass ⟨0,0,0,0⟩))).drop 4) t}:=⟨_,(ah (aI (i:=15) dW.nd rfl (by first | exact Or.inl rfl | exact Or.inr rfl) (aM cB (pv 6) (bv aL (hr.mono (by decide)) (by rfl) ao (ae (aX aV (pv 10) (pv 13) (fun _ _=>rfl)) (ae aw (ae aw (ae (pv 5) af rfl) rfl) rfl) rfl))))
   (aq (cM bU rfl (fG (by rfl) T.eI (ae (aH aJ (by rfl) T.cT PySem.boot_len (ae (pv 7) af rfl)) af rfl)) (bn (i:=16) dW.nd rfl (by first | exact Or.inl rfl | exact Or.inr rfl))
   (ah (bD (cA (dI (bv mF (hr.mono (by decide)) (by rfl) ao (ae (aX aV (pv 7) (pv 16) (fun _ _=>rfl)) (ae (aX aV (pv 8) (pv 16) (fun _ _=>rfl)) (ae (pv 1) (ae (pv 15) af rfl) rfl) rfl) rfl)))) (aq (aG eR)) aQ)
   (aq (bD (cA (dI (bv jk (hr.mono (by decide)) (by rfl) ao (ae (aX aV (pv 7) (pv 16) (fun _ _=>rfl)) (ae (aX aV (pv 8) (pv 16) (fun _ _=>rfl)) (ae (aX aV (pv 9) (pv 16) (fun _ _=>rfl)) (ae (pv 2) (ae (pv 15) (ae (aX aV (pv 10) (pv 13) (fun _ _=>rfl)) af rfl) rfl) rfl) rfl) rfl) rfl)))) (aq (aG eR)) aQ))))))⟩
 let Ey:{t:TS // PSs (dJ (CXE P w) P w K mg base lX "law" (au cP) f cdv A outer s H E) ((bodyOf ((aO cP).getD 12 (.Pass ⟨0,0,0,0⟩))).drop 3) t}:=⟨_,(ah (bD (cA (dI (bv lu (hr.mono (by decide)) (by rfl) ao (ae (aX aV (pv 7) (pv 14) (fun _ _=>rfl)) (ae (aX aV (pv 8) (pv 14) (fun _ _=>rfl)) (ae (aX aV (pv 9) (pv 14) (fun _ _=>rfl)) (ae (pv 2) (ae (aX aV (pv 10) (pv 13) (fun _ _=>rfl)) (ae (pv 6) (ae (pv 5) af rfl) rfl) rfl) rfl) rfl) rfl) rfl)))) (aq (aG eR)) aQ)
   Ex.2)⟩
 let Ez:{t:TS // PSs (dJ (CXE P w) P w K mg base lX "law" (au cP) f cdv A outer s H E) ((bodyOf ((aO cP).getD 12 (.Pass ⟨0,0,0,0⟩))).drop 2) t}:=⟨_,(ah (bu (bv lr (hr.mono (by decide)) (by rfl) ao (ae (aX aV (pv 7) (pv 14) (fun _ _=>rfl)) (ae (aX aV (pv 8) (pv 14) (fun _ _=>rfl)) (ae (pv 12) (ae (aM cB (pv 6) (bv aL (hr.mono (by decide)) (by rfl) ao (ae (aX aV (pv 10) (pv 13) (fun _ _=>rfl)) (ae aw (ae aw (ae (pv 5) af rfl) rfl) rfl) rfl))) af rfl) rfl) rfl) rfl)))
   Ey.2)⟩
 let EA:{t:TS // PSs (dJ (CXE P w) P w K mg base lX "law" (au cP) f cdv A outer s H E) ((bodyOf ((aO cP).getD 12 (.Pass ⟨0,0,0,0⟩))).drop 1) t}:=⟨_,(ah (aI (i:=14) dW.nd rfl (by first | exact Or.inl rfl | exact Or.inr rfl) (bv aL (hr.mono (by decide)) (by rfl) ao (ae (aX aV (pv 10) (pv 13) (fun _ _=>rfl)) (ae aw (ae aw (ae (aH aJ (by rfl) T.cT PySem.boot_len (ae (pv 7) af rfl)) af rfl) rfl) rfl) rfl)))
   Ez.2)⟩
 let R13:{t:TS // PSs (dJ (CXE P w) P w K mg base lX "law" (au cP) f cdv A outer s H E) ((aO cP).drop 13) t}:=⟨_,(aq (aG (aH (Ag rfl) (by rfl) T.Cz PyProof.Rows.Boot.«all» (ae (qt (xs:=["_law_leaf_here", "_law_row_here"]) (N':=["_law_script", "_law_widths_here", "_law_low", "_law_total", "_law_task", "_law_window", "_law_base", "_law_spaces", "_law_owns", "_law_tasks", "_law_cells", "_law_turn", "_law_held", "_law_k", "_law_at", "_law_page", "_law_j"]) rfl ⟨rfl,by decide +kernel,by decide +kernel,by dsimp only [dJ,PyProof.Rows.envOfC];decide +kernel,by decide +kernel,by dsimp only [dJ];decide +kernel,rfl⟩ (eY (pv 12)) (fun _ _ _ _ _=>(DC (K:=K) (n:=2) rfl rfl (eA (bn (i:=0) (by dsimp only [c9];decide +kernel) rfl (by first | exact Or.inl rfl | exact Or.inr rfl)) (eA (bn (i:=1) (by dsimp only [c9];decide +kernel) rfl (by first | exact Or.inl rfl | exact Or.inr rfl)) mM)))) (fun _ _ _ _ _=>mW) (fun _ _ _ _ _=>(bv bR (hr.mono (by decide)) (by rfl) gY (ae (BZ (P:=P) (w:=w) (K:=K) (mg:=mg) (base:=base) rfl rfl rfl rfl rfl (k:=1) (m := "row") (dvs:=[]) (pv 0) (hr.mono (by decide)) gY (by rfl)) (ae (pv 1) af rfl) rfl)))) af rfl))))⟩
 let R12:{t:TS // PSs (dJ (CXE P w) P w K mg base lX "law" (au cP) f cdv A outer s H E) ((aO cP).drop 12) t}:=⟨_,(ah (cM bU rfl (fG (by rfl) T.eI (ae (aH aJ (by rfl) T.cT PySem.boot_len (ae (pv 10) af rfl)) af rfl)) (bn (i:=13) dW.nd rfl (by first | exact Or.inl rfl | exact Or.inr rfl))
   (ah (bD (aW fb (pv 13) (pv 11) (bo _)) (ah (bu (tR PySem.F.plainAttrs_list PySem.F.slot_list_append PySem.F.type_list_append fH (pv 7) (ae (cq (aX aV (pv 7) aw (fun _ _=>rfl)) T.aN j4 (hr.mono (by decide)) ao (ae (aM cB (pv 4) aw) af rfl)) af rfl)))
   (aq (bu (tR PySem.F.plainAttrs_list PySem.F.slot_list_append PySem.F.type_list_append fH (pv 8) (ae (jt yi (by rfl) T.yv PyProof.Rows.Boot.«dict» (ae (aX aV (pv 8) aw (fun _ _=>rfl)) af rfl)) af rfl))))) aQ)
   EA.2))
   R13.2)⟩
 let R8:{t:TS // PSs (dJ (CXE P w) P w K mg base lX "law" (au cP) f cdv A outer s H E) ((aO cP).drop 8) t}:=⟨_,(ah (aI (i:=9) dW.nd rfl (by first | exact Or.inl rfl | exact Or.inr rfl) (eh (ae (pv 4) (ae (aM cB (pv 4) aw) af rfl) rfl)))
   (ah (aI (i:=10) dW.nd rfl (by first | exact Or.inl rfl | exact Or.inr rfl) (fZ yR (pv 0) (gR aw) (gR aw)))
   (ah (aI (i:=11) dW.nd rfl (by first | exact Or.inl rfl | exact Or.inr rfl) (aM eM (bv cx (hr.mono (by decide)) (by rfl) ao (ae (pv 0) (ae aw af rfl) rfl)) (aH (zP rfl) (by rfl) T.CA PyProof.Rows.Boot.«max» (ae aw (ae (aH aJ (by rfl) T.cT PySem.boot_len (ae (pv 10) af rfl)) af rfl) rfl))))
   (ah (aI (i:=12) dW.nd rfl (by first | exact Or.inl rfl | exact Or.inr rfl) (eh af))
   R12.2))))⟩
 let R6:{t:TS // PSs (dJ (CXE P w) P w K mg base lX "law" (au cP) f cdv A outer s H E) ((aO cP).drop 6) t}:=⟨_,(ah (aI (i:=7) dW.nd rfl (by first | exact Or.inl rfl | exact Or.inr rfl) (eh (ae (j8 cK (hr.mono (by decide)) (by rfl) T.zh ao (ae (j8 fS (hr.mono (by decide)) (by rfl) T.DX ao (ae (jt uO (by rfl) T.oS PyProof.Rows.Boot.«list» (ae (pv 1) af rfl)) (ae (pv 2) af rfl) rfl)) (ae (pv 4) af rfl) rfl)) af rfl)))
   (ah (aI (i:=8) dW.nd rfl (by first | exact Or.inl rfl | exact Or.inr rfl) (eh (ae qK af rfl)))
   R8.2))⟩
 let R5:{t:TS // PSs (dJ (CXE P w) P w K mg base lX "law" (au cP) f cdv A outer s H E) ((aO cP).drop 5) t}:=⟨_,(ah (aI (i:=6) dW.nd rfl (by first | exact Or.inl rfl | exact Or.inr rfl) (aM eM (aM qC (aM eM (bv cx (hr.mono (by decide)) (by rfl) ao (ae (pv 0) (ae aw af rfl) rfl)) (aM Bl aw aw)) aw) (aM cB (aM iZ (pv 3) (pv 5)) aw)))
   R6.2)⟩
 refine⟨_,(ah (aI (i:=1) dW.nd rfl (by first | exact Or.inl rfl | exact Or.inr rfl) (bv ji (hr.mono (by decide)) (by rfl) ao (ae (bv cx (hr.mono (by decide)) (by rfl) ao (ae (pv 0) (ae aw af rfl) rfl)) af rfl)))
   (ah (aI (i:=2) dW.nd rfl (by first | exact Or.inl rfl | exact Or.inr rfl) (bv aL (hr.mono (by decide)) (by rfl) ao (ae (bv cx (hr.mono (by decide)) (by rfl) ao (ae (pv 0) (ae aw af rfl) rfl)) (ae aw (ae aw (ae aw af rfl) rfl) rfl) rfl)))
   (ah (aI (i:=3) dW.nd rfl (by first | exact Or.inl rfl | exact Or.inr rfl) (aM kr aw (aH (Aa rfl) (by rfl) T.zm PyProof.Rows.Boot.«sum» (ae (pv 1) af rfl))))
   (ah (aI (i:=4) dW.nd rfl (by first | exact Or.inl rfl | exact Or.inr rfl) (aM eM (bv cx (hr.mono (by decide)) (by rfl) ao (ae (pv 0) (ae aw af rfl) rfl)) (aM Bl aw aw)))
   (ah (aI (i:=5) dW.nd rfl (by first | exact Or.inl rfl | exact Or.inr rfl) (aH (tL rfl) (by rfl) T.zj PyProof.Rows.Boot.«min» (ae (pv 3) (ae (aX aV (@eh _ _ _ _ (@ae _ _ _ _ _ aw (@ae _ _ _ _ _ aw (@ae _ _ _ _ _ aw (@ae _ _ _ _ _ aw af rfl) rfl) rfl) rfl)) (aM eM (bv cx (hr.mono (by decide)) (by rfl) ao (ae (pv 0) (ae aw af rfl) rfl)) aw) (fun _ _=>rfl)) af rfl) rfl)))
   R5.2))))),?_⟩
 walk_at "go"
 intro w' ns H1 hw hW s1 w0
 have S1:=s1.seq hS
 have l0:=d_ (ss.getD (0:Int).toNat 0) 39373 99961 (show (0:Int) < 7 by decide)
 have l7:=du (ss.getD (0:Int).toNat 0) 39373 99961 (show (0:Int) < 7 by decide)
 have q1:=SqL.of (K:=K) hw
 have g0:∀low:Int,0<=low->low < 7->Good ns low:=fun low h0 h7=>⟨hW.1,hW.2,h0,by omega⟩
 have gs0:=(g0 0 (by decide) (by decide)).sum
 have cp:zN 1 ns.sum:=⟨by omega,by omega,by decide⟩
 have pp:=zn ns
 have tot:(1:Int)*2^ns.sum.toNat=pgs ns:=Int.one_mul _
 have c60:zN 10 60:=⟨by decide,by decide,by decide⟩
 have p60:(0:Int) < (10:Int)^(60:Int).toNat:=by decide
 have FN:∀(low task base' turn:Int) (long:Nat) (sl ol tl cl hl:Addr) (ms:List Int) (H2:Hp),Good ns low->1<=long->long<=40->0<=base'->base'+long<=pgs ns->0<=turn->ms.length<=63->Ne9 w' sl ol tl cl hl->Ls9 a H2 ns low task base' long w' sl ol tl cl hl ms 1 64 0->R12.1 { nx:=fun _ H'=>Q .non H',rt:=Q } [some (.ref sc),some (.ref w'),some (.int low),some (.int (pgs ns)),some (.int task),some (.int (long:Int)),some (.int base'),some (.ref sl),some (.ref ol),some (.ref tl),some (.ref cl),some (.int turn),some (.ref hl),none,none,none,none] H2:=by
  intro low task base' turn long sl ol tl cl hl ms H2 g lo1 yF b0 b1 t0 ml ne L2
  have lp:(0:Int) < (long:Int):=by omega
  have D13:∀(v13 v14 v15 v16:Option V) (m C h:Nat) (H3:Hp),h<=100->Ls9 a H3 ns low task base' long w' sl ol tl cl hl ms m C h->R13.1 { nx:=fun _ H'=>Q .non H',rt:=Q } [some (.ref sc),some (.ref w'),some (.int low),some (.int (pgs ns)),some (.int task),some (.int (long:Int)),some (.int base'),some (.ref sl),some (.ref ol),some (.ref tl),some (.ref cl),some (.int turn),some (.ref hl),v13,v14,v15,v16] H3:=by
   intro v13 v14 v15 v16 m C h H3 h1 L
   obtain⟨hs,hh,hsl,he⟩:=L.hd
   walk_at "go"
   intro acc hacc
   refine xI (xs:=hs.map V.ref) (fun i ys H'=>Bx (ys=(List.replicate i true).map V.bl/\H' acc=some (.lst ys)/\∀b u,H3 b=some u->H' b=some u)) (by rw[List.length_map,sizeLine_eq];omega) ⟨⟨rfl,aj,aB hacc⟩⟩ (fun i ys H' z=>?_) (fun i x ys H' hx z=>?_) (fun ys H4 z=>?_)
   ·obtain⟨z1,z2,z3⟩:=z.o
    exact⟨z2,SqL.of (z3 _ _ hh),by rw[z1,List.length_map,List.length_replicate]⟩
   ·obtain⟨z1,z2,z3⟩:=z.o
    rw[List.getElem?_map,Option.map_eq_some_iff] at hx
    obtain⟨t,ht,rfl⟩:=hx
    obtain⟨x,tr,g',h1,lf,h3,ok⟩:=(he t (List.mem_of_getElem? ht)).eV (bF.same (show Same H3 H' from z3))
    refine⟨t,_,_,rfl,h1,fun RR rr=>?_⟩
    obtain⟨C,dxl,fs,f1',f2',f3',f4'⟩:∃C dx fs,H' x=some (.ins C dx fs)/\Cls K C/\aE P w K mg base C 1 "row" ["self"] (cy a g'.kind) []/\fs.lookup ("row" : Str)=none:=by
     obtain⟨dl,hl⟩:=id lf
     cases g' with
     | fresh r=>exact⟨_,_,_,hl,T.dD,bS,by walk_at "lk"⟩
     | held r f=>exact⟨_,_,_,hl,T.eG,b8,by walk_at "lk"⟩
     | out r f=>exact⟨_,_,_,hl,T.gH,cL,by walk_at "lk"⟩
     | named r n f=>exact⟨_,_,_,hl,T.dE,bT,by walk_at "lk"⟩
    walk_at "go"
    intro v hv
    generalize hh:upd _ v _=H5
    obtain⟨s5,e5⟩:=b7 hv hh
    clear hh
    have h35:=s5 _ _ h3
    walk_at "go"
    exact rr _ _ (s5 _ _ z2) ⟨⟨by rw[z1,List.replicate_succ',List.map_append];rfl,aj,fun b u e=>by rw[av (ay e hacc)];exact s5 _ _ (z3 _ _ e)⟩⟩
   obtain⟨z1,z2,z3⟩:=z.o
   subst z1
   have S4:=SqL.of (K:=K) z2
   have ba:∀m:Nat,(List.replicate m true).all id=true:=fun m=>by rw[List.all_replicate];cases m<;>simp
   walk_at "go"
   rw[ba]
   exact k _
  have lc:(ms.map V.int).length=ms.length:=List.length_map ..
  have IM:=L2.cs
  walk_at "go"
  refine dF (fun i σ H'=>(fun σ H'=>Bx (∃v13 v14 v15 v16 m,σ=[some (.ref sc),some (.ref w'),some (.int low),some (.int (pgs ns)),some (.int task),some (.int (long:Int)),some (.int base'),some (.ref sl),some (.ref ol),some (.ref tl),some (.ref cl),some (.int turn),some (.ref hl),v13,v14,v15,v16]/\Ls9 a H' ns low task base' long w' sl ol tl cl hl ms m (64+64*(i)) (i)/\(m=1/\((i:Nat):Int)<=turn\/m=2/\turn < ((i:Nat):Int)))) σ H') ⟨⟨_,_,_,_,1,rfl,L2,.inl ⟨rfl,t0⟩⟩⟩ ?_ ?_
  ·rintro i σ H3 hi ⟨v13,v14,v15,v16,m,rfl,L3,hm⟩
   have im:i < ms.length:=by rw[<-lc];omega
   have ec:ms[i]?=some ms[i]:=List.getElem?_eq_getElem im
   generalize ms[i]=c at ec
   have ac:atI (ms.map V.int) (0+(i:Int))=some (.int c):=by rw[Int.zero_add];exact dN (by rw[List.getElem?_map,ec];rfl)
   have d0:=d_ c 69621 99989 lp
   have d1:=du c 69621 99989 lp
   have e0:=d_ c 25253 99877 lp
   have e1:=du c 25253 99877 lp
   have B4:∀(BK CT:St->Hp->Prop) (m:Nat) (v14 v15 v16:Option V) (H4:Hp),m<=2->(m=1/\((i+1:Nat):Int)<=turn\/m=2/\turn < ((i+1:Nat):Int))->Ls9 a H4 ns low task base' long w' sl ol tl cl hl ms m (64+64*(i+1)) (i+1)->Ex.1 { nx:=fun σ H'=>Bx (∃v13 v14 v15 v16 m,σ=[some (.ref sc),some (.ref w'),some (.int low),some (.int (pgs ns)),some (.int task),some (.int (long:Int)),some (.int base'),some (.ref sl),some (.ref ol),some (.ref tl),some (.ref cl),some (.int turn),some (.ref hl),v13,v14,v15,v16]/\Ls9 a H' ns low task base' long w' sl ol tl cl hl ms m (64+64*(i+1)) (i+1)/\(m=1/\((i+1:Nat):Int)<=turn\/m=2/\turn < ((i+1:Nat):Int))),rt:=Q,bk:=BK,ct:=CT } [some (.ref sc),some (.ref w'),some (.int low),some (.int (pgs ns)),some (.int task),some (.int (long:Int)),some (.int base'),some (.ref sl),some (.ref ol),some (.ref tl),some (.ref cl),some (.int turn),some (.ref hl),some (.int (0+(i:Int))),v14,v15,v16] H4:=by
    intro BK CT m v14 v15 v16 H4 m2 hm L4
    obtain⟨⟨P,D,Fp,W,x1,x2⟩,hwd,htk,hcs,_⟩:=id L4
    have lm:((List.range m).map fun i=>V.ref (P i)).length=m:=by rw[List.length_map,List.length_range]
    have pin:0<=base'+drawn c 25253 99877 (long:Int)/\base'+drawn c 25253 99877 (long:Int) < pgs ns:=by omega
    walk_at "go"
    refine dF (fun j σ H'=>Bx ((∃v16,σ=[some (.ref sc),some (.ref w'),some (.int low),some (.int (pgs ns)),some (.int task),some (.int (long:Int)),some (.int base'),some (.ref sl),some (.ref ol),some (.ref tl),some (.ref cl),some (.int turn),some (.ref hl),some (.int (0+(i:Int))),v14,some (.int (base'+drawn c 25253 99877 (long:Int))),v16])/\∀b u,H4 b=some u->H' b=some u)) ⟨⟨⟨_,rfl⟩,fun _ _ e=>e⟩⟩ ?_ ?_
    ·rintro j σ H5 hj ⟨⟨v16,rfl⟩,s5⟩
     have s45:Same H4 H5:=s5
     have jm:j < m:=by rw[lm] at hj;omega
     have y1:=s45 _ _ x1
     have y2:=s45 _ _ x2
     have IP:=s45 _ _ hwd
     have HB:=s45 _ _ htk
     have HC:=s45 _ _ hcs
     have a1:atI ((List.range m).map fun i=>V.ref (P i)) (0+(j:Int))=some (.ref (P j)):=by rw[Int.zero_add];exact o7 (fun i=>V.ref (P i)) jm
     have a2:atI ((List.range m).map fun i=>V.ref (D i)) (0+(j:Int))=some (.ref (D j)):=by rw[Int.zero_add];exact o7 (fun i=>V.ref (D i)) jm
     have a3:atI [V.int task,V.int (task+1)] (0+(j:Int))=some (.int (task+(j:Int))):=by rw[Int.zero_add];exact C9 (by omega)
     obtain⟨nd,cn,M,kvs,ks,hf,_⟩:=(W.same s45).hf j jm
     have S5:=hf.S;have A5:=hf.A;have KP5:=hf.KP
     have IQ:∀n g,M n=some g->(0<=n/\n < pgs ns)/\g.ok:=fun n g e=>⟨by have:=(hf.inn n g e).1;omega,(hf.inn n g e).2.1⟩
     have k63:ks.length < 64:=by have:=hf.few.2;omega
     walk_at "go"
     intro H6 s6
     have hf6:=hf.same s6
     have y16:=s6 _ _ y1
     have y26:=s6 _ _ y2
     have IT:=s6 _ _ HB
     have IU:=s6 _ _ HC
     walk_at "go"
     intro H7 s7
     walk_at "go"
     exact⟨⟨⟨_,rfl⟩,fun b u e=>s7 _ _ (s6 _ _ (s5 _ _ e))⟩⟩
    ·rintro σ H5 ⟨⟨v16,rfl⟩,s5⟩
     have s45:Same H4 H5:=s5
     exact⟨⟨_,_,_,_,m,rfl,L4.same s45,hm⟩⟩
   have B3:∀(BK CT:St->Hp->Prop) (m k':Nat) (v15 v16:Option V) (H4:Hp),m<=2->k' < m->(m=1/\((i+1:Nat):Int)<=turn\/m=2/\turn < ((i+1:Nat):Int))->Ls9 a H4 ns low task base' long w' sl ol tl cl hl ms m (64+64*i) (i+1)->Ey.1 { nx:=fun σ H'=>Bx (∃v13 v14 v15 v16 m,σ=[some (.ref sc),some (.ref w'),some (.int low),some (.int (pgs ns)),some (.int task),some (.int (long:Int)),some (.int base'),some (.ref sl),some (.ref ol),some (.ref tl),some (.ref cl),some (.int turn),some (.ref hl),v13,v14,v15,v16]/\Ls9 a H' ns low task base' long w' sl ol tl cl hl ms m (64+64*(i+1)) (i+1)/\(m=1/\((i+1:Nat):Int)<=turn\/m=2/\turn < ((i+1:Nat):Int))),rt:=Q,bk:=BK,ct:=CT } [some (.ref sc),some (.ref w'),some (.int low),some (.int (pgs ns)),some (.int task),some (.int (long:Int)),some (.int base'),some (.ref sl),some (.ref ol),some (.ref tl),some (.ref cl),some (.int turn),some (.ref hl),some (.int (0+(i:Int))),some (.int (k':Int)),v15,v16] H4:=by
    intro BK CT m k' v15 v16 H4 m2 km hm L4
    obtain⟨⟨P,D,Fp,W,x1,x2⟩,hwd,htk,hcs,hs,hh,hsl,he⟩:=id L4
    obtain⟨nd,cn,M,kvs,ks,hf,c0⟩:=W.hf k' km
    have a1:=o7 (fun i=>V.ref (P i)) km
    have a2:=o7 (fun i=>V.ref (D i)) km
    have a3:atI [V.int task,V.int (task+1)] (k':Int)=some (.int (task+(k':Int))):=C9 (by omega)
    have cc:cn < 70000:=by omega
    walk_at "go"
    intro nd' fp' M' kvs' ks' H5 hf5 did
    have W5:=W.did km did hf5 (C':=64+64*(i+1)) (by omega) (by omega)
    have L5:Ls9 a H5 ns low task base' long w' sl ol tl cl hl ms m (64+64*(i+1)) (i+1):=⟨⟨P,D,_,W5,did.k.lst x1,did.k.lst x2⟩,did.k.lst hwd,did.k.lst htk,did.k.lst hcs,hs,did.k.lst hh,hsl,fun t ht=>(he t ht).eV did.k⟩
    repeat (first | exact B4 _ _ m _ _ _ H5 m2 hm L5 | (apply And.intro;(walk_at "cl")) | walk_at "ex")
   have B2:∀(BK CT:St->Hp->Prop) (m k':Nat) (v15 v16:Option V) (H4:Hp),m<=2->k' < m->(m=1/\((i+1:Nat):Int)<=turn\/m=2/\turn < ((i+1:Nat):Int))->Ls9 a H4 ns low task base' long w' sl ol tl cl hl ms m (64+64*i) i->Ez.1 { nx:=fun σ H'=>Bx (∃v13 v14 v15 v16 m,σ=[some (.ref sc),some (.ref w'),some (.int low),some (.int (pgs ns)),some (.int task),some (.int (long:Int)),some (.int base'),some (.ref sl),some (.ref ol),some (.ref tl),some (.ref cl),some (.int turn),some (.ref hl),v13,v14,v15,v16]/\Ls9 a H' ns low task base' long w' sl ol tl cl hl ms m (64+64*(i+1)) (i+1)/\(m=1/\((i+1:Nat):Int)<=turn\/m=2/\turn < ((i+1:Nat):Int))),rt:=Q,bk:=BK,ct:=CT } [some (.ref sc),some (.ref w'),some (.int low),some (.int (pgs ns)),some (.int task),some (.int (long:Int)),some (.int base'),some (.ref sl),some (.ref ol),some (.ref tl),some (.ref cl),some (.int turn),some (.ref hl),some (.int (0+(i:Int))),some (.int (k':Int)),v15,v16] H4:=by
    intro BK CT m k' v15 v16 H4 m2 km hm L4
    obtain⟨⟨P,D,Fp,W,x1,x2⟩,hwd,htk,hcs,hs,hh,hsl,he⟩:=id L4
    obtain⟨nd,cn,M,kvs,ks,hf,c0⟩:=W.hf k' km
    have a1:=o7 (fun i=>V.ref (P i)) km
    have a2:=o7 (fun i=>V.ref (D i)) km
    have pin:0<=base'+drawn c 69621 99989 (long:Int)/\base'+drawn c 69621 99989 (long:Int) < pgs ns:=by omega
    have hs1:hs.length < 1000:=by omega
    walk_at "go"
    refine⟨fun H5 s5=>?_,fun t H5 hp hl5 k5=>?_⟩
    ·have L5:Ls9 a H5 ns low task base' long w' sl ol tl cl hl ms m (64+64*i) (i+1):={ L4.same s5 with hd:=⟨hs,s5 _ _ hh,by omega,fun t ht=>(he t ht).eV (bF.same s5)⟩ }
     repeat (first | exact B3 _ _ m k' _ _ H5 m2 km hm L5 | (apply And.intro;(walk_at "cl")) | walk_at "ex")
    ·have kl:dO H4 H5:=fun b u e n=>k5 b u e fun z=>by rw[z,hh] at e;cases e;exact n _ rfl
     obtain⟨⟨n1,n2,n3,n4,n5⟩,⟨n6,n7,n8,n9⟩,n10,n11,n12⟩:=ne
     have L5:Ls9 a H5 ns low task base' long w' sl ol tl cl hl ms m (64+64*i) (i+1):=⟨⟨P,D,Fp,W.fE kl,k5 _ _ x1 n4,k5 _ _ x2 n8⟩,k5 _ _ hwd (Ne.symm n12),k5 _ _ htk (Ne.symm n10),k5 _ _ hcs (Ne.symm n11),hs++[t],hl5,by rw[List.length_append];show hs.length+1<=_;omega,fun t2 ht=>by
      rcases List.mem_append.mp ht with w | w
      ·exact(he t2 w).fE kl
      ·rw[List.mem_singleton.mp w];exact hp⟩
     repeat (first | exact B3 _ _ m k' _ _ H5 m2 km hm L5 | (apply And.intro;(walk_at "cl")) | walk_at "ex")
   have B1:∀(BK CT:St->Hp->Prop) (m:Nat) (v14 v15 v16:Option V) (H4:Hp),1<=m->m<=2->(m=1/\((i+1:Nat):Int)<=turn\/m=2/\turn < ((i+1:Nat):Int))->Ls9 a H4 ns low task base' long w' sl ol tl cl hl ms m (64+64*i) i->EA.1 { nx:=fun σ H'=>Bx (∃v13 v14 v15 v16 m,σ=[some (.ref sc),some (.ref w'),some (.int low),some (.int (pgs ns)),some (.int task),some (.int (long:Int)),some (.int base'),some (.ref sl),some (.ref ol),some (.ref tl),some (.ref cl),some (.int turn),some (.ref hl),v13,v14,v15,v16]/\Ls9 a H' ns low task base' long w' sl ol tl cl hl ms m (64+64*(i+1)) (i+1)/\(m=1/\((i+1:Nat):Int)<=turn\/m=2/\turn < ((i+1:Nat):Int))),rt:=Q,bk:=BK,ct:=CT } [some (.ref sc),some (.ref w'),some (.int low),some (.int (pgs ns)),some (.int task),some (.int (long:Int)),some (.int base'),some (.ref sl),some (.ref ol),some (.ref tl),some (.ref cl),some (.int turn),some (.ref hl),some (.int (0+(i:Int))),v14,v15,v16] H4:=by
    intro BK CT m v14 v15 v16 H4 m1 m2 hm L4
    obtain⟨⟨P,D,Fp,W,x1,x2⟩,hwd,htk,hcs,_⟩:=id L4
    have lm:((List.range m).map fun i=>V.ref (P i)).length=m:=by rw[List.length_map,List.length_range]
    have mp:(0:Int) < (((List.range m).map fun i=>V.ref (P i)).length:Int):=by rw[lm];omega
    have q0:=d_ c 24611 99881 mp
    have q1:=du c 24611 99881 mp
    obtain⟨k',ek,km⟩:∃k':Nat,drawn c 24611 99881 (((List.range m).map fun i=>V.ref (P i)).length:Int)=(k':Int)/\k' < m:=⟨(drawn c 24611 99881 (((List.range m).map fun i=>V.ref (P i)).length:Int)).toNat,by omega,by rw[lm] at q0 q1 ⊢;omega⟩
    have fin:=B2 BK CT m k' v15 v16 H4 m2 km hm L4
    rw[<-ek] at fin
    repeat (first | exact fin | (apply And.intro;(walk_at "cl")) | walk_at "ex")
   have m12:1<=m/\m<=2:=by rcases hm with ⟨w,_⟩ | ⟨w,_⟩<;>omega
   obtain⟨⟨P,D,Fp,W,x1,x2⟩,hwd,htk,hcs,hs,hh,hsl,he⟩:=id L3
   obtain⟨⟨n1,n2,n3,n4,n5⟩,⟨n6,n7,n8,n9⟩,n10,n11,n12⟩:=id ne
   walk_at "go"
   refine lL (fun z=>?_) (fun z=>?_)
   ·have z:=V.int.inj z
    have em:m=1:=by rcases hm with ⟨w,_⟩ | ⟨_,w⟩<;>omega
    subst em
    obtain⟨nd,cn,M,kvs,ks,hf,c0⟩:=W.hf 0 (by omega)
    have S3:=hf.S
    have cov:=S3.cov (ks:=ks) fun m m0 m1 h=>(hf.KP.mem m).mpr (by rw[<-hf.A.isS m0 m1];exact h)
    have c64:(ks.map (parts ns)).length < 64:=by rw[List.length_map];have:=hf.few.2;omega
    have lvx:∀m x,0<=m->m < pgs ns->nd (parts ns m)=some x->∃u,H3 x=some u:=fun m x m0 m1 e=>by
     obtain⟨g',_,dl,h⟩:=hf.A.leaf m0 m1 e
     exact⟨_,h⟩
    have t1:=T.aN
    obtain⟨dx,sh,tr,dt,sh2,top,dxs,tsh,hp3,_⟩:=id S3
    have x1':H3 sl=some (.lst [.ref (P 0)]):=x1
    have x2':H3 ol=some (.lst [.ref (D 0)]):=x2
    have a0:atI [V.ref (P 0)] 0=some (.ref (P 0)):=rfl
    have a0':atI [V.ref (D 0)] 0=some (.ref (D 0)):=rfl
    have zl1:[V.ref (P 0)].length < sizeLine:=by rw[sizeLine_eq];show 1 < _;decide
    have zl2:[V.ref (D 0)].length < sizeLine:=by rw[sizeLine_eq];show 1 < _;decide
    walk_at "go"
    intro p' nd' fp' H5 S5 pe s5 fn hp'
    have y1:=s5 _ _ x1'
    have y2:=s5 _ _ x2'
    have kl6:=dO.upd (u:=.lst ([V.ref (P 0)]++[.ref p'])) y1
    have y26:upd H5 sl (.lst ([V.ref (P 0)]++[.ref p'])) ol=some (.lst [.ref (D 0)]):=by rw[av n1.symm];exact y2
    have y16:upd H5 sl (.lst ([V.ref (P 0)]++[.ref p'])) sl=some (.lst ([V.ref (P 0)]++[.ref p'])):=aj
    have o6:∀b u,H5 b=some u->b≠sl->upd H5 sl (.lst ([V.ref (P 0)]++[.ref p'])) b=some u:=fun b u e nb=>by rw[av nb];exact e
    walk_at "go"
    have hd6:(upd H5 sl (.lst ([V.ref (P 0)]++[.ref p']))) (D 0)=some (.dK kvs):=kl6.dK (s5 _ _ hf.KP.h)
    walk_at "go"
    intro d' hd'
    generalize hh:upd _ d' _=H7
    obtain⟨s7,e7⟩:=b7 hd' hh
    clear hh
    have y27:=s7 _ _ y26
    have kl8:=dO.upd (u:=.lst ([V.ref (D 0)]++[.ref d'])) y27
    have y28:upd H7 ol (.lst ([V.ref (D 0)]++[.ref d'])) ol=some (.lst ([V.ref (D 0)]++[.ref d'])):=aj
    have o8:∀b u,H7 b=some u->b≠ol->upd H7 ol (.lst ([V.ref (D 0)]++[.ref d'])) b=some u:=fun b u e nb=>by rw[av nb];exact e
    have lst:∀b xs,H3 b=some (.lst xs)->b≠sl->b≠ol->(upd H7 ol (.lst ([V.ref (D 0)]++[.ref d']))) b=some (.lst xs):=fun b xs e q1 q2=>o8 _ _ (s7 _ _ (o6 _ _ (s5 _ _ e) q1)) q2
    have GI:dO H5 (upd H7 ol (.lst ([V.ref (D 0)]++[.ref d']))):=fun b u e n=>kl8 b u (s7 _ _ (kl6 b u e n)) n
    have AY:dO H3 (upd H7 ol (.lst ([V.ref (D 0)]++[.ref d']))):=fun b u e n=>GI b u (s5 _ _ e) n
    have d0l:H3 (D 0)≠none:=by rw[hf.KP.h];simp
    have W8:Ws a (upd H7 ol (.lst ([V.ref (D 0)]++[.ref d']))) ns low task base' long 2 (fun i=>if i=0 then P 0 else p') (fun i=>if i=0 then D 0 else d') (fun i=>if i=0 then Fp 0 else fp') (64+64*i):=by
     have A1:D 0≠d'/\D 0∉fp'/\∀b∈Fp 0,b∉fp':=⟨fun w=>(by rw[<-w,hd6] at hd';cases hd'),fun w=>d0l (fn _ w),fun b hb w=>S3.live hb (fn _ w)⟩
     have A2:d'≠D 0/\d'∉Fp 0/\∀b∈fp',b∉Fp 0:=⟨A1.1.symm,fun w=>((S3.same s5).fE kl6).live w hd',fun b hb w=>A1.2.2 b w hb⟩
     refine⟨fun j hj=>?_,fun j l hj hl' ne'=>?_⟩
     ·match j,hj with
      | 0,_=>exact⟨nd,cn,M,kvs,ks,{ hf with S:=hf.S.fE AY,A:=hf.A.fE AY,KP:=hf.KP.fE AY },c0⟩
      | 1,_ =>
       refine⟨nd',64,M,kvs,ks,(⟨S5.fE GI,⟨fun n h1 h2 h3=>by rw[pe n h1 h2];exact hf.A.no n h1 h2 h3,fun n g' h1 h2 h3=>?_⟩,⟨kl8.dK e7,hf.KP.ik,hf.KP.nd,hf.KP.no,fun n g' h=>?_⟩,hf.inn,fun w=>(S5.fE kl6).live w hd',hf.b0,hf.b1,hf.lg⟩:Hf a (upd H7 ol (.lst ([V.ref (D 0)]++[.ref d']))) p' d' ns low (task+1) base' long nd' fp' 64 M kvs ks),by omega⟩
       ·obtain⟨x,q1,q2⟩:=hf.A.so n g' h1 h2 h3
        exact⟨x,by rw[pe n h1 h2];exact q1,AY.lf q2⟩
       ·obtain⟨t,q1,q2⟩:=hf.KP.so n g' h
        exact⟨t,q1,AY.tup q2⟩
     ·match j,hj,l,hl' with
      | 0,_,0,_=>exact absurd rfl ne'
      | 0,_,1,_=>exact A1
      | 1,_,0,_=>exact A2
      | 1,_,1,_=>exact absurd rfl ne'
    have L8:Ls9 a (upd H7 ol (.lst ([V.ref (D 0)]++[.ref d']))) ns low task base' long w' sl ol tl cl hl ms 2 (64+64*i) i:=⟨⟨_,_,_,W8,o8 _ _ (s7 _ _ y16) n1,y28⟩,lst _ _ hwd n5.symm n9.symm,lst _ _ htk n2.symm n6.symm,lst _ _ hcs n3.symm n7.symm,hs,lst _ _ hh n4.symm n8.symm,hsl,fun t ht=>(he t ht).fE AY⟩
    repeat (first | exact B1 _ _ 2 v14 v15 v16 (upd H7 ol (.lst ([V.ref (D 0)]++[.ref d']))) (by omega) (by omega) (.inr ⟨rfl,by omega⟩) L8 | (apply And.intro;(walk_at "cl")) | walk_at "ex")
   ·have z:¬(0+(i:Int))=turn:=fun w=>z (by rw[w])
    have hm':m=1/\((i+1:Nat):Int)<=turn\/m=2/\turn < ((i+1:Nat):Int):=by
     rcases hm with ⟨q,w⟩ | ⟨q,w⟩
     ·exact .inl ⟨q,by omega⟩
     ·exact .inr ⟨q,by omega⟩
    exact B1 _ _ m _ _ _ H3 m12.1 m12.2 hm' L3
  ·rintro σ H3 ⟨v13,v14,v15,v16,m,rfl,L3,hm⟩
   exact D13 v13 v14 v15 v16 m _ _ H3 (by rw[lc];omega) L3
 have GJ:∀(low task base':Int) (long:Nat) (H5:Hp),Good ns low->1<=long->long<=40->0<=base'->base'+long<=pgs ns->Same H1 H5->R6.1 { nx:=fun _ H'=>Q .non H',rt:=Q } [some (.ref sc),some (.ref w'),some (.int low),some (.int (pgs ns)),some (.int task),some (.int (long:Int)),some (.int base'),none,none,none,none,none,none,none,none,none,none] H5:=by
  intro low task base' long H5 g lo1 yF b0 b1 s15
  have S5:=s15.seq S1
  have q5:=s15.seq q1
  walk_at "go"
  intro l hl
  generalize hh:upd _ l _=H6
  obtain⟨s6,e6⟩:=b7 hl hh
  clear hh
  have n64:ns.length<=64:=by have:=hW.1;omega
  walk_at "go"
  refine fun x dx hx hdx ne=>⟨x,l,dx,ns,low,rfl,aj,?_,n64,fun _ H7 SH7 fr=>⟨rfl,?_⟩,fun z=>absurd g z⟩
  ·rw[av (ay e6 hx),av (ay e6 hdx)];exact e6
  have s7:Same H6 H7:=fun b o z=>fr b o (by rw[av (ay z hx),av (ay z hdx)];exact z) (ay z hx)
  walk_at "go"
  refine fun y dy hy hdy ney=>⟨y,x,dy,ns,low,_,rfl,aj,SH7.same ?_,g,fun top H8 ht SP8 fr8=>⟨rfl,?_⟩⟩
  ·exact(aB hdy).trans (aB (by rw[av ney.symm];exact hy))
  have s8:Same H7 H8:=fun b o z=>fr8 b o (by rw[av (ay z hy),av (ay z hdy)];exact z) (ay z hy)
  walk_at "go"
  intro sl hsl
  generalize hh:upd _ sl _=H9
  obtain⟨s9,e9⟩:=b7 hsl hh
  clear hh
  walk_at "go"
  intro d hd
  generalize hh:upd _ d _=H10
  obtain⟨s10,e10⟩:=b7 hd hh
  clear hh
  walk_at "go"
  intro ol hol
  generalize hh:upd _ ol _=H11
  obtain⟨s11,e11⟩:=b7 hol hh
  clear hh
  walk_at "go"
  intro tl htl
  generalize hh:upd _ tl _=H12
  obtain⟨s12,e12⟩:=b7 htl hh
  clear hh
  have HD:=((s9.trans s10).trans s11).trans s12
  have HE:=(((s15.trans s6).trans s7).trans s8).trans HD
  have S12:=HE.seq S1
  obtain⟨ms,em,lms⟩:=BU ss (some 3) (some 66)
  walk_at "go"
  intro cl hcl
  rw[em]
  generalize hh:upd _ cl _=H13
  obtain⟨s13,e13⟩:=b7 hcl hh
  clear hh
  have S13:=s13.seq S12
  have mxp:(0:Int) < (if (1:Int) < ((ms.map V.int).length:Int) then ((ms.map V.int).length:Int) else 1):=by split<;>omega
  walk_at "go"
  intro hl hhl
  generalize hh:upd _ hl _=H14
  obtain⟨s14,e14⟩:=b7 hhl hh
  clear hh
  have t10:=(((s11.trans s12).trans s13).trans s14)
  have t9:=s10.trans t10
  have t11:=(s12.trans s13).trans s14
  have t12:=s13.trans s14
  have e9':=t9 _ _ e9
  have HF:=t10 _ _ e10
  have HG:=t11 _ _ e11
  have HH:=t12 _ _ e12
  have HI:=s14 _ _ e13
  have hw8:=(((s15.trans s6).trans s7).trans s8) _ _ hw
  have HJ:=(s9.trans t9) _ _ hw8
  have f9:=s9 _ _ hw8
  have g10:=s10 _ _ e9
  have L14:Ls9 a H14 ns low task base' long w' sl ol tl cl hl ms 1 64 0:=by
   refine⟨⟨fun _=>y,fun _=>d,fun _=>[top],⟨fun i hi=>?_,fun i j hi hj ne=>absurd (by omega) ne⟩,e9',HG⟩,HJ,HH,HI,[],e14,Nat.le_refl _,fun t h=>(by cases h)⟩
   have ei:i=0:=by omega
   subst ei
   refine⟨fun π:Ix=>if π=[] then some top else none,0,fun _=>none,[],[],?_,by omega⟩
   show Hf a H14 y d ns low (task+((0:Nat):Int)) base' long _ [top] 0 (fun _=>none) [] []
   rw[show task+((0:Nat):Int)=task by omega]
   exact⟨SP8.same (s9.trans t9),⟨fun n _ _ _=>nd0 g top n,fun n g' _ _ h=>(by cases h)⟩,⟨HF,rfl,List.nodup_nil,fun _ _=>rfl,fun n g' h=>(by cases h)⟩,fun n g' h=>(by cases h),fun z=>(by rw[List.mem_singleton.mp z] at hd;exact(SP8.same s9).live (by simp) hd),b0,b1,yF⟩
  have ne9:Ne9 w' sl ol tl cl hl:=⟨⟨ay g10 hol,ay (s11 _ _ g10) htl,ay (s12 _ _ (s11 _ _ g10)) hcl,ay (s13 _ _ (s12 _ _ (s11 _ _ g10))) hhl,(ay hw8 hsl).symm⟩,⟨ay e11 htl,ay (s12 _ _ e11) hcl,ay (s13 _ _ (s12 _ _ e11)) hhl,(ay (s10 _ _ f9) hol).symm⟩,(ay (s13 _ _ e12) hhl).symm,(ay e13 hhl).symm,(ay (s13 _ _ (s12 _ _ (s11 _ _ (s10 _ _ f9)))) hhl).symm⟩
  repeat (first | exact FN low task base' _ long sl ol tl cl hl ms H14 g lo1 yF b0 b1 (Int.emod_nonneg _ (fun z=>by rw[z] at mxp;exact absurd mxp (by decide))) (by omega) ne9 L14 | (apply And.intro;(walk_at "cl")) | walk_at "ex")
 have GK:∀(low task:Int) (long:Nat) (H5:Hp),Good ns low->1<=long->long<=40->(long:Int)<=pgs ns->Same H1 H5->R5.1 { nx:=fun _ H'=>Q .non H',rt:=Q } [some (.ref sc),some (.ref w'),some (.int low),some (.int (pgs ns)),some (.int task),some (.int (long:Int)),none,none,none,none,none,none,none,none,none,none,none] H5:=by
  intro low task long H5 g lo1 yF lop s15
  have S5:=s15.seq S1
  have cm:∀c:Int,zO c 9000000000000000041:=fun c=>.inr ⟨by decide,by decide⟩
  have cm1:=cm (ss.getD (2:Int).toNat 0%(10:Int)^(60:Int).toNat)
  have dp:(0:Int) < pgs ns-(long:Int)+1:=by omega
  have b0:=Int.emod_nonneg (ss.getD (2:Int).toNat 0%(10:Int)^(60:Int).toNat*9000000000000000041) (show pgs ns-(long:Int)+1≠0 by omega)
  have b1:=Int.emod_lt_of_pos (ss.getD (2:Int).toNat 0%(10:Int)^(60:Int).toNat*9000000000000000041) dp
  repeat (first | exact GJ low task _ long H5 g lo1 yF b0 (by omega) s15 | (apply And.intro;(walk_at "cl")) | walk_at "ex")
 obtain⟨wz,ewz,wz1,IV⟩:∃z:Int,atI [V.int 12,V.int 40,V.int 12,V.int 12] (ss.getD (1:Int).toNat 0%4)=some (.int z)/\1<=z/\z<=40:=by
  have h0:=Int.emod_nonneg (ss.getD (1:Int).toNat 0) (show (4:Int)≠0 by decide)
  have h1:=Int.emod_lt_of_pos (ss.getD (1:Int).toNat 0) (show (0:Int) < 4 by decide)
  generalize ss.getD (1:Int).toNat 0%4=z at h0 h1
  have:z=0\/z=1\/z=2\/z=3:=by omega
  rcases this with rfl | rfl | rfl | rfl
  ·exact⟨12,rfl,by decide,by decide⟩
  ·exact⟨40,rfl,by decide,by decide⟩
  ·exact⟨12,rfl,by decide,by decide⟩
  ·exact⟨12,rfl,by decide,by decide⟩
 obtain⟨long,elo,lo1,yF,lop⟩:∃long:Nat,(if wz < 1*2^ns.sum.toNat then wz else 1*2^ns.sum.toNat)=(long:Int)/\1<=long/\long<=40/\(long:Int)<=pgs ns:=by
  rw[tot]
  by_cases c:wz < pgs ns
  ·rw[if_pos c];exact⟨wz.toNat,by omega,by omega,by omega,by omega⟩
  ·rw[if_neg c];exact⟨(pgs ns).toNat,by omega,by omega,by omega,by omega⟩
 walk_at "go"
 intro lw hlw
 generalize hh:upd _ lw _=H2
 obtain⟨s2,e2⟩:=b7 hlw hh
 clear hh
 have S2:=s2.seq S1
 have fin:=GK (drawn (ss.getD (0:Int).toNat 0) 39373 99961 7) (ss.getD (1:Int).toNat 0%(10:Int)^(60:Int).toNat) long H2 (g0 _ l0 l7) lo1 yF lop s2
 rw[<-elo,<-tot] at fin
 repeat (first | exact fin | (apply And.intro;(walk_at "cl")) | walk_at "ex")
end
end K19

set_option maxHeartbeats 4000000
namespace L2
open PySem PySem.Spec PyProof.Rows
section
variable {P:List Value->Prop}
theorem u0 (h:P []): ∀us:List Value,us.length=0->P us
  | [],_=>h
theorem uS {n:Nat}(h:∀(a:Value) (us:List Value),us.length=n->P (a::us)): ∀us:List Value,us.length=n+1->P us
  | a::us,e=>h a us (Nat.succ.inj e)
theorem u1 (h:∀a:Value,P [a]): ∀us:List Value,us.length=1->P us:=uS fun a=>u0 (h a)
theorem u2 (h:∀a b:Value,P [a,b]): ∀us:List Value,us.length=2->P us:=uS fun a=>u1 (P:=fun us=>P (a::us)) (h a)
theorem u3 (h:∀a b c:Value,P [a,b,c]): ∀us:List Value,us.length=3->P us:=uS fun a=>u2 (P:=fun us=>P (a::us)) (h a)
theorem u4 (h:∀a b c d:Value,P [a,b,c,d]): ∀us:List Value,us.length=4->P us:=uS fun a=>u3 (P:=fun us=>P (a::us)) (h a)
theorem u5 (h:∀a b c d e:Value,P [a,b,c,d,e]): ∀us:List Value,us.length=5->P us:=uS fun a=>u4 (P:=fun us=>P (a::us)) (h a)
theorem u6 (h:∀a b c d e f:Value,P [a,b,c,d,e,f]): ∀us:List Value,us.length=6->P us:=uS fun a=>u5 (P:=fun us=>P (a::us)) (h a)
theorem u7 (h:∀a b c d e f g:Value,P [a,b,c,d,e,f,g]): ∀us:List Value,us.length=7->P us:=uS fun a=>u6 (P:=fun us=>P (a::us)) (h a)
theorem u8 (h:∀a b c d e f g i:Value,P [a,b,c,d,e,f,g,i]): ∀us:List Value,us.length=8->P us:=uS fun a=>u7 (P:=fun us=>P (a::us)) (h a)
end
def BA (nm q:Str)(st:Stmt)(ps:List Str): Prop:=∀(kV doc pm:Value) (an:Option Addr) (cdv ct:Value) (us:List Value),us.length=ps.length ->
  bindArgs (W.fnOf nm q (bK st) (aO st) (au st) .none kV doc pm an cdv ct) ⟨us,[]⟩=pure (ps.zip us)
section
variable {K:W.Frag}{h:Heap}{mg:Str->Option Value}{C f:Addr}{x m q:Str}{st:Stmt}{ps:List Str}{oc kV doc pm cdv ct:Value}{od an:Option Addr}{sl:Array (Option Value)}
theorem cE.of (X:K.In h)(G:h.Ns mainGlobals mg)(a:W.nsIn K mainGlobals x=some (some (.ref f)))(l:K.lookup f=some ⟨oc,od,.func (W.fnOf x x (bK st) (aO st) (au st) .none kV doc pm an cdv ct),sl⟩)
    (c:W.codeIn K cdv x=true) (k:W.keepIn K (.ref f)=true) (b:BA x x st ps):cE K mg x st ps [] :=
  ⟨f,oc,od,.none,kV,doc,pm,an,cdv,ct,sl,[],l,c,k,W.mg_of X G a,.all (b _ _ _ _ _ _),.nil⟩
theorem bB.of (e:W.findIn K (.ref C) m=some (some (.ref f)))(l:K.lookup f=some ⟨oc,od,.func (W.fnOf m q (bK st) (aO st) (au st) .none kV doc pm an cdv ct),sl⟩)
    (c:W.codeIn K cdv q=true) (k:W.keepIn K (.ref f)=true) (i:W.isFn K (.ref f)=true) (b:BA m q st ps):bB K C m q st ps [] :=
  ⟨f,oc,od,.none,kV,doc,pm,an,cdv,ct,sl,[],l,c,⟨e,i,k⟩,.all (b _ _ _ _ _ _),.nil⟩
theorem kA.of (e:W.findIn K (.ref C) "__init__" = some (some (.ref f))) (l:K.lookup f=some ⟨oc,od,.func (W.fnOf "__init__" q (bK st) (aO st) (au st) .none kV doc pm an cdv ct),sl⟩)
    (c:W.codeIn K cdv q=true) (k:W.makesIn K C=true) (i:W.isFn K (.ref f)=true) (kc:W.keepIn K (.ref C)=true) (b:BA "__init__" q st ps):kA K C q st ps [] :=
  ⟨f,oc,od,.none,kV,doc,pm,an,cdv,ct,sl,[],l,c,⟨k,e,i,kc⟩,.all (b _ _ _ _ _ _),.nil⟩
theorem XL.mk' {bm N nm qn bs sn sub ab col dd k0 k1 k2 k3 k5} (l:K.lookup C=some (excClassObj nm qn C N bs bm true sn sub ab col dd k0 k1 k2 k3 k5 "ValueError.__new__")) (r:yh bm=true):XL K C :=
  ⟨bm,N,nm,qn,bs,sn,sub,ab,col,dd,k0,k1,k2,k3,k5,l,r⟩
end
end L2

set_option maxHeartbeats 4000000
namespace K19
open PySem L2
theorem all_mk {l:W.OpenLaw} {w:World} {K:W.Frag} {h:Heap} {mg:Str->Option Value} {fa aY eU aT bL bE bj fm aA aK fq bp bC b9 aZ aU aD az dg f25 f26 f38 f39 f67:Addr} (X:K.In h) (G:h.Ns mainGlobals mg) (hfa:mg "law" = some (.ref fa))
  {HK HL:Option Addr} {HM:Array (Option Value)} {HN HP HQ HR GL HS:Value}
  {HU HV:Option Addr} {HW:Array (Option Value)} {HX HY HZ H_ GN Ia:Value}
  {Ib Ic:Option Addr} {Ie:Array (Option Value)} {Ig Ih Ii Ij GO Ik:Value}
  {Il Io:Option Addr} {Ip:Array (Option Value)} {Iq Ir Iu Iv GP Iw:Value}
  {Iy GQ:Option Addr} {Iz:Array (Option Value)} {IA GR GU GV FO GW:Value}
  {su:Array DictEntry} {yG:Nat}
  {qj o9 sv vT sx:Tok}
  (tE:W.nsIn K mainGlobals "LeafError" = some (some (.ref aY)))
  (xN:W.nsIn K mainGlobals "NoShape" = some (some (.ref eU)))
  (tF:W.nsIn K mainGlobals "NoAddress" = some (some (.ref aT)))
  (tG:W.nsIn K mainGlobals "NoStretch" = some (some (.ref bL)))
  (vU:W.nsIn K mainGlobals "NoRights" = some (some (.ref bE)))
  (AZ:W.nsIn K mainGlobals "Taken" = some (some (.ref bj)))
  (A6:W.nsIn K mainGlobals "Fault" = some (some (.ref fm)))
  (vV:W.nsIn K mainGlobals "Unmapped" = some (some (.ref aA)))
  (yH:W.nsIn K mainGlobals "Barred" = some (some (.ref aK)))
  (C_:W.nsIn K mainGlobals "Leaf" = some (some (.ref fq)))
  (A7:W.nsIn K mainGlobals "Fresh" = some (some (.ref bp)))
  (Dc:W.nsIn K mainGlobals "Held" = some (some (.ref bC)))
  (Eb:W.nsIn K mainGlobals "Out" = some (some (.ref b9)))
  (A8:W.nsIn K mainGlobals "Named" = some (some (.ref aZ)))
  (Dd:W.nsIn K mainGlobals "Tree" = some (some (.ref aU)))
  (A9:W.nsIn K mainGlobals "Space" = some (some (.ref aD)))
  (A_:W.nsIn K mainGlobals "Shape" = some (some (.ref az)))
  (o_:W.findCls K (.ref fq) (.type "type") "__init__" = some (.val (.ref f25)))
  (Ec:W.readsIn K fq (.type "type")=true)
  (Ed:W.specialIn K (.ref fq) "__getattribute__" = some (some (.builtin "type.__getattribute__")))
  (nY:W.findIn K (.ref bp) "__init__" = some (some (.ref f25)))
  (lz:W.findIn K (.ref aA) "__init__" = some (some (.ref f39)))
  (vW:W.findIn K (.ref bp) "may" = some (some (.ref f26)))
  (xO:W.findIn K (.ref bC) "may" = some (some (.ref f26)))
  (yI:W.findIn K (.ref b9) "may" = some (some (.ref f26)))
  (vX:W.findIn K (.ref aZ) "may" = some (some (.ref f26)))
  (mG:W.findIn K (.ref aK) "__init__" = some (some (.ref f39)))
  (nZ:W.findIn K (.ref bj) "__init__" = some (some (.ref f38)))
  (l25:K.lookup f25=some ⟨HN,HK,.func (W.fnOf "__init__" "Leaf.__init__" (bK bG) (aO bG) (au bG) .none HP HQ HR HL GL HS),HM⟩)
  (c25:W.codeIn K GL "Leaf.__init__" = true)
  (k25:W.keepIn K (.ref f25)=true)
  (i25:W.isFn K (.ref f25)=true)
  (l26:K.lookup f26=some ⟨HX,HU,.func (W.fnOf "may" "Leaf.may" (bK cZ) (aO cZ) (au cZ) .none HY HZ H_ HV GN Ia),HW⟩)
  (c26:W.codeIn K GN "Leaf.may" = true)
  (k26:W.keepIn K (.ref f26)=true)
  (i26:W.isFn K (.ref f26)=true)
  (l38:K.lookup f38=some ⟨Ig,Ib,.func (W.fnOf "__init__" "Taken.__init__" (bK bx) (aO bx) (au bx) .none Ih Ii Ij Ic GO Ik),Ie⟩)
  (c38:W.codeIn K GO "Taken.__init__" = true)
  (k38:W.keepIn K (.ref f38)=true)
  (i38:W.isFn K (.ref f38)=true)
  (l39:K.lookup f39=some ⟨Iq,Il,.func (W.fnOf "__init__" "Fault.__init__" (bK bz) (aO bz) (au bz) .none Ir Iu Iv Io GP Iw),Ip⟩)
  (c39:W.codeIn K GP "Fault.__init__" = true)
  (k39:W.keepIn K (.ref f39)=true)
  (i39:W.isFn K (.ref f39)=true)
  (a67:W.nsIn K mainGlobals "law" = some (some (.ref f67)))
  (l67:K.lookup f67=some ⟨IA,Iy,.func (W.fnOf "law" "law" (bK cP) (aO cP) (au cP) .none GR GU GV GQ FO GW),Iz⟩)
  (c67:W.codeIn K FO "law" = true)
  (k67:W.keepIn K (.ref f67)=true)
  (r1:cE K mg "check_shape" i3 ["widths", "low"] [])
  (r2:cE K mg "check_inside" hX ["number", "bound"] [])
  (r3:bB K az "pages" "Shape.pages" i4 ["self"] [])
  (r4:bB K az "size" "Shape.size" jJ ["self"] [])
  (r5:bB K az "check_address" "Shape.check_address" dM ["self", "address"] [])
  (r6:bB K az "part_widths" "Shape.part_widths" eo ["self"] [])
  (r7:bB K az "cut" "Shape.cut" kE ["self", "address"] [])
  (r8:bB K az "address_of" "Shape.address_of" eO ["self", "page", "place"] [])
  (r9:bB K aU "indexes" "Tree.indexes" ie ["self", "page"] [])
  (r10:bB K aU "path_to" "Tree.path_to" ig ["self", "indexes"] [])
  (r11:cE K mg "prune" uW ["path", "indexes"] [])
  (r12:cE K mg "one_level_down" fM ["nodes", "width"] [])
  (r13:cE K mg "check_rights" hZ ["rights"] [])
  (r14:cE K mg "lets" yj ["rights", "deed"] [])
  (r15:kA K bC "Held.__init__" gB ["self", "rights", "frame"] [])
  (r16:kA K b9 "Out.__init__" ic ["self", "rights", "slot"] [])
  (r17:kA K aZ "Named.__init__" fL ["self", "rights", "name", "part"] [])
  (r18:bB K aU "leaf" "Tree.leaf" kH ["self", "page"] [])
  (r19:bB K aU "rows" "Tree.rows" kI ["self"] [])
  (r20:bB K aU "put" "Tree.put" mj ["self", "page", "leaf"] [])
  (r21:kA K aU "Tree.__init__" gD ["self", "shape"] [])
  (r22:bB K az "page_of" "Shape.page_of" gv ["self", "address"] [])
  (r23:bB K aD "leaf" "Space.leaf" jK ["self", "page"] [])
  (r24:bB K az "place_of" "Shape.place_of" fK ["self", "address"] [])
  (r25:bB K az "stretch" "Shape.stretch" gw ["self", "first", "many"] [])
  (r26:bB K aD "put" "Space.put" kJ ["self", "page", "leaf"] [])
  (r27:bB K aD "check_mapped" "Space.check_mapped" dU ["self", "pages", "deed"] [])
  (r28:bB K aU "drop" "Tree.drop" gb ["self", "page"] [])
  (r29:bB K bp "righted" "Fresh.righted" gA ["self", "rights"] [])
  (r30:bB K bC "righted" "Held.righted" h_ ["self", "rights"] [])
  (r31:bB K b9 "righted" "Out.righted" i5 ["self", "rights"] [])
  (r32:bB K aZ "righted" "Named.righted" gC ["self", "rights"] [])
  (r33:bB K aU "tables" "Tree.tables" i6 ["self"] [])
  (r34:kA K aD "Space.__init__" fN ["self", "shape", "task"] [])
  (r35:bB K aD "rows" "Space.rows" jL ["self"] [])
  (r36:cE K mg "_law_drawn" jQ ["_law_cell", "_law_by", "_law_prime", "_law_many"] [])
  (r37:cE K mg "_law_name" kL ["_law_number"] [])
  (r38:cE K mg "_law_whole" jP ["_law_found"] [])
  (r39:cE K mg "_law_like" kN ["_law_found", "_law_due"] [])
  (r40:bB K bp "row" "Fresh.row" kF ["self"] [])
  (r41:bB K bC "row" "Held.row" mh ["self"] [])
  (r42:bB K b9 "row" "Out.row" oy ["self"] [])
  (r43:bB K aZ "row" "Named.row" kG ["self"] [])
  (r44:bB K aD "tables" "Space.tables" ip ["self"] [])
  (r45:cE K mg "_law_tables" i8 ["_law_own", "_law_widths_here"] [])
  (r46:bB K aD "lay" "Space.lay" kK ["self", "first", "leaves"] [])
  (r47:cE K mg "_law_leaf" kM ["_law_row_here"] [])
  (r48:bB K aD "lift" "Space.lift" jM ["self", "first", "many"] [])
  (r49:bB K aD "change" "Space.change" iq ["self", "first", "many", "rights"] [])
  (r50:cE K mg "_law_done" kP ["_law_space", "_law_way", "_law_first", "_law_rows", "_law_rights"] [])
  (r51:cE K mg "_law_unmapped" gE ["_law_refusal", "_law_task", "_law_address", "_law_way"] [])
  (r52:bB K aD "seek" "Space.seek" jN ["self", "address", "deed"] [])
  (r53:cE K mg "_law_row" mo ["_law_cell"] [])
  (r54:cE K mg "_law_step" cX ["_law_space", "_law_own", "_law_task", "_law_low", "_law_way", "_law_first", "_law_rows", "_law_rights"] [])
  (r55:cE K mg "_law_widths" i7 ["_law_cell"] [])
  (r56:cE K mg "_law_cell_at" iu ["_law_script", "_law_k"] [])
  (r57:kA K az "Shape.__init__" fJ ["self", "widths", "low"] [])
  (r58:bB K aD "like" "Space.like" jO ["self", "task"] [])
  (r59:cE K mg "_law_kept" kQ ["_law_space", "_law_own", "_law_held", "_law_page"] [])
  (r60:cE K mg "_law_deed" gi ["_law_space", "_law_own", "_law_task", "_law_low", "_law_cell", "_law_base", "_law_window"] [])
  (r61:cE K mg "_law_all" mq ["_law_space", "_law_own", "_law_widths_here", "_law_page"] [])
  (r62:cE K mg "_law_sought" c6 ["_law_space", "_law_own", "_law_task", "_law_low", "_law_page", "_law_cell"] [])
  (zb:Cls K fq)
  (dD:Cls K bp)
  (eG:Cls K bC)
  (gH:Cls K b9)
  (dE:Cls K aZ)
  (bN:Cls K aU)
  (aN:Cls K aD)
  (aP:Cls K az)
  (De:W.makesIn K bp=true)
  (Df:W.keepIn K (.ref bp)=true)
  (Ba:W.nsIn K mainGlobals "NEEDED" = some (some (.ref dg)))
  (Bb:K.lookup dg=some ⟨.type "dict",none,.dict su yG,#[]⟩)
  (Bc:W.KeysLit w.params su.toList)
  (Bd:(dg==sysModules)=false)
  (dh:W.findIn K (.ref bp) "rights" = some none)
  (fw:W.findIn K (.ref bC) "frame" = some none)
  (dG:W.findIn K (.ref bC) "rights" = some none)
  (lY:W.findIn K (.ref fq) "rights" = some none)
  (fz:W.findIn K (.ref aZ) "name" = some none)
  (fA:W.findIn K (.ref aZ) "part" = some none)
  (di:W.findIn K (.ref aZ) "rights" = some none)
  (d7:W.findIn K (.ref b9) "rights" = some none)
  (iy:W.findIn K (.ref b9) "slot" = some none)
  (dX:W.findIn K (.ref az) "low" = some none)
  (cQ:W.findIn K (.ref az) "widths" = some none)
  (b_:W.findIn K (.ref aD) "shape" = some none)
  (fB:W.findIn K (.ref aD) "task" = some none)
  (bW:W.findIn K (.ref aD) "tree" = some none)
  (cf:W.findIn K (.ref aU) "shape" = some none)
  (c7:W.findIn K (.ref aU) "top" = some none)
  (iR:W.excIn K aY bmV "ValueError.__new__" = true)
  (jv:W.excIn K eU bmV "ValueError.__new__" = true)
  (kU:W.excIn K aT bmV "ValueError.__new__" = true)
  (iT:W.excIn K bL bmV "ValueError.__new__" = true)
  (mw:W.excIn K bE bmV "ValueError.__new__" = true)
  (cu:XL K aA)
  (j5:W.findIn K (.ref aA) "__setattr__" = some (some (.builtin "object.__setattr__")))
  (gk:W.findIn K (.ref aA) "address" = some none)
  (iX:W.findIn K (.ref aA) "deed" = some none)
  (iY:W.findIn K (.ref aA) "task" = some none)
  (j6:W.findIn K (.ref aA) "__getattribute__" = some (some (.builtin "BaseException.__getattribute__")))
  (j7:W.findIn K (.ref aA) "__getattr__" = some none)
  (jA:XL K bj)
  (Be:W.findIn K (.ref bj) "__setattr__" = some (some (.builtin "object.__setattr__")))
  (lA:W.findIn K (.ref bj) "page" = some none)
  (Bf:W.findIn K (.ref bj) "__getattribute__" = some (some (.builtin "BaseException.__getattribute__")))
  (Bg:W.findIn K (.ref bj) "__getattr__" = some none)
  (dH:XL K aK)
  (mH:W.findIn K (.ref aK) "__setattr__" = some (some (.builtin "object.__setattr__")))
  (iL:W.findIn K (.ref aK) "address" = some none)
  (ke:W.findIn K (.ref aK) "deed" = some none)
  (kf:W.findIn K (.ref aK) "task" = some none)
  (mI:W.findIn K (.ref aK) "__getattribute__" = some (some (.builtin "BaseException.__getattribute__")))
  (mJ:W.findIn K (.ref aK) "__getattr__" = some none)
  (vY:W.findCls K (.ref aY) (.type "type") "__init__" = some (.val (.builtin "ValueError.__init__")))
  (vZ:W.readsIn K aY (.type "type")=true)
  (v7:W.specialIn K (.ref aY) "__getattribute__" = some (some (.builtin "type.__getattribute__")))
  (ja:W.nsIn K dg "read" = some (some (.int 1 qj)))
  (iz:W.nsIn K dg "write" = some (some (.int 2 o9)))
  (jT:W.nsIn K mainGlobals "MOST_WIDTH" = some (some (.int 24 sv)))
  (my:W.nsIn K mainGlobals "MOST_LOW" = some (some (.int 6 vT)))
  (jU:W.nsIn K mainGlobals "MOST_PAGES" = some (some (.int 64 sx)))
  (Cz:W.nsIn K mainGlobals "all" = some none)
  (yu:W.nsIn K mainGlobals "bool" = some none)
  (yv:W.nsIn K mainGlobals "dict" = some none)
  (zi:W.nsIn K mainGlobals "int" = some none)
  (bw:W.nsIn K mainGlobals "isinstance" = some none)
  (cT:W.nsIn K mainGlobals "len" = some none)
  (oS:W.nsIn K mainGlobals "list" = some none)
  (CA:W.nsIn K mainGlobals "max" = some none)
  (zj:W.nsIn K mainGlobals "min" = some none)
  (eI:W.nsIn K mainGlobals "range" = some none)
  (iA:W.nsIn K mainGlobals "reversed" = some none)
  (nC:W.nsIn K mainGlobals "sorted" = some none)
  (xh:W.nsIn K mainGlobals "str" = some none)
  (zm:W.nsIn K mainGlobals "sum" = some none)
  (lE:W.nsIn K mainGlobals "tuple" = some none)
  (CB:W.nsIn K mainGlobals "zip" = some none)
  (vp:XIs K bj)
  (jV:XIs K aA)
  (nD:XIs K aK)
  (pC:XIs K aT)
  (pD:XIs K bL)
  (rE:XIs K bE)
  (hn:W.specialIn K (.builtin "object.__class__") "__get__" = some (some (.builtin "getset_descriptor.__get__")))
  (htk:W.takesIn K (.builtin "object.__class__")=some true)
  (pE:W.mroIn K aT (.ref aY)=some true)
  (jW:W.mroIn K aA (.ref aY)=some true)
  (kW:W.mroIn K bL (.ref aY)=some true)
  (mz:W.mroIn K bE (.ref aY)=some true)
  (rF:W.mroIn K aK (.ref aY)=some true)
  (vq:W.mroIn K bj (.ref aY)=some true)
  (Fv:W.kitOne K (.ref bj) (.ref bj)=some true)
  (Gv:W.kitOne K (.ref bj) (.ref aA)=some false)
  (Gw:W.kitOne K (.ref bj) (.ref fm)=some false)
  (Gx:W.kitOne K (.ref aA) (.ref bj)=some false)
  (DY:W.kitOne K (.ref aA) (.ref aA)=some true)
  (Fw:W.kitOne K (.ref aA) (.ref fm)=some true)
  (Gy:W.kitOne K (.ref aK) (.ref bj)=some false)
  (Fx:W.kitOne K (.ref aK) (.ref aA)=some false)
  (Fy:W.kitOne K (.ref aK) (.ref fm)=some true) :
  ∃fd:FuncData,(∀(s:Shared) (v:Value),BindsTo s fd ⟨[v],[]⟩ [("_law_script",v)])/\∀base:Heap,K.In base->base.Ns mainGlobals mg->fY l.prog w K mg base (CXE l.prog w) 12 fa fd ["_law_script"] (zH K):=by
 have e:=hfa.symm.trans (W.mg_of X G a67)
 cases e
 have T:Txt w K mg ⟨aY,eU,aT,bL,bE,bj,fm,aA,aK,fq,bp,bC,b9,aZ,aU,aD,az,dg⟩:=⟨zb,dD,eG,gH,dE,bN,aN,aP,dh,fw,dG,lY,fz,fA,di,d7,iy,dX,cQ,b_,fB,bW,cf,c7,iR,W.mg_of X G tE,jv,W.mg_of X G xN,kU,W.mg_of X G tF,iT,W.mg_of X G tG,mw,W.mg_of X G vU,W.mg_of X G AZ,W.mg_of X G A6,W.mg_of X G vV,W.mg_of X G yH,W.mg_of X G C_,W.mg_of X G A7,W.mg_of X G Dc,W.mg_of X G Eb,W.mg_of X G A8,W.mg_of X G Dd,W.mg_of X G A9,W.mg_of X G A_,cu,gT.of cu j5 gk,gT.of cu j5 iX,gT.of cu j5 iY,kD.of cu j6 j7 gk,kD.of cu j6 j7 iX,kD.of cu j6 j7 iY,jA,gT.of jA Be lA,kD.of jA Bf Bg lA,dH,gT.of dH mH iL,gT.of dH mH ke,gT.of dH mH kf,kD.of dH mI mJ iL,kD.of dH mI mJ ke,kD.of dH mI mJ kf,⟨v7,⟨_,vZ,vY⟩⟩,W.mg_of X G Ba,⟨⟨_,_,Bb,Bc⟩,Bd⟩,⟨_,ja⟩,⟨_,iz⟩,⟨_,W.mg_of X G jT⟩,⟨_,W.mg_of X G my⟩,⟨_,W.mg_of X G jU⟩,W.mg_none_of X G Cz,W.mg_none_of X G yu,W.mg_none_of X G yv,W.mg_none_of X G zi,W.mg_none_of X G bw,W.mg_none_of X G cT,W.mg_none_of X G oS,W.mg_none_of X G CA,W.mg_none_of X G zj,W.mg_none_of X G eI,W.mg_none_of X G iA,W.mg_none_of X G nC,W.mg_none_of X G xh,W.mg_none_of X G zm,W.mg_none_of X G lE,W.mg_none_of X G CB,vp,jV,nD,pC,pD,rE,⟨hn,htk⟩,pE,jW,kW,mz,rF,vq,Fv,Gv,Gw,Gx,DY,Fw,Gy,Fx,Fy⟩
 refine⟨W.fnOf "law" "law" (bK cP) (aO cP) (au cP) .none GR GU GV GQ FO GW,fun s v=>.of_eq rfl,fun base _ _=>?_⟩
 have aL:=tm (P:=l.prog) (base:=base) r36 T
 have ji:=se (P:=l.prog) (base:=base) r55 T aL
 have cx:=qi (P:=l.prog) (base:=base) r56 T
 have gI:=oW (P:=l.prog) (base:=base) r21 T
 have cK:=nS (P:=l.prog) (base:=base) r34 T gI
 have jc:=rG (P:=l.prog) (base:=base) r1 T
 have fS:=nF (P:=l.prog) (base:=base) r57 T jc
 have cH:=nL (P:=l.prog) (base:=base) r12 T
 have k8:=vG (P:=l.prog) (base:=base) r19 T cH
 have d9:=sY (P:=l.prog) (base:=base) r35 T k8
 have cR:=qa (P:=l.prog) (base:=base) r2 T
 have cg:=rH (P:=l.prog) (base:=base) r3 T
 have cG:=sW (P:=l.prog) (base:=base) r4 T
 have a_:=jX (P:=l.prog) (base:=base) r5 T cR cg cG
 have ez:=kX (P:=l.prog) (base:=base) r6 T
 have kY:=vB (P:=l.prog) (base:=base) r7 T a_ ez
 have b6:=lQ (P:=l.prog) (base:=base) r8 T cR cg cG
 have bX:=qb (P:=l.prog) (base:=base) r9 T kY b6
 have mD:=xn (P:=l.prog) (base:=base) r20 T bX
 have b4:=vJ (P:=l.prog) (base:=base) r26 T mD
 have j4:=tj (P:=l.prog) (base:=base) r58 T cK d9 b4
 have k7:=vC (P:=l.prog) (base:=base) r18 T bX
 have bf:=sX (P:=l.prog) (base:=base) r23 T k7
 have lr:=vR (P:=l.prog) (base:=base) r59 T bf
 have k_:=vL (P:=l.prog) (base:=base) r37 T
 have mE:=xF (P:=l.prog) (base:=base) r53 T aL k_
 have cS:=qd (P:=l.prog) (base:=base) r13 T
 have cI:=Gd (dvs:=[]) (ds:=[]) (jB (P:=l.prog) (w:=w) (base:=base) l25 c25 T cS) ⟨De,nY,i25,Df⟩ (.all (fun us hl=>match us,hl with | [_,_],_=>rfl)) .nil
 have bI:=Ge (dvs:=[]) (ds:=[]) (jB (P:=l.prog) (w:=w) (base:=base) l25 c25 T cS) ⟨Ed,⟨_,Ec,o_⟩,k25⟩ (.all (fun us hl=>match us,hl with | [_,_],_=>rfl)) .nil
 have cU:=oZ (P:=l.prog) (base:=base) r15 T bI
 have dq:=qe (P:=l.prog) (base:=base) r16 T bI
 have cJ:=nN (P:=l.prog) (base:=base) r17 T bI
 have eW:=vN (P:=l.prog) (base:=base) r47 T cI cU dq cJ
 have bO:=oV (P:=l.prog) (base:=base) r25 T cg
 have fR:=Cu (dvs:=[]) (ds:=[]) (nQ (P:=l.prog) (w:=w) (base:=base) l38 c38 T) (px.of jA nZ i38) (.all (fun us hl=>match us,hl with | [_,_],_=>rfl)) .nil
 have la:=vK (P:=l.prog) (base:=base) r46 T bO bf fR b4
 have bY:=Cu (dvs:=[]) (ds:=[]) (iW (P:=l.prog) (w:=w) (base:=base) l39 c39 T) (px.of cu lz i39) (.all (fun us hl=>match us,hl with | [_,_,_,_],_=>rfl)) .nil
 have bQ:=kj (P:=l.prog) (base:=base) r27 T bf bY b6
 have iD:=qc (P:=l.prog) (base:=base) r10 T
 have vE:=CI (P:=l.prog) (base:=base) r11 T
 have k9:=vD (P:=l.prog) (base:=base) r28 T bX iD vE
 have j2:=tf (P:=l.prog) (base:=base) r48 T bO bQ k9
 have gK:=o0 (P:=l.prog) (base:=base) r29 T cI
 have iH:=qf (P:=l.prog) (base:=base) r30 T cU
 have je:=rQ (P:=l.prog) (base:=base) r31 T dq
 have gL:=o3 (P:=l.prog) (base:=base) r32 T cJ
 have iK:=qg (P:=l.prog) (base:=base) r49 T bO cS bQ b4 gK iH je gL bf
 have lh:=vP (P:=l.prog) (base:=base) r50 T la eW j2 iK
 have bA:=tD (P:=l.prog) (base:=base) r38 T
 have gM:=o5 (P:=l.prog) (base:=base) r51 T bA
 have bR:=vO (P:=l.prog) (base:=base) r39 T bA
 have bS:=vH (P:=l.prog) (base:=base) r40 T
 have b8:=xr (P:=l.prog) (base:=base) r41 T
 have cL:=yA (P:=l.prog) (base:=base) r42 T
 have bT:=vI (P:=l.prog) (base:=base) r43 T
 have lj:=vQ (P:=l.prog) (base:=base) r54 T lh bA gM bR bS b8 cL bT
 have lu:=vS (P:=l.prog) (base:=base) r60 T aL mE b4 eW lj
 have jf:=rO (P:=l.prog) (base:=base) r33 T cH
 have iJ:=qh (P:=l.prog) (base:=base) r44 T jf
 have jh:=sj (P:=l.prog) (base:=base) r45 T
 have mF:=xH (P:=l.prog) (base:=base) r61 T d9 bA bR bS b8 cL bT iJ jh bf
 have gJ:=oU (P:=l.prog) (base:=base) r22 T a_
 have oY:=D3 (P:=l.prog) (base:=base) r14 T
 have pH:=y4 (dvs:=[]) (ds:=[]) (iV (P:=l.prog) (w:=w) (base:=base) l26 c26 T oY) ⟨vW,i26,k26⟩ (.all (fun us hl=>match us,hl with | [_,_],_=>rfl)) .nil
 have rV:=y4 (dvs:=[]) (ds:=[]) (iV (P:=l.prog) (w:=w) (base:=base) l26 c26 T oY) ⟨xO,i26,k26⟩ (.all (fun us hl=>match us,hl with | [_,_],_=>rfl)) .nil
 have uy:=y4 (dvs:=[]) (ds:=[]) (iV (P:=l.prog) (w:=w) (base:=base) l26 c26 T oY) ⟨yI,i26,k26⟩ (.all (fun us hl=>match us,hl with | [_,_],_=>rfl)) .nil
 have pI:=y4 (dvs:=[]) (ds:=[]) (iV (P:=l.prog) (w:=w) (base:=base) l26 c26 T oY) ⟨vX,i26,k26⟩ (.all (fun us hl=>match us,hl with | [_,_],_=>rfl)) .nil
 have fD:=Cu (dvs:=[]) (ds:=[]) (iW (P:=l.prog) (w:=w) (base:=base) l39 c39 T) (px.of dH mG i39) (.all (fun us hl=>match us,hl with | [_,_,_,_],_=>rfl)) .nil
 have fQ:=nI (P:=l.prog) (base:=base) r24 T a_ cG
 have j3:=sZ (P:=l.prog) (base:=base) r52 T gJ bf bY pH rV uy pI fD fQ
 have jk:=sr (P:=l.prog) (base:=base) r62 T aL j3 bR bS b8 cL bT
 exact FL l67 c67 T ji cx aL cK fS j4 lr lu mF jk bR bS b8 cL bT
theorem walk {l:W.OpenLaw}{q:Program}{loose:List Str}{XP:(Str->Option Value)->Heap->Prop}{YP:World->Heap->Prop}{d:DefRec}{K:Params->W.Frag}(hn:l.most=some 63)(hdf:d.params.defaults=[])
  (hY:∀(w:World) (h:Heap),YP w h->(K w.params).In h)
  (F:∀(w:World) (mg:Str->Option Value) (fa:Addr) (h:Heap),(K w.params).In h->h.Ns mainGlobals mg->mg d.name=some (.ref fa) ->
   ∃fd:FuncData,(∀(s:Shared) (u:Value),BindsTo s fd ⟨[u],[]⟩ [("_law_script",u)])/\∀base:Heap,(K w.params).In base->base.Ns mainGlobals mg->fY l.prog w (K w.params) mg base (CXE l.prog w) 12 fa fd ["_law_script"] (zH (K w.params))) :
  W.WalkO q loose XP YP l.row.toRowW d [] (fun f vs=>PySem.call f vs) :=
 L2.Dr (n:=63) (k:=12) (x := "_law_script") (CX:=fun w=>CXE l.prog w) (sp:=fun w=>zH (K w.params)) hn (by decide) hdf ⟨rfl,by decide,by decide⟩ hY F (fun _ _ a ns hl _ hS=>⟨a,ns,rfl,hS,hl,fun _=>rfl⟩) fun _ _ _ _ _ z=>by
  obtain⟨_,_,_,_,_,_,_,_,_,_,q⟩:=z
  exact q
end K19

set_option maxHeartbeats 4000000
local macro_rules | `(tactic| walk_at "bu") => `(tactic| first | exact fun _ _ _ _ _ _ => L2.u1 fun _ => rfl | exact fun _ _ _ _ _ _ => L2.u2 fun _ _ => rfl | exact fun _ _ _ _ _ _ => L2.u3 fun _ _ _ => rfl | exact fun _ _ _ _ _ _ => L2.u4 fun _ _ _ _ => rfl | exact fun _ _ _ _ _ _ => L2.u5 fun _ _ _ _ _ => rfl | exact fun _ _ _ _ _ _ => L2.u6 fun _ _ _ _ _ _ => rfl | exact fun _ _ _ _ _ _ => L2.u7 fun _ _ _ _ _ _ _ => rfl | exact fun _ _ _ _ _ _ => L2.u8 fun _ _ _ _ _ _ _ _ => rfl | exact fun _ _ _ _ _ _ => L2.u9 fun _ _ _ _ _ _ _ _ _ => rfl | exact fun _ _ _ _ _ _ => L2.u0 rfl)
local macro_rules | `(tactic| walk_at "zz") => `(tactic| first | (with_reducible show (_ == PySem.sysModules) = false; exact rfl) | (refine' L2.bB.of ?a ?l ?c ?k ?i ?b; (case a => k_is); (case l => k_is); (case c => k_is); (case k => k_is); (case i => k_is); (case b => walk_at "bu")) | (refine' L2.cE.of (by assumption) (by assumption) ?a ?l ?c ?k ?b; (case a => k_is); (case l => k_is); (case c => k_is); (case k => k_is); (case b => walk_at "bu")) | (refine' L2.kA.of ?a ?l ?c ?k ?i ?j ?b; (case a => k_is); (case l => k_is); (case c => k_is); (case k => k_is); (case i => k_is); (case j => k_is); (case b => walk_at "bu")) | (refine' L2.Cls.mk ?a ?b ?c ?d <;> k_is) | (refine' L2.XIs.mk ?a ?b ?c ?d ?e ?f <;> k_is) | (refine' L2.XL.mk' ?a ?b; (case a => k_is); (case b => first | rfl | decide +kernel)) | k_is | kit_is | k_exc | k_keys | rfl)
open PySem PySem.W PyProof.Rows
namespace PySem.W.Fast
theorem tw2124811483931255820:True:=trivial
theorem tw4842597759821662535:True:=trivial
theorem tw6136900413158447658:True:=trivial
theorem tw5268703472037058042:True:=trivial
theorem tw4964493149254137084:True:=trivial
theorem tw7390862206637578473:True:=trivial
theorem tw10410006552321677326:True:=trivial
theorem tw13096411378066312671:True:=trivial
theorem tw1534682852468530773:True:=trivial
theorem tw1812848891120096859:True:=trivial
theorem tw15822295887544566070:True:=trivial
theorem tw16599211692351644541:True:=trivial
theorem tw10468806224181138283:True:=trivial
theorem tw5616403460642332230:True:=trivial
theorem tw12865747315260631017:True:=trivial
theorem tw12894624009774536669:True:=trivial
theorem tw9264017313683863273:True:=trivial
theorem tw6288636640255502101:True:=trivial
theorem tw5153694041292743768:True:=trivial
theorem tw11174898739917045345:True:=trivial
theorem tw5118361937078869332:True:=trivial
theorem tw4980049934547807319:True:=trivial
theorem tw1250107851349410538:True:=trivial
theorem tw9476447549407435259:True:=trivial
theorem tw11568209394931243200:True:=trivial
theorem tw2977335517811054627:True:=trivial
theorem tw18165002741507203715:True:=trivial
theorem tw3636818407535081237:True:=trivial
theorem tw7893208391259826310:True:=trivial
theorem tw10644109763935384668:True:=trivial
theorem tw15778083069845148518:True:=trivial
theorem tw8337498806393637395:True:=trivial
theorem tw8707877990260396108:True:=trivial
theorem tw1380127040259997393:True:=trivial
theorem tw14252201882865994846:True:=trivial
theorem tw18369576832536083383:True:=trivial
theorem tw5546184151234030816:True:=trivial
theorem tw2923183365939587687:True:=trivial
theorem tw558019496325118530:True:=trivial
theorem tw16824056604246475102:True:=trivial
theorem tw2797983530344680079:True:=trivial
theorem tw15788679136624594565:True:=trivial
theorem tw6386699896779929471:True:=trivial
theorem tw12096242002699318217:True:=trivial
theorem tw6913526733459766799:True:=trivial
theorem tw15302553041326505565:True:=trivial
theorem tw4929981518845051701:True:=trivial
theorem tw8761476967836348602:True:=trivial
theorem tw12902104147097700890:True:=trivial
theorem tw13464187886723113805:True:=trivial
theorem tw6311025348491839508:True:=trivial
theorem tw7963008722475853354:True:=trivial
theorem tw6892345572803884156:True:=trivial
theorem tw4521345441886149271:True:=trivial
theorem tw4588568646395461446:True:=trivial
theorem tw11696748912749578388:True:=trivial
theorem tw8780918442967047614:True:=trivial
theorem tw6123315688394310757:True:=trivial
theorem tw8027573089361577526:True:=trivial
theorem tw18412656525846521480:True:=trivial
theorem tw6709594982372541261:True:=trivial
theorem tw2030839380651120598:True:=trivial
theorem tw4965777416771186666:True:=trivial
theorem tw2181215586097980431:True:=trivial
theorem tw1236481878370224424:True:=trivial
theorem tw3968135786912426414:True:=trivial
theorem tw17822323634740112741:True:=trivial
theorem tw14659759291723661647:True:=trivial
theorem tw12494381969230681332:True:=trivial
theorem tw7953280558784074854:True:=trivial
theorem tw2381420623922646985:True:=trivial
theorem tw11788418120877466241:True:=trivial
theorem tw12845779571237216039:True:=trivial
theorem tw8187398657309497212:True:=trivial
theorem tw13239365776168747160:True:=trivial
theorem tw8964821524798327374:True:=trivial
theorem tw7497652398542474712:True:=trivial
theorem tw9660583225433453559:True:=trivial
theorem tw8771867158203923437:True:=trivial
theorem tw7298728731745427261:True:=trivial
theorem tw5241297529453829927:True:=trivial
theorem tw10748193449309942616:True:=trivial
theorem tw12401130957606093219:True:=trivial
theorem tw18045753698916786315:True:=trivial
theorem tw13102716751857281517:True:=trivial
theorem tw5355781400608776957:True:=trivial
theorem tw13447478392906407840:True:=trivial
theorem tw4937030392413011811:True:=trivial
theorem tw504453218928485870:True:=trivial
theorem tw14149505256685953340:True:=trivial
theorem tw15135504874583582081:True:=trivial
theorem tw16416248178375309337:True:=trivial
theorem tw6787186455105008953:True:=trivial
theorem tw5872702534572227869:True:=trivial
theorem tw10915285387474536989:True:=trivial
theorem tw6162618476088469136:True:=trivial
theorem tw14864335225197720476:True:=trivial
theorem tw11940395642288965886:True:=trivial
theorem tw18008016167297246814:True:=trivial
theorem tw17717280202348413514:True:=trivial
theorem tw2772724028078145804:True:=trivial
theorem tw10639446769656000224:True:=trivial
theorem tw10745220100497502141:True:=trivial
theorem tw12482745849995630552:True:=trivial
theorem tw16858558392447311910:True:=trivial
theorem tw15249323293622135467:True:=trivial
theorem tw464083382636572289:True:=trivial
theorem tw13829561015926320581:True:=trivial
theorem tw8000728474401420728:True:=trivial
theorem tw16921339776374483214:True:=trivial
theorem tw18348134084871231796:True:=trivial
theorem tw8771442048624349658:True:=trivial
theorem tw10000437822219850136:True:=trivial
theorem tw14342899974506884394:True:=trivial
theorem tw16998148244228333882:True:=trivial
theorem tw1682362613218568689:True:=trivial
theorem tw1781401010307153551:True:=trivial
theorem tw9746844375307838080:True:=trivial
theorem tw16593494764312272724:True:=trivial
theorem tw11892620266959000444:True:=trivial
theorem tw10662112071107091603:True:=trivial
theorem tw8239804808477087556:True:=trivial
theorem tw1395749588041492350:True:=trivial
theorem tw10886127631559246790:True:=trivial
theorem tw11343835229992047615:True:=trivial
theorem tw227059465481129231:True:=trivial
theorem tw5636787390543510881:True:=trivial
theorem tw9133271476180412159:True:=trivial
theorem tw17166706952599329503:True:=trivial
theorem tw11427645594268583329:True:=trivial
theorem tw17426580001964608839:True:=trivial
theorem tw6915726219841674338:True:=trivial
theorem tw12662402774518627450:True:=trivial
theorem tw11403897572025451848:True:=trivial
theorem tw13973538623538956382:True:=trivial
theorem tw12316447560748400537:True:=trivial
theorem tw17129634893882025498:True:=trivial
theorem tw15888854962742143369:True:=trivial
theorem tw8343705569028931845:True:=trivial
theorem tw18169788726610623346:True:=trivial
theorem tw6963336439260744407:True:=trivial
theorem tw8154231872755127949:True:=trivial
theorem tw14927217125470971267:True:=trivial
theorem tw18000772965874705647:True:=trivial
theorem tw16787460134394000921:True:=trivial
theorem tw15107545267032638410:True:=trivial
theorem tw13842057196500401288:True:=trivial
theorem tw6736871609880846347:True:=trivial
theorem tw9013931388747020904:True:=trivial
theorem tw14644985118934311304:True:=trivial
theorem tw15947836724589374589:True:=trivial
theorem tw16695818442243193498:True:=trivial
theorem tw9044982702106062489:True:=trivial
theorem tw4162543007039819173:True:=trivial
theorem tw12101231027571881422:True:=trivial
theorem tw2466395550541008214:True:=trivial
theorem tw2623937271315443747:True:=trivial
theorem tw5113793162239261468:True:=trivial
theorem tw2157478027286830281:True:=trivial
theorem tw11816182082108120750:True:=trivial
theorem tw1921061108242410736:True:=trivial
theorem tw6575526512775457902:True:=trivial
theorem tw14961666236907163670:True:=trivial
theorem tw10205102546392397682:True:=trivial
theorem tw6330156784142481900:True:=trivial
theorem tw12396554568636232739:True:=trivial
theorem tw12295991420567037157:True:=trivial
theorem tw14965066044941546712:True:=trivial
theorem tw11100356159229872959:True:=trivial
theorem tw11361893617461717110:True:=trivial
theorem tw11190086527274758563:True:=trivial
theorem tw3819152924090780079:True:=trivial
theorem tw16256850269762176341:True:=trivial
theorem tw8310777483483454914:True:=trivial
theorem tw10884428638719697978:True:=trivial
theorem tw12006299941048966781:True:=trivial
theorem tw15302104347253511311:True:=trivial
theorem tw3098937411655059882:True:=trivial
theorem tw15091089712989378010:True:=trivial
theorem tw7192227498844889978:True:=trivial
theorem tw15339197663989655754:True:=trivial
theorem tw12709849081116814860:True:=trivial
theorem tw7842355839504191948:True:=trivial
theorem tw7363109383202658570:True:=trivial
theorem tw6721216411653548534:True:=trivial
theorem tw6615052252102099850:True:=trivial
theorem tw9905250595669019817:True:=trivial
theorem tw7056232821423624205:True:=trivial
theorem tw13508883443224654964:True:=trivial
theorem tw12046440461022537363:True:=trivial
theorem tw8552671457747012857:True:=trivial
theorem tw4361084265333290240:True:=trivial
theorem tw6772753295365560023:True:=trivial
theorem tw118165240612659310:True:=trivial
theorem tw14688457767989072185:True:=trivial
theorem tw1253448878206140217:True:=trivial
theorem tw17332101576098015267:True:=trivial
theorem tw1535113289379061768:True:=trivial
theorem tw9097044689970255294:True:=trivial
theorem tw15377592822166774898:True:=trivial
theorem tw3363459988451281595:True:=trivial
theorem tw1001749036285401489:True:=trivial
theorem tw9954033455410222415:True:=trivial
theorem tw9132920206014751918:True:=trivial
theorem tw16783781729488669059:True:=trivial
theorem tw114766357311697020:True:=trivial
theorem tw6705281326936049236:True:=trivial
theorem tw11447380722575356271:True:=trivial
theorem tw3712789553913034973:True:=trivial
theorem tw12098178549787197763:True:=trivial
theorem tw14215552256680296821:True:=trivial
theorem tw13697884714958262232:True:=trivial
theorem tw2046672432773054487:True:=trivial
theorem tw12564141467778743680:True:=trivial
theorem tw6514877524407507759:True:=trivial
theorem tw15294548617196387625:True:=trivial
theorem tw8286608567923750486:True:=trivial
theorem tw4981857700748823905:True:=trivial
theorem tw13147792467160944206:True:=trivial
theorem tw11108106254132641346:True:=trivial
theorem tw10207731882496789731:True:=trivial
theorem tw17235657512145690324:True:=trivial
theorem tw279502905601374510:True:=trivial
theorem tw13402912645102342255:True:=trivial
theorem tw1422075510267575500:True:=trivial
theorem tw3639352778340828933:True:=trivial
theorem tw5747982397018672451:True:=trivial
theorem tw14339616458056549976:True:=trivial
theorem tw5190548582161231412:True:=trivial
theorem tw851819937299754516:True:=trivial
theorem tw1676525726424604860:True:=trivial
theorem tw9336107073448839215:True:=trivial
theorem tw4035381783959445266:True:=trivial
theorem tw9923866828294266440:True:=trivial
theorem tw7839314001494967861:True:=trivial
theorem tw12365214678007306330:True:=trivial
theorem tw18018013717101264828:True:=trivial
theorem tw6662738238298622704:True:=trivial
theorem tw14814848194098332729:True:=trivial
theorem tw5595551400222585470:True:=trivial
theorem tw14359266250514993555:True:=trivial
theorem tw15695699609324680767:True:=trivial
theorem tw9551069949416511591:True:=trivial
theorem tw16682070201107636662:True:=trivial
theorem tw7373371059892741512:True:=trivial
theorem tw769991990495482154:True:=trivial
theorem tw10744311969885579133:True:=trivial
theorem tw17470835033771743904:True:=trivial
theorem tw4964012680112656211:True:=trivial
theorem tw11381211277090358732:True:=trivial
theorem tw9873704584580109:True:=trivial
theorem tw8849404830035865465:True:=trivial
theorem tw7740018536331143096:True:=trivial
theorem tw2581603805413402812:True:=trivial
theorem tw7484998354971935521:True:=trivial
theorem tw14814714623221721232:True:=trivial
theorem tw14643324530775203417:True:=trivial
theorem tw15803782906328499868:True:=trivial
theorem tw2683614150183396042:True:=trivial
theorem tw6806286122167369569:True:=trivial
theorem tw17402308948710696420:True:=trivial
theorem tw2832376935134831012:True:=trivial
theorem tw5212581052859647506:True:=trivial
theorem tw9214031645522033068:True:=trivial
theorem tw9834106804639706129:True:=trivial
theorem tw1205590370475560754:True:=trivial
theorem tw14869395844126400871:True:=trivial
theorem tw266352041622192844:True:=trivial
theorem tw9654490452259993039:True:=trivial
theorem tw16624703258534508770:True:=trivial
theorem tw18281675034524008167:True:=trivial
theorem tw3772289608739653751:True:=trivial
theorem tw9936209931245919783:True:=trivial
theorem tw10064547657200566874:True:=trivial
theorem tw10498355896230449428:True:=trivial
theorem tw12173838192196609086:True:=trivial
theorem tw16348099733992166767:True:=trivial
theorem tw10804240026114158250:True:=trivial
theorem tw4046251456243336877:True:=trivial
theorem tw7886400169477295941:True:=trivial
theorem tw13825610145614591340:True:=trivial
theorem tw6194038456712896351:True:=trivial
theorem tw12735003065061919627:True:=trivial
theorem tw3424921944777347771:True:=trivial
theorem tw13540698991028114769:True:=trivial
theorem tw16544437993054192895:True:=trivial
theorem tw16126741674378823695:True:=trivial
theorem tw12117637730433203699:True:=trivial
theorem tw9570322615932123441:True:=trivial
theorem tw13392758742706996052:True:=trivial
theorem tw1224176907362359446:True:=trivial
theorem tw1073480861136247697:True:=trivial
theorem tw12262329820003662728:True:=trivial
theorem tw7215887618680172321:True:=trivial
theorem tw16698798396183310200:True:=trivial
theorem tw14894513839568666332:True:=trivial
theorem tw15741220393661097893:True:=trivial
theorem tw2425306491143811695:True:=trivial
theorem tw8183203803664166249:True:=trivial
theorem tw15416970706797720645:True:=trivial
theorem tw8705921011263354389:True:=trivial
theorem tw18180196271525357504:True:=trivial
theorem tw13249712599511745959:True:=trivial
theorem tw17215428691469940096:True:=trivial
theorem tw15394403570385067898:True:=trivial
theorem tw13114417288406325149:True:=trivial
theorem tw5077670733769553938:True:=trivial
theorem tw17679346319472820370:True:=trivial
theorem tw3905516040994299049:True:=trivial
theorem tw1327362553370303764:True:=trivial
theorem tw431788961265706946:True:=trivial
theorem tw16326595284471283232:True:=trivial
theorem tw3778565866213564334:True:=trivial
theorem tw6451946576633189631:True:=trivial
theorem tw4818745620965722051:True:=trivial
theorem tw15811409987025289728:True:=trivial
theorem tw11980383189270199010:True:=trivial
theorem tw13323178234452650787:True:=trivial
theorem tw15216154206788085105:True:=trivial
theorem tw9079400949780166171:True:=trivial
theorem tw4951844276965775924:True:=trivial
theorem tw17338840423252051664:True:=trivial
theorem tw462901741440584392:True:=trivial
theorem tw8511521743090591336:True:=trivial
theorem tw8953122881750048907:True:=trivial
theorem tw13865179732594635074:True:=trivial
theorem tw11908546452943189530:True:=trivial
theorem tw13130201588347498702:True:=trivial
theorem tw826541305290358609:True:=trivial
theorem tw16694439030806660900:True:=trivial
theorem tw916852177057081732:True:=trivial
theorem tw11334982039497278779:True:=trivial
theorem tw15850980928610713296:True:=trivial
theorem tw10217039485244730505:True:=trivial
theorem tw4105238246237564329:True:=trivial
theorem tw17097996928641849547:True:=trivial
theorem tw10094794546833011055:True:=trivial
theorem tw8334777888888638172:True:=trivial
theorem tw6022808977478400397:True:=trivial
theorem tw8721663627393567391:True:=trivial
theorem tw11361008177873219891:True:=trivial
theorem tw8020762033480724879:True:=trivial
theorem tw16208797710461077262:True:=trivial
theorem tw15427515316164400212:True:=trivial
theorem tw16580255219392067970:True:=trivial
theorem tw5889164375056882176:True:=trivial
theorem tw4524189515836640562:True:=trivial
theorem tw11611596111137686493:True:=trivial
theorem tw290416383612246331:True:=trivial
theorem tw6368386131944839415:True:=trivial
theorem tw13904326453746337284:True:=trivial
theorem tw7384138973458960198:True:=trivial
theorem tw12378430618903644320:True:=trivial
theorem tw9269866940540261354:True:=trivial
theorem tw15299793213992021896:True:=trivial
theorem tw13629548204682279670:True:=trivial
theorem tw3689892840147388846:True:=trivial
theorem tw4225499243620113096:True:=trivial
theorem tw1595072866155365628:True:=trivial
theorem tw6475347275822342959:True:=trivial
theorem tw12516801339925718682:True:=trivial
theorem tw6459452594093247518:True:=trivial
theorem tw8830050956469335142:True:=trivial
theorem tw17318834571147699248:True:=trivial
theorem tw13256335863413620535:True:=trivial
theorem tw18050899154629952355:True:=trivial
theorem tw14437402751594251457:True:=trivial
theorem tw5942276477922036845:True:=trivial
theorem tw17605601489742158062:True:=trivial
theorem tw8325180528825486791:True:=trivial
theorem tw7626602462006874954:True:=trivial
theorem tw16912051598277137352:True:=trivial
theorem tw2943012696170912744:True:=trivial
theorem tw7717209923404105885:True:=trivial
theorem tw4260849188816750516:True:=trivial
theorem tw7821902073475967593:True:=trivial
theorem tw16673321374416688783:True:=trivial
theorem tw15022362337719491385:True:=trivial
theorem tw13279427301428980406:True:=trivial
theorem tw16629613020097352804:True:=trivial
theorem tw4982344797490767704:True:=trivial
theorem tw7110834179740188224:True:=trivial
theorem tw16419953714952262845:True:=trivial
theorem tw14155896081485907933:True:=trivial
theorem tw9667417057134341274:True:=trivial
theorem tw18369038174074372071:True:=trivial
theorem tw18285903947680018961:True:=trivial
theorem tw10947974007118436298:True:=trivial
theorem tw14226423989768237835:True:=trivial
theorem tw18438981512282217282:True:=trivial
theorem tw1761870086919326060:True:=trivial
theorem tw1381270713290552832:True:=trivial
theorem tw10009497287476998533:True:=trivial
theorem tw6236573754383841888:True:=trivial
theorem tw14517176687515955034:True:=trivial
theorem tw9383271813497530551:True:=trivial
theorem tw7962129923269029395:True:=trivial
theorem tw1826195863474226912:True:=trivial
theorem tw11117975335830706502:True:=trivial
theorem tw18005110283213980431:True:=trivial
theorem tw2500134040328368758:True:=trivial
theorem tw666702420905503895:True:=trivial
theorem tw15852576141031029412:True:=trivial
theorem tw2174689488722695216:True:=trivial
theorem tw2695733664007795693:True:=trivial
theorem tw15570637698628129960:True:=trivial
theorem tw18095165872394788372:True:=trivial
theorem tw17562375875205260501:True:=trivial
theorem tw12099150551415732199:True:=trivial
theorem tw5099818143642285349:True:=trivial
theorem tw6451437311314314778:True:=trivial
theorem tw9540543049649770278:True:=trivial
theorem tw8274200121659985301:True:=trivial
theorem tw17123300048608716001:True:=trivial
theorem tw13626889824537585781:True:=trivial
theorem tw9786477695585994182:True:=trivial
theorem tw5361800791901555656:True:=trivial
theorem tw11348052414695295996:True:=trivial
theorem tw10355928652781359605:True:=trivial
theorem tw7268569173681840990:True:=trivial
theorem tw5813778948047809671:True:=trivial
theorem tw11973075797631133638:True:=trivial
theorem tw15991508436017234605:True:=trivial
theorem tw17017453869978856369:True:=trivial
theorem tw13975332893225635232:True:=trivial
end PySem.W.Fast
set_option maxHeartbeats 0 in
theorem PySem.Challenge.cw_leafframe_k19_space_rows_holds : PySem.Challenge.rw_leafframe_k19_space_rows.Holds := by
 w_on;o_law;k_head;(case hw=>w_witness2)
 k_fill
 refine K19.walk (l:=PySem.Challenge.rw_leafframe_k19_space_rows) rfl rfl (fun w h Y=>PySem.W.kIn_of Y) ?F
 case F =>
  intro w mg fa h KX G hmg
  refine' K19.all_mk KX G hmg ?_ ?_ ?_ ?_ ?_ ?_ ?_ ?_ ?_ ?_ ?_ ?_ ?_ ?_ ?_ ?_ ?_ ?_ ?_ ?_ ?_ ?_ ?_ ?_ ?_ ?_ ?_ ?_ ?_ ?_ ?_ ?_ ?_ ?_ ?_ ?_ ?_ ?_ ?_ ?_ ?_ ?_ ?_ ?_ ?_ ?_ ?_ ?_ ?_ ?_ ?_ ?_ ?_ ?_ ?_ ?_ ?_ ?_ ?_ ?_ ?_ ?_ ?_ ?_ ?_ ?_ ?_ ?_ ?_ ?_ ?_ ?_ ?_ ?_ ?_ ?_ ?_ ?_ ?_ ?_ ?_ ?_ ?_ ?_ ?_ ?_ ?_ ?_ ?_ ?_ ?_ ?_ ?_ ?_ ?_ ?_ ?_ ?_ ?_ ?_ ?_ ?_ ?_ ?_ ?_ ?_ ?_ ?_ ?_ ?_ ?_ ?_ ?_ ?_ ?_ ?_ ?_ ?_ ?_ ?_ ?_ ?_ ?_ ?_ ?_ ?_ ?_ ?_ ?_ ?_ ?_ ?_ ?_ ?_ ?_ ?_ ?_ ?_ ?_ ?_ ?_ ?_ ?_ ?_ ?_ ?_ ?_ ?_ ?_ ?_ ?_ ?_ ?_ ?_ ?_ ?_ ?_ ?_ ?_ ?_ ?_ ?_ ?_ ?_ ?_ ?_ ?_ ?_ ?_ ?_ ?_ ?_ ?_ ?_ ?_ ?_ ?_ ?_ ?_ ?_ ?_ ?_ ?_ ?_ ?_ ?_ ?_ ?_ ?_ ?_ ?_ ?_ ?_ ?_ ?_ ?_ ?_ ?_ ?_ ?_ ?_ ?_ ?_ ?_ ?_ ?_ ?_ ?_ ?_ ?_ ?_
  all_goals first | walk_at "zz" | skip
  all_goals first | rfl | exact rfl | decide
