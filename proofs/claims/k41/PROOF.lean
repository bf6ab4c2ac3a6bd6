import PyProof.Rows.All
import Wide.All
import OpenK.AllK
import Wide.FinOn
import PyProof.EqAt
import PyProof.EqKinds
import PyProof.TupleCall
import OpenK.KOwn
import PyProof.CompUse
import PyProof.NeKinds
import PyProof.StrOps2
import KE.KDictOf
import PyProof.AttrMissHeap
import PyProof.ListRange
import PyProof.TupleOfGen
import PyProof.CollectStr
import PyProof.StrLawsTight
import PyProof.StrLawsChain
import PyProof.StrLawsIn
import PyProof.StrLawsIdx
import PyProof.Rows.CatFin
import PyProof.Rows.StrItems
import KE.IntTextLaws
import PyProof.Rows.ReprOcc
import PyProof.FitsInt
import KE.KIntText
import Lean
import PySem.Challenge.RW_glyphhall_k41_widths
set_option Elab.async false
set_option linter.all false
set_option maxRecDepth 100000
set_option maxHeartbeats 0
namespace L2
open PySem PySem.Spec PyProof.Rows
abbrev Key:=Sum Int Str
def a3l:Key->Value->Bool
 |.inl k,v=>Value.isInt k v
 |.inr x,v=>Value.isStrOf x v
def b9q(w:World):Key->Int
 |.inl k=>hashInt k
 |.inr x=>hashStr w x
theorem y0:∀{k:Key} {v:Value},a3l k v=true->(∃i t,k=Sum.inl i/\v=Value.int i t)∨(∃x t,k=Sum.inr x/\v=Value.str x t)
 |.inl i,v,h=>by
  obtain⟨t,e⟩:=Value.isInt_shape (k:=i) (v:=v) h;exact .inl ⟨i,t,rfl,e⟩
 |.inr x,v,h=>by
  obtain⟨t,e⟩:=Value.isStrOf_shape (x:=x) (v:=v) h;exact .inr ⟨x,t,rfl,e⟩
theorem a8d(i:Int)(t:Tok):a3l (.inl i) (.int i t)=true:=by simp[a3l,Value.isInt]
theorem a8c(x:Str)(t:Tok):a3l (.inr x) (.str x t)=true:=by simp[a3l,Value.isStrOf]
theorem b4X(a b:Int):decide ((Sum.inl a:Key)=Sum.inl b)=(a==b):=by
 by_cases e:a=b
 · subst e;simp
 · have h:¬(Sum.inl a:Key)=Sum.inl b:=fun q=>e (Sum.inl.inj q)
   rw[decide_eq_false h];exact(beq_eq_false_iff_ne.mpr e).symm
theorem b4U(a b:Str):decide ((Sum.inr a:Key)=Sum.inr b)=decide (a=b):=by
 by_cases e:a=b
 · subst e;simp
 · have h:¬(Sum.inr a:Key)=Sum.inr b:=fun q=>e (Sum.inr.inj q)
   rw[decide_eq_false h,decide_eq_false e]
theorem b4W(a:Int)(b:Str):decide ((Sum.inl a:Key)=Sum.inr b)=false:=decide_eq_false (fun q=>nomatch q)
theorem b4V(a:Str)(b:Int):decide ((Sum.inr a:Key)=Sum.inl b)=false:=decide_eq_false (fun q=>nomatch q)
def u5 (prog:Program) (w:World):PySem.KeyKind prog w Key where
 is:=a3l
 hash:=b9q w
 inj:=fun v a b ha hb=>by
  rcases y0 ha with⟨i,t,rfl,rfl⟩|⟨x,t,rfl,rfl⟩
  · rcases y0 hb with⟨j,u,rfl,e⟩|⟨y,u,rfl,e⟩
    · injection e with e1 _;rw[e1]
    · exact nomatch e
  · rcases y0 hb with⟨j,u,rfl,e⟩|⟨y,u,rfl,e⟩
    · exact nomatch e
    · injection e with e1 _;rw[e1]
 byValue:=fun k v h=>by
  rcases y0 h with⟨i,t,rfl,rfl⟩|⟨x,t,rfl,rfl⟩<;>rfl
 pyHash:=fun hv h=>by
  rcases y0 hv with⟨i,t,rfl,rfl⟩|⟨x,t,rfl,rfl⟩
  · exact wpAny_pyHash_int h
  · exact wpAny_pyHash_str h
 eqBool:=fun hu hv h=>by
  rcases y0 hu with⟨i,t,rfl,rfl⟩|⟨x,t,rfl,rfl⟩
  · rcases y0 hv with⟨j,u,rfl,rfl⟩|⟨y,u,rfl,rfl⟩
    · rw[b4X] at h;exact wpAny_eqBool_int h
    · rw[b4W] at h;exact SeqAt.EqAt.int_str i t y u _ _ _ _ h
  · rcases y0 hv with⟨j,u,rfl,rfl⟩|⟨y,u,rfl,rfl⟩
    · rw[b4V] at h;exact SeqAt.EqAt.str_int x t j u _ _ _ _ h
    · rw[b4U] at h;exact wpAny_eqBool_str h
 «strs»:=fun k x t v h=>by
  rcases y0 h with⟨i,u,rfl,e⟩|⟨y,u,rfl,e⟩
  · exact nomatch e
  · injection e with e1 _
    subst e1
    cases v<;>rfl
theorem a5o(prog:Program)(w:World)(i:Int)(t:Tok):(u5 prog w).is (.inl i) (.int i t)=true:=a8d i t
theorem a5n(prog:Program)(w:World)(x:Str)(t:Tok):(u5 prog w).is (.inr x) (.str x t)=true:=a8c x t
end L2
namespace L2
open PySem PySem.Spec PyProof.Rows
inductive V where
 |non|bl (b:Bool)|int (i:Int)|str (x:Str)|byt (b:Array UInt8)|flt (b:UInt64)|ref (a:Addr)|ty (n:String)
 deriving DecidableEq
def n4:V->Value->Prop
 |.non,u=>u=Value.none
 |.bl b,u=>u=Value.bool b
 |.int i,u=>∃t,u=Value.int i t
 |.str x,u=>∃t,u=Value.str x t
 |.byt b,u=>∃t,u=Value.bytes b t
 |.flt b,u=>∃t,u=Value.float b t
 |.ref a,u=>u=Value.ref a
 |.ty n,u=>u=Value.type n
abbrev n8:List V->List Value->Prop:=Paired n4
theorem n8.length{xs:List V}{us:List Value}(r:n8 xs us):xs.length=us.length:=Paired.length r
theorem n8.get:∀{xs:List V} {us:List Value} {i:Nat} {x:V},n8 xs us->xs[i]? =some x->∃u,us[i]? =some u/\n4 x u
 |_,_,_,_,.nil,e=>by simp at e
 |_,_,0,_,.cons r _,e=>by simp at e;subst e;exact⟨_,rfl,r⟩
 |_,_,i+1,x,.cons _ t,e=>by
  obtain⟨u,h1,h2⟩:=n8.get (i:=i) (x:=x) t (by simpa using e)
  exact⟨u,by simpa using h1,h2⟩
theorem n8.set{x:V}{u:Value}(r:n4 x u):∀{xs:List V} {us:List Value} (i:Nat),n8 xs us->n8 (xs.set i x) (us.set i u)
 |_,_,_,.nil=>.nil
 |_,_,0,.cons _ t=>.cons r t
 |_,_,i+1,.cons q t=>.cons q (n8.set r i t)
theorem n8.append:∀{xs ys:List V} {us ws:List Value},n8 xs us->n8 ys ws->n8 (xs++ys) (us++ws)
 |_,_,_,_,.nil,s=>s
 |_,_,_,_,.cons r t,s=>.cons r (n8.append t s)
theorem n8.take:∀{xs:List V} {us:List Value} (n:Nat),n8 xs us->n8 (xs.take n) (us.take n)
 |_,_,0,_=>.nil
 |_,_,_+1,.nil=>.nil
 |_,_,n+1,.cons r t=>.cons r (n8.take n t)
theorem n8.drop:∀{xs:List V} {us:List Value} (n:Nat),n8 xs us->n8 (xs.drop n) (us.drop n)
 |_,_,0,r=>r
 |_,_,_+1,.nil=>.nil
 |_,_,n+1,.cons _ t=>n8.drop n t
def a0h:Option V->Option Value->Prop
 |some v,some u=>n4 v u
 |none,none=>True
 |_,_=>False
def KV{κ:Type}:List (κ×V)->List (κ×Value)->Prop:=Paired fun(p:κ×V) (q:κ×Value)=>p.1=q.1/\n4 p.2 q.2
def kV:Key->V
 |.inl i=>.int i
 |.inr x=>.str x
inductive HO where
 /-- a list -/
 |lst (xs:List V)
 /-- a tuple (never changes) -/
 |tup (xs:List V)
 /-- a dict whose keys are ints and texts; one whose keys are tuples of ints and texts (the empty one is both) -/
 |dK (kvs:List (Key×V))|dT (kvs:List (List Key×V))
 /-- a set of ints: its members, its size -/
 |set (S:Int->Bool) (n:Nat)
 /-- an instance of the class at C, its dict at dx, its attributes -/
 |ins (C dx:Addr) (fs:List (Str×V))
 /-- the dict of the instance at x -/
 |own (x:Addr)
 /-- the dict of an exception -/
 |xd (fs:List (Str×V))
 /-- a bound method, f of x -/
 |met (f x:Addr)
 /-- a range object lo, lo + 1, .. below hi -/
 |rng (lo hi:Int)
 /-- a thing that is known to the object (the script; a dict while a loop walks it): read, never written while it is so -/
 |frz (o:Obj) (u:HO)
 /-- a code object's table -/
 |tbl (ps:Array Value)
 /-- any other thing, by what is true of its one object (a def of one's own: SetO a S n := HO.ext fun h => ..) -/
 |ext (φ:Heap->Prop)
abbrev Hp:=Addr->Option HO
def upd(H:Hp)(a:Addr)(o:HO):Hp:=fun b=>if b=a then some o else H b
theorem g9{H:Hp}{a:Addr}{o:HO}:upd H a o a=some o:=by unfold upd;rw[if_pos rfl]
theorem l8{H:Hp}{a b:Addr}{o:HO}(h:b≠a):upd H a o b=H b:=by unfold upd;rw[if_neg h]
theorem b7g{H:Hp}{a b:Addr}{o u:HO}(h:H a=some o)(h':H b=some u)(d:o≠u):a≠b:=by
 intro e;subst e;rw[h] at h';exact d (Option.some.inj h')
theorem u0{H:Hp}{a b:Addr}{o:HO}(h:H a=some o)(h':H b=none):a≠b:=by
 intro e;subst e;rw[h] at h';cases h'
def a0G(h:Heap)(a:Addr)(items:Array Value):Prop:=∃o,h.get? a=some o/\o.cls=.type "tuple"/\o.dict=none/\∃n,o.data=.seq items n
theorem a0G.tup{h:Heap}{a:Addr}{items:Array Value}(x:a0G h a items):IsTup h a items:=let⟨o,e,c,_,n⟩:=x;⟨o,e,c,n⟩
theorem a0G.new(h:Heap)(items:Array Value):a0G (h.push {cls:=.type "tuple",data:=.seq items}) h.objs.size items:=⟨_,Heap.get?_push_size _ rfl,rfl,rfl,_,rfl⟩
section
variable(P:Program)(w:World)
def x3(H:Hp)(h:Heap)(a:Addr):HO->Prop
 |.lst xs=>xs.length<=sizeLine/\∃(its:List Value) (n:Nat),n8 xs its/\h.get? a=some {cls:=.type "list",data:=.seq its.toArray n}
 |.tup xs=>xs.length<=sizeLine/\∃its:List Value,n8 xs its/\a0G h a its.toArray
 |.dK kvs=>kvs.length<=sizeLine/\(a==sysModules)=false/\∃vs,KV kvs vs/\h.DictOf (u5 P w) a vs
 |.dT kvs=>kvs.length<=sizeLine/\(a==sysModules)=false/\∃xs:List (List Key×Addr×Value),
  Paired (fun(p:List Key×V) (q:List Key×Addr×Value)=>p.1=q.1/\H q.2.1=some (.tup (p.1.map kV))/\n4 p.2 q.2.2) kvs xs∧
  ∃o es ep,h.get? a=some o/\o.ExactDict/\o.data=.dict es ep/\es.toList=xs.map (entryOfKey (tupleKind (u5 P w)))/\(xs.map (·.1)).Nodup
 |.set S n=>h.SetOf (intKind P w) a S n
 |.ins C dx fs=>H dx=some (.own a)/\fs.length<=1000/\dx≠a/\h.get? a=some (PySem.W.instObj C dx)∧
  ∃mA,h.Ns1 dx mA/\(∀f,a0h (fs.lookup f) (mA f))/\PySem.Within mA (fs.map (·.1))
 |.own _=>∃o,h.get? a=some o
 |.xd fs=>∃mA,h.Ns1 a mA/\∀f,a0h (fs.lookup f) (mA f)
 |.rng lo hi=>∃t u v,h.get? a=some {cls:=.type "range",data:=.fields #[.int lo t,.int hi u,.int 1 v]}
 |.frz o u=>h.get? a=some o/\x3 H h a u
 |.tbl ps=>h.get? a=some {cls:=.none,data:=.fields ps}
 |.met f x=>h.get? a=some (PySem.W.methodObj (.ref f) (.ref x))
 |.ext φ=>φ h/\(∃o,h.get? a=some o)/\∀h1 h2:Heap,φ h1->(∀o,h1.get? a=some o->h2.get? a=some o)->φ h2
def HOk(H:Hp)(h:Heap):Prop:=∀a o,H a=some o->x3 P w H h a o
end
section
variable{P:Program}{w:World}{H H':Hp}{h h':Heap}{a:Addr}{o:HO}
theorem x3.lt(x:x3 P w H h a o):a<h.objs.size:=by
 cases o with
 |lst xs=>obtain⟨_,_,_,_,e⟩:=x;exact Heap.lt_size e
 |tup xs=>obtain⟨_,_,_,p⟩:=x;exact p.tup.lt
 |dK kvs=>obtain⟨_,_,_,_,o,_,_,e,_⟩:=x;exact Heap.lt_size e
 |dT kvs=>obtain⟨_,_,_,_,o,_,_,e,_⟩:=x;exact Heap.lt_size e
 |set S n=>obtain⟨o,_,_,_,e,_⟩:=x;exact Heap.lt_size e
 |ins C dx fs=>obtain⟨_,_,_,e,_⟩:=x;exact Heap.lt_size e
 |own y=>obtain⟨_,e⟩:=x;exact Heap.lt_size e
 |xd fs=>obtain⟨_,⟨_,_,_,e,_⟩,_⟩:=x;exact Heap.lt_size e
 |rng lo hi=>obtain⟨_,_,_,e⟩:=x;exact Heap.lt_size e
 |frz ob u=>obtain⟨e,_⟩:=x;exact Heap.lt_size e
 |tbl ps=>exact Heap.lt_size (show h.get? a=some _ from x)
 |met f y=>exact Heap.lt_size (show h.get? a=some _ from x)
 |ext φ=>obtain⟨_,⟨_,e⟩,_⟩:=x;exact Heap.lt_size e
theorem Paired.mapP{α β:Type}{F G:α->β->Prop}:∀{l₁:List α} {l₂:List β},Paired F l₁ l₂->(∀a b,F a b->G a b)->Paired G l₁ l₂
 |_,_,.nil,_=>.nil
 |_,_,.cons r t,f=>.cons (f _ _ r) (Paired.mapP t f)
theorem x3.stay(x:x3 P w H h a o)(k:∀b u,(b=a∨H b=some (.own a))->h.get? b=some u->h'.get? b=some u)
 (ho:∀b,H b=some (.own a)->H' b=some (.own a)) (ht:∀b xs,H b=some (.tup xs)->H' b=some (.tup xs)):x3 P w H' h' a o:=by
 induction o with
 |lst xs=>obtain⟨z,its,n,r,e⟩:=x;exact⟨z,its,n,r,k _ _ (.inl rfl) e⟩
 |tup xs=>obtain⟨z,its,r,ob,e,c⟩:=x;exact⟨z,its,r,ob,k _ _ (.inl rfl) e,c⟩
 |dK kvs=>obtain⟨z,y,vs,r,ob,es,ep,e,c⟩:=x;exact⟨z,y,vs,r,ob,es,ep,k _ _ (.inl rfl) e,c⟩
 |dT kvs=>
  obtain⟨z,y,xs,r,ob,es,ep,e,c⟩:=x;exact⟨z,y,xs,Paired.mapP r fun p q z=>⟨z.1,ht _ _ z.2.1,z.2.2⟩,ob,es,ep,k _ _ (.inl rfl) e,c⟩
 |set S n=>obtain⟨ob,es,ep,t,e,c⟩:=x;exact⟨ob,es,ep,t,k _ _ (.inl rfl) e,c⟩
 |ins C dx fs=>
  obtain⟨d,z,ne,e,mA,⟨od,es,ep,e2,c⟩,r⟩:=x;exact⟨ho _ d,z,ne,k _ _ (.inl rfl) e,mA,⟨od,es,ep,k _ _ (.inr d) e2,c⟩,r⟩
 |own y=>obtain⟨ob,e⟩:=x;exact⟨ob,k _ _ (.inl rfl) e⟩
 |xd fs=>obtain⟨mA,⟨od,es,ep,e,c⟩,r⟩:=x;exact⟨mA,⟨od,es,ep,k _ _ (.inl rfl) e,c⟩,r⟩
 |rng lo hi=>obtain⟨t,u,v,e⟩:=x;exact⟨t,u,v,k _ _ (.inl rfl) e⟩
 |frz ob u ih=>obtain⟨e,q⟩:=x;exact⟨k _ _ (.inl rfl) e,ih q⟩
 |tbl ps=>
  have e:h.get? a=some {cls:=.none,data:=.fields ps}:=x
  show h'.get? a=some {cls:=.none,data:=.fields ps}
  exact k a _ (.inl rfl) e
 |met f y=>
  have e:h.get? a=some (PySem.W.methodObj (.ref f) (.ref y)):=x
  show h'.get? a=some (PySem.W.methodObj (.ref f) (.ref y))
  exact k a _ (.inl rfl) e
 |ext φ=>obtain⟨p,⟨o,e⟩,st⟩:=x;exact⟨st _ _ p fun o q=>k _ _ (.inl rfl) q,⟨o,k _ _ (.inl rfl) e⟩,st⟩
theorem HOk.lt(x:HOk P w H h)(e:H a=some o):a<h.objs.size:=(x a o e).lt
theorem HOk.fresh(x:HOk P w H h)(e:h.objs.size<=a):H a=none:=by
 cases q:H a with
 |none=>rfl
 |some u=>exact absurd (Nat.lt_of_lt_of_le (x.lt q) e) (Nat.lt_irrefl _)
theorem HOk.kept(x:HOk P w H h)(k:∀b u,h.get? b=some u->h'.get? b=some u):HOk P w H h':=fun a o e=>
 (x a o e).stay (fun b u _ q=>k b u q) (fun _ q=>q) fun _ _ q=>q
theorem HOk.laid(x:HOk P w H h)(k:∀b u,h.get? b=some u->h'.get? b=some u)(hp:h.objs.size<=a)(new:x3 P w (upd H a o) h' a o):HOk P w (upd H a o) h':=fun b u e=>by
 have hn:=x.fresh hp
 by_cases hb:b=a
 · subst hb;rw[g9] at e;cases e;exact new
 · rw[l8 hb] at e;exact(x b u e).stay (fun c v _ q=>k c v q) (fun c q=>by rw[l8 (u0 q hn)];exact q) fun c xs q=>by rw[l8 (u0 q hn)];exact q
end
def Rd(H:Hp)(a:Addr)(u:HO):Prop:=H a=some u∨∃o,H a=some (.frz o u)
theorem Rd.ok{P:Program}{w:World}{H:Hp}{h:Heap}{a:Addr}{u:HO}(r:Rd H a u)(x:HOk P w H h):x3 P w H h a u:=by
 rcases r with r|⟨o,r⟩
 · exact x a u r
 · obtain⟨_,q⟩:=x a _ r;exact q
def Mut:Option HO->Prop
 |some (.lst _)=>True
 |some (.dK _)=>True
 |some (.dT _)=>True
 |some (.set _ _)=>True
 |some (.ins _ _ _)=>True
 |some (.ext _)=>True
 |_=>False
section
variable{P:Program}{w:World}{H:Hp}{h h':Heap}{x e:Addr}{o':HO}
theorem HOk.write(ok:HOk P w H h)(mu:Mut (H x))(he:e=x∨H e=some (.own x))(k:∀b u,b≠e->h.get? b=some u->h'.get? b=some u)(heo:∃u,h'.get? e=some u)
 (new:x3 P w (upd H x o') h' x o'):HOk P w (upd H x o') h':=fun b u q=>by
 have nown:∀c y,H c=some (.own y)->c≠x:=fun c y r z=>by subst z;rw[r] at mu;exact mu
 have ntup:∀c xs,H c=some (.tup xs)->c≠x:=fun c xs r z=>by subst z;rw[r] at mu;exact mu
 by_cases hb:b=x
 · subst hb;rw[g9] at q;cases q;exact new
 · rw [l8 hb] at q
   by_cases hbe:b=e
   · have q':H b=some (.own x):=by
      rcases he with z|z
      · exact absurd (hbe.trans z) hb
      · rw[hbe];exact z
     rw[q] at q';cases q'
     obtain⟨v,hv⟩:=heo;exact⟨v,by rw[hbe];exact hv⟩
   · refine(ok b u q).stay (fun c v hc r=>k c v ?_ r) (fun c r=>by rw[l8 (nown c b r)];exact r) fun c xs r=>by rw[l8 (ntup c xs r)];exact r
     rcases hc with rfl|hc
     · exact hbe
     · rintro rfl
       rcases he with z|z
       · exact nown c b hc z
       · rw[hc] at z;cases z;exact hb rfl
end
structure Un(fs ex:List Addr)(H H':Hp)(h h':Heap):Prop where
 keep:∀b o,h.get? b=some o->H b=none->b∉fs->b∉ex->h'.get? b=some o
 slot:∀b o,h.get? b=some o->H b=none->b∈fs->b∉ex->∃sl,h'.get? b=some {o with slots:=sl}
 free:∀b o,h.get? b=some o->H b=none->b∉ex->H' b=none
 there:∀b o,h.get? b=some o->b∉ex->∃o',h'.get? b=some o'
 tups:∀b xs,H b=some (.tup xs)->H' b=some (.tup xs)
 frzs:∀b o u,H b=some (.frz o u)->H' b=some (.frz o u)
 tbls:∀b ps,H b=some (.tbl ps)->∃more,H' b=some (.tbl (ps++more))
section
variable{fs fs' ex ex':List Addr}{H H1 H2:Hp}{h h1 h2 h':Heap}{a x e:Addr}{o:HO}
theorem Un.any(u:Un fs ex H H1 h h1){b:Addr}{ob:Obj}(q:h.get? b=some ob)(n:H b=none)(hx:b∉ex):∃sl,h1.get? b=some {ob with slots:=sl}:=by
 by_cases hb:b∈fs
 · exact u.slot b ob q n hb hx
 · exact⟨ob.slots,u.keep b ob q n hb hx⟩
theorem Un.kept(k:∀b u,h.get? b=some u->h'.get? b=some u):Un fs ex H H h h':=
 ⟨fun b ob q _ _ _=>k b ob q,fun b ob q _ _ _=>⟨ob.slots,k b ob q⟩,fun _ _ _ n _=>n,fun b ob q _=>⟨ob,k b ob q⟩,fun _ _ q=>q,fun _ _ _ q=>q,fun _ ps q=>⟨#[],by rw[q];simp⟩⟩
theorem Un.refl:Un fs ex H H h h:=Un.kept fun _ _ q=>q
theorem Un.laid(k:∀b u,h.get? b=some u->h'.get? b=some u)(hp:h.objs.size<=a)(hn:H a=none):Un fs ex H (upd H a o) h h' where
 keep:=fun b u q _ _ _=>k b u q
 slot:=fun b u q _ _ _=>⟨u.slots,k b u q⟩
 free:=fun b u q n _=>by rw[l8 (Nat.ne_of_lt (Nat.lt_of_lt_of_le (Heap.lt_size q) hp))];exact n
 there:=fun b u q _=>⟨u,k b u q⟩
 tups:=fun b xs q=>by rw[l8 (u0 q hn)];exact q
 frzs:=fun b u xs q=>by rw[l8 (u0 q hn)];exact q
 tbls:=fun b ps q=>⟨#[],by rw[l8 (u0 q hn),q];simp⟩
theorem Un.write(mu:Mut (H x))(he:e=x∨H e=some (.own x))(k:∀b u,b≠e->h.get? b=some u->h'.get? b=some u)(heo:∃u,h'.get? e=some u):Un fs ex H (upd H x o) h h':=by
 have hx:∀b,H b=none->b≠x:=fun b n z=>by subst z;rw[n] at mu;exact mu
 have hb:∀b,H b=none->b≠e:=fun b n z=>by
  subst z
  rcases he with r|r
  · exact hx b n r
  · rw[n] at r;cases r
 have hm:∀b u,H b=some u->¬Mut (some u)->b≠x:=fun b u q nm z=>by subst z;rw[q] at mu;exact nm mu
 refine⟨fun b u q n _ _=>k b u (hb b n) q,fun b u q n _ _=>⟨u.slots,k b u (hb b n) q⟩,fun b u q n _=>by rw[l8 (hx b n)];exact n,fun b u q _=>?_,
  fun b xs q=>by rw[l8 (hm b _ q fun z=>z)];exact q,fun b u xs q=>by rw[l8 (hm b _ q fun z=>z)];exact q,fun b ps q=>⟨#[],by rw[l8 (hm b _ q fun z=>z),q];simp⟩⟩
 by_cases hbe:b=e
 · subst hbe;exact heo
 · exact⟨u,k b u hbe q⟩
end
def trk(h:Heap)(H:Hp):List Addr:=(List.range h.objs.size).filter fun a=>(H a).isSome
def a4o(h:Heap)(H:Hp):Heap:=PySem.W.hideAll h (trk h H)
theorem a8h(h:Heap)(H:Hp):(a4o h H).objs.size=h.objs.size:=PySem.W.hideAll_size _ _
theorem a9U{h:Heap}{H:Hp}{b:Addr}{o:Obj}(e:h.get? b=some o)(n:H b=none):(a4o h H).get? b=some o:=
 PySem.W.hideAll_get _ e fun hm=>by
  have q:(H b).isSome=true:=(List.mem_filter.mp hm).2
  rw[n] at q;simp at q
theorem b2o{h:Heap}{H:Hp}{b:Addr}{o:Obj}(e:(a4o h H).get? b=some o):h.get? b=some o/\H b=none:=by
 have e':h.get? b=some o:=PySem.W.of_hideAll (trk h H) e
 refine⟨e',?_⟩
 cases q:H b with
 |none=>rfl
 |some x=>
  have hm:b∈trk h H:=List.mem_filter.mpr ⟨List.mem_range.mpr (Heap.lt_size e'),by simp[q]⟩
  have z:(a4o h H).get? b=none:=PySem.W.hideAll_none (trk h H) hm
  rw[z] at e;cases e
def b3q(g h:Heap)(L:Addr):List (Addr×Obj):=(List.range h.objs.size).filterMap fun a=>if a=L∨(g.get? a).isSome=true then none else(h.get? a).map fun o=>(a,o)
def d9(g h:Heap)(L d:Addr):List (Addr×Obj):=(b3q g h L).filter fun p=>decide (p.1≠d)
end L2
namespace L2
open PySem PySem.Spec PyProof.Rows
structure Mod(K:PySem.W.Frag)(mg:Str->Option Value)(base:Heap):Prop where
 kin:K.In base
 glob:base.Ns mainGlobals mg
 blt:∃mb,base.Ns builtinsNs mb/\∀x:Str,x≠"__name__"->mb x=bootBuiltins x
 nolimit:base.NoLimit
structure Cx where
 prog:Program
 w:World
 K:PySem.W.Frag
 mg:Str->Option Value
 base:Heap
 A:Around
 N:List Str
 s₀:Shared
 H₀:Hp
 env:Env
 outer:List Env
 stack:List Env
 ex:List Addr
 fn:Str->Bool
 calm:Bool
 pn:List (Addr×Obj)
 xe:Value->Shared->Prop
def frs(l:List Env):List Addr:=l.filterMap (·.frame)
abbrev Cx.fs(X:Cx):List Addr:=frs X.outer
def Vis(sc:Scope)(x:Str):Prop:=sc.names.lookup x=some .local∨sc.names.lookup x=some .cell∨sc.names.lookup x=some .free
def Loc(sc:Scope)(x:Str):Prop:=sc.names.lookup x=some .local∨sc.names.lookup x=some .cell
def b9W(env:Env)(h:Heap)(m:Str->Option Value)(x:Str)(u:Value):Prop:=
 (env.kindOf x=some .local/\m x=some u)∨((env.kindOf x=some .cell∨env.kindOf x=some .free)/\∃c,env.cells.lookup x=some c/\h.IsCell c (some u))
structure Cx.Ok(X:Cx):Prop where
 mod:Mod X.K X.mg X.base
 kind:X.env.scope.kind=.function
 glob:X.env.globals=mainGlobals
 blt:X.env.builtins=builtinsNs
 above:X.s₀.heap.objs.size<=X.env.locals
 inj:∀x y c,X.env.cells.lookup x=some c->X.env.cells.lookup y=some c->x=y
 has:∀x,(X.env.kindOf x=some .cell∨X.env.kindOf x=some .free)->∃c,X.env.cells.lookup x=some c
 cab:∀x c,X.fn x=true->X.env.cells.lookup x=some c->X.s₀.heap.objs.size<=c
 hd:X.calm=true->X.A.handled=none
 frames:X.A.frames=some X.stack
 stk:X.stack=X.outer∨(X.stack=X.env::X.outer/\X.env.frame=some X.env.locals)
 exf:∀b∈X.ex,b≠X.env.locals/\∀x c,X.env.cells.lookup x=some c->c≠b
 bs:∀b o,X.base.get? b=some o->X.s₀.heap.get? b=some o/\X.H₀ b=none
 bsz:X.base.objs.size<=X.s₀.heap.objs.size
 noex:∀b o,X.base.get? b=some o->b∉X.ex
 exfs:∀b∈X.ex,b∉X.fs
 funs:X.s₀.heap.FunFrames X.base X.outer
 frf:∀b∈X.fs,X.H₀ b=none
structure Inv(X:Cx)(pins:List (Addr×Obj))(σ:List (Option V))(H:Hp)(s:Shared):Prop where
 ok:X.Ok
 os:s.os=X.s₀.os
 bare:AllBare s.gens
 base:Un X.fs X.ex X.H₀ H X.s₀.heap s.heap
 loc:∃m,s.heap.Ns X.env.locals m/\∀(i:Nat) (x:Str) (v:V),X.N[i]? =some x->σ[i]? =some (some v)->Vis X.env.scope x->∃u,n4 v u/\b9W X.env s.heap m x u
 cell:∀x c,X.env.cells.lookup x=some c->∃v,s.heap.IsCell c v
 free:H X.env.locals=none
 freeC:∀x c,X.env.cells.lookup x=some c->H c=none
 pin:∀p∈X.pn++pins,s.heap.get? p.1=some p.2/\H p.1=none/\p.1≠X.env.locals/\p.1∉X.fs/\∀v,p.2.data≠.cell v
 hok:HOk X.prog X.w H s.heap
 len:σ.length=X.N.length
section
variable{X:Cx}{pins:List (Addr×Obj)}{σ:List (Option V)}{H H':Hp}{s:Shared}{h':Heap}
theorem Cx.Ok.nofr(ok:X.Ok){b:Addr}{o:Obj}(e:X.base.get? b=some o):b∉X.fs:=fun hb=>by
 have:=(ok.funs.mem hb).1
 rw[e] at this;cases this
theorem Inv.bs(I:Inv X pins σ H s):∀b o,X.base.get? b=some o->s.heap.get? b=some o/\H b=none:=fun b o e=>
 ⟨I.base.keep b o (I.ok.bs b o e).1 (I.ok.bs b o e).2 (I.ok.nofr e) (I.ok.noex b o e),I.base.free b o (I.ok.bs b o e).1 (I.ok.bs b o e).2 (I.ok.noex b o e)⟩
theorem Inv.bk(I:Inv X pins σ H s):∀b o,X.base.get? b=some o->s.heap.get? b=some o:=fun b o e=>(I.bs b o e).1
theorem Inv.mod(I:Inv X pins σ H s):Mod X.K X.mg X.base:=I.ok.mod
theorem Inv.kIn(I:Inv X pins σ H s):X.K.In s.heap:=I.ok.mod.kin.keeps I.bk
theorem Inv.lt(I:Inv X pins σ H s):X.env.locals<s.heap.objs.size:=let⟨_,hn,_⟩:=I.loc;hn.lt
theorem Inv.sz(I:Inv X pins σ H s):X.s₀.heap.objs.size<=s.heap.objs.size:=Nat.le_trans I.ok.above (Nat.le_of_lt I.lt)
theorem Inv.nofs(I:Inv X pins σ H s){a:Addr}(h:s.heap.objs.size<=a):a∉X.fs:=fun hb=>by
 obtain⟨_,o,ho,_⟩:=I.ok.funs.mem hb;exact absurd (Nat.lt_of_lt_of_le (Heap.lt_size ho) (Nat.le_trans I.sz h)) (Nat.lt_irrefl _)
theorem Inv.cne(I:Inv X pins σ H s):∀x c,X.env.cells.lookup x=some c->c≠X.env.locals:=fun x c e z=>by
 obtain⟨v,o,ho,hd⟩:=I.cell x c e;obtain⟨m,⟨o',es,ep,ho',hd',_⟩,_⟩:=I.loc;rw[z,ho'] at ho;cases ho;rw[hd'] at hd;cases hd
theorem Inv.funs(I:Inv X pins σ H s):s.heap.FunFrames X.base X.outer:=by
 have all:∀(l:List Env),(∀b∈frs l,b∈X.fs)->X.s₀.heap.FunFrames X.base l->s.heap.FunFrames X.base l:=by
  intro l
  induction l with
  |nil=>intro _ _;trivial
  |cons env r ih=>
   intro hs hl;obtain⟨hk,⟨L,o,hf,hn,ho,hd⟩,hr⟩:=hl
   have hL:L∈X.fs:=hs L (by unfold frs;rw[List.filterMap_cons,hf];exact List.mem_cons_self)
   obtain⟨sl,e⟩:=I.base.slot L o ho (I.ok.frf L hL) hL fun z=>I.ok.exfs L z hL
   exact⟨hk,⟨L,_,hf,hn,e,hd⟩,ih (fun b hb=>hs b (by unfold frs;rw[List.filterMap_cons,hf];exact List.mem_cons_of_mem _ hb)) hr⟩
 exact all X.outer (fun _ hb=>hb) I.ok.funs
theorem Inv.stack(I:Inv X pins σ H s):s.heap.FunFrames X.base X.stack:=by
 rcases I.ok.stk with e|⟨e,hf⟩
 · rw[e];exact I.funs
 · rw[e];obtain⟨m,hn,_⟩:=I.loc;refine .cons (by rw[I.ok.kind];decide) hf hn ?_ I.funs
   exact Heap.get?_none_of_le (Nat.le_trans I.ok.bsz I.ok.above)
theorem Inv.stkSub(I:Inv X pins σ H s):∀b∈frs X.stack,b∈X.env.locals::X.fs:=fun b hb=>by
 rcases I.ok.stk with e|⟨e,hf⟩
 · rw[e] at hb;exact List.mem_cons_of_mem _ hb
 · rw[e] at hb;unfold frs at hb;rw[List.filterMap_cons,hf] at hb;exact hb
theorem Inv.stkFree(I:Inv X pins σ H s):∀b∈frs X.stack,H b=none:=fun b hb=>by
 rcases List.mem_cons.mp (I.stkSub b hb) with e|hb
 · rw[e];exact I.free
 · obtain⟨_,o,ho,_⟩:=I.ok.funs.mem hb;exact I.base.free b o ho (I.ok.frf b hb) fun z=>I.ok.exfs b z hb
theorem Inv.step{g':Array GenState}{t':Nat}{d':Drawn}{ch:List Addr}(I:Inv X pins σ H s)
 (hch:∀b∈ch,(b∈X.ex∨X.s₀.heap.objs.size<=b)/\b≠X.env.locals/\(∀x c,X.env.cells.lookup x=some c->c≠b)/\∀p∈X.pn++pins,p.1≠b)
 (keep:∀b o,b≠X.env.locals->b∉X.fs->b∉ch->s.heap.get? b=some o->H b=none->h'.get? b=some o)
 (slot:∀b o,b≠X.env.locals->b∈X.fs->b∉ch->s.heap.get? b=some o->H b=none->∃sl,h'.get? b=some {o with slots:=sl}) (free:∀b o,b∉ch->s.heap.get? b=some o->H b=none->H' b=none)
 (there:∀b o,b∉ch->s.heap.get? b=some o->∃o',h'.get? b=some o')
 (tups:∀b xs,H b=some (.tup xs)->H' b=some (.tup xs)) (frzs:∀b o u,H b=some (.frz o u)->H' b=some (.frz o u)) (tbls:∀b ps,H b=some (.tbl ps)->∃more,H' b=some (.tbl (ps++more)))
 (ns:∀m,s.heap.Ns X.env.locals m->h'.Ns X.env.locals m) (hok:HOk X.prog X.w H' h') (hg:AllBare g'):
 Inv X pins σ H' {s with heap:=h',gens:=g',drawn:=d',toks:=t'}:=by
 have neL:∀b o,X.s₀.heap.get? b=some o->b≠X.env.locals:=fun b o e=>Nat.ne_of_lt (Nat.lt_of_lt_of_le (Heap.lt_size e) I.ok.above)
 have neC:∀b o,X.s₀.heap.get? b=some o->b∉X.ex->b∉ch:=fun b o e hx hb=>by
  rcases(hch b hb).1 with z|z
  · exact hx z
  · exact absurd (Nat.lt_of_lt_of_le (Heap.lt_size e) z) (Nat.lt_irrefl _)
 have cellK:∀x c,X.env.cells.lookup x=some c->∀v,s.heap.IsCell c v->h'.IsCell c v:=fun x c e v ⟨o,ho,hd⟩=>by
  have nch:c∉ch:=fun z=>(hch c z).2.2.1 x c e rfl
  by_cases hc:c∈X.fs
  · obtain⟨sl,q⟩:=slot c o (I.cne x c e) hc nch ho (I.freeC x c e);exact⟨_,q,hd⟩
  · exact⟨o,keep c o (I.cne x c e) hc nch ho (I.freeC x c e),hd⟩
 refine⟨I.ok,I.os,hg,⟨fun b o e n hb hx=>?_,fun b o e n hb hx=>?_,fun b o e n hx=>?_,fun b o e hx=>?_,fun b xs e=>tups b xs (I.base.tups b xs e),fun b o xs e=>frzs b o xs (I.base.frzs b o xs e),fun b ps e=>?_⟩,?_,fun x c e=>?_,?_,fun x c e=>?_,fun p hp=>?_,hok,I.len⟩
 · exact keep b o (neL b o e) hb (neC b o e hx) (I.base.keep b o e n hb hx) (I.base.free b o e n hx)
 · obtain⟨sl,e1⟩:=I.base.slot b o e n hb hx;obtain⟨sl',e2⟩:=slot b _ (neL b o e) hb (neC b o e hx) e1 (I.base.free b o e n hx);exact⟨sl',e2⟩
 · obtain⟨o',e1⟩:=I.base.there b o e hx;exact free b o' (neC b o e hx) e1 (I.base.free b o e n hx)
 · obtain⟨o',e1⟩:=I.base.there b o e hx;exact there b o' (neC b o e hx) e1
 · obtain⟨m1,e1⟩:=I.base.tbls b ps e;obtain⟨m2,e2⟩:=tbls b _ e1;exact⟨m1++m2,by rw[e2,Array.append_assoc]⟩
 · obtain⟨m,hn,hl⟩:=I.loc;refine⟨m,ns m hn,fun i x v e1 e2 e3=>?_⟩
   obtain⟨u,r,l⟩:=hl i x v e1 e2 e3;refine⟨u,r,?_⟩
   rcases l with l|⟨k,c,e,z⟩
   · exact .inl l
   · exact .inr ⟨k,c,e,cellK x c e _ z⟩
 · obtain⟨v,z⟩:=I.cell x c e;exact⟨v,cellK x c e v z⟩
 · obtain⟨m,⟨o,_,_,ho,_⟩,_⟩:=I.loc;exact free _ o (fun z=>(hch _ z).2.1 rfl) ho I.free
 · obtain⟨v,o,ho,hd⟩:=I.cell x c e;exact free c o (fun z=>(hch c z).2.2.1 x c e rfl) ho (I.freeC x c e)
 · obtain⟨e,n,ne,nf,d⟩:=I.pin p hp
   have nch:p.1∉ch:=fun z=>(hch p.1 z).2.2.2 p hp rfl
   exact⟨keep p.1 p.2 ne nf nch e n,free p.1 p.2 nch e n,ne,nf,d⟩
theorem Inv.un{t':Nat}(I:Inv X pins σ H s)(u:Un X.fs [] H H' s.heap h')(hok:HOk X.prog X.w H' h'):Inv X pins σ H' {s with heap:=h',toks:=t'}:=by
 obtain⟨m,⟨o,es,ep,ho,r⟩,_⟩:=id I.loc;obtain⟨sl,hL⟩:=u.any ho I.free (by simp)
 exact I.step (g':=s.gens) (d':=s.drawn) (ch:=[]) (fun _ z=>nomatch z) (fun b o _ hb _ e n=>u.keep b o e n hb (by simp)) (fun b o _ hb _ e n=>u.slot b o e n hb (by simp)) (fun b o _ e n=>u.free b o e n (by simp)) (fun b o _ e=>u.there b o e (by simp)) u.tups u.frzs u.tbls (fun m' hm=>by
  obtain⟨o',es',ep',ho',r'⟩:=hm;rw[ho] at ho';cases ho'
  exact⟨_,es',ep',hL,r'⟩) hok I.bare
theorem Inv.call{g':Array GenState}{t':Nat}{d':Drawn}{ch:List Addr}(I:Inv X pins σ H s)(u:Un (frs X.stack) ch H H' s.heap h')(hok:HOk X.prog X.w H' h')(hg:AllBare g')
 (hch:∀b∈ch,(b∈X.ex∨X.s₀.heap.objs.size<=b)/\b≠X.env.locals/\(∀x c,X.env.cells.lookup x=some c->c≠b)/\∀p∈X.pn++pins,p.1≠b):
 Inv X pins σ H' {s with heap:=h',gens:=g',drawn:=d',toks:=t'}:=by
 obtain⟨m,⟨o,es,ep,ho,r⟩,_⟩:=id I.loc;obtain⟨sl,hL⟩:=u.any ho I.free fun z=>(hch _ z).2.1 rfl
 exact I.step (ch:=ch) hch (fun b o hL hb hc e n=>u.keep b o e n (fun z=>(List.mem_cons.mp (I.stkSub b z)).elim hL hb) hc) (fun b o _ _ hc e n=>u.any e n hc) (fun b o hc e n=>u.free b o e n hc) (fun b o hc e=>u.there b o e hc) u.tups u.frzs u.tbls (fun m' hm=>by
  obtain⟨o',es',ep',ho',r'⟩:=hm;rw[ho] at ho';cases ho'
  exact⟨_,es',ep',hL,r'⟩) hok hg
theorem Inv.turned{t':Nat}{it:Addr}(I:Inv X pins σ H s)(k:∀b o,b≠it->s.heap.get? b=some o->h'.get? b=some o)(hn:H it=none)(hL:it≠X.env.locals)
 (h1:it∈X.ex∨X.s₀.heap.objs.size<=it) (h2:∀x c,X.env.cells.lookup x=some c->c≠it) (h3:∀p∈X.pn++pins,p.1≠it):Inv X pins σ H {s with heap:=h',toks:=t'}:=by
 have nit:∀b u,H b=some u->b≠it:=fun b u e z=>by rw[z,hn] at e;cases e
 refine I.step (g':=s.gens) (d':=s.drawn) (ch:=[it]) (fun b hb=>?_) (fun b o _ _ hc e _=>k b o (fun z=>hc (by simp[z])) e) (fun b o _ _ hc e _=>⟨o.slots,k b o (fun z=>hc (by simp[z])) e⟩) (fun _ _ _ _ n=>n)
  (fun b o hc e=>⟨o,k b o (fun z=>hc (by simp[z])) e⟩) (fun _ _ e=>e) (fun _ _ _ e=>e) (fun b ps e=>⟨#[],by rw[e];simp⟩) (fun m hm=>?_) (fun b u e=>?_) I.bare
 · have e:b=it:=by simpa using hb
   subst e;exact⟨h1,hL,h2,h3⟩
 · obtain⟨o,es,ep,ho,r⟩:=hm;exact⟨o,es,ep,k _ o (Ne.symm hL) ho,r⟩
 · refine(I.hok b u e).stay (fun c v hc q=>k c v ?_ q) (fun _ q=>q) fun _ _ q=>q
   rcases hc with z|z
   · rw[z];exact nit b u e
   · exact nit c _ z
theorem Inv.tok(I:Inv X pins σ H s)(t:Nat):Inv X pins σ H {s with toks:=t}:=I.un (h':=s.heap) (t':=t) Un.refl I.hok
theorem Inv.kept{t':Nat}(I:Inv X pins σ H s)(k:∀b u,s.heap.get? b=some u->h'.get? b=some u):Inv X pins σ H {s with heap:=h',toks:=t'}:=I.un (Un.kept k) (I.hok.kept k)
theorem Inv.laid{a:Addr}{o:HO}{t':Nat}(I:Inv X pins σ H s)(k:∀b u,s.heap.get? b=some u->h'.get? b=some u)(hp:s.heap.objs.size<=a)(new:x3 X.prog X.w (upd H a o) h' a o):
 Inv X pins σ (upd H a o) {s with heap:=h',toks:=t'}:=I.un (Un.laid k hp (I.hok.fresh hp)) (I.hok.laid k hp new)
theorem Inv.write{x e:Addr}{o:HO}{t':Nat}(I:Inv X pins σ H s)(mu:Mut (H x))(he:e=x∨H e=some (.own x))(k:∀b u,b≠e->s.heap.get? b=some u->h'.get? b=some u)(heo:∃u,h'.get? e=some u)
 (new:x3 X.prog X.w (upd H x o) h' x o):Inv X pins σ (upd H x o) {s with heap:=h',toks:=t'}:=I.un (Un.write mu he k heo) (I.hok.write mu he k heo new)
theorem Inv.weak{σ':List (Option V)}(I:Inv X pins σ H s)(hl:σ'.length=σ.length)(w:∀(i:Nat) v,σ'[i]? =some (some v)->σ[i]? =some (some v)):Inv X pins σ' H s:=
 ⟨I.ok,I.os,I.bare,I.base,let⟨m,hn,hl'⟩:=I.loc;⟨m,hn,fun i x v e1 e2 e3=>hl' i x v e1 (w i v e2) e3⟩,I.cell,I.free,I.freeC,I.pin,I.hok,hl.trans I.len⟩
theorem Inv.pins_of{pins':List (Addr×Obj)}(I:Inv X pins σ H s)(h:∀p∈pins',s.heap.get? p.1=some p.2/\H p.1=none/\p.1≠X.env.locals/\p.1∉X.fs/\∀v,p.2.data≠.cell v):Inv X pins' σ H s:=
 ⟨I.ok,I.os,I.bare,I.base,I.loc,I.cell,I.free,I.freeC,fun p hp=>(List.mem_append.mp hp).elim (fun z=>I.pin p (List.mem_append_left _ z)) (h p),I.hok,I.len⟩
theorem a5k{N:List Str}(hN:N.Nodup){i j:Nat}{x:Str}(a:N[i]? =some x)(b:N[j]? =some x):i=j:=by
 obtain⟨h1,e1⟩:=List.getElem?_eq_some_iff.mp a
 obtain⟨h2,e2⟩:=List.getElem?_eq_some_iff.mp b
 exact(List.getElem_inj hN).mp (e1.trans e2.symm)
theorem a2Y{M:Model}{A:Around}{E:Value->Shared->Prop}{i:Nat}{x:Str}{v:V}{u:Value}{Q:Unit->Shared->Prop}(I:Inv X pins σ H s)(hN:X.N.Nodup)(hi:X.N[i]? =some x)(hx:Loc X.env.scope x)(r:n4 v u)
 (h:∀s',Inv X pins (σ.set i (some v)) H s'->(∃a,Heap.SameBut a s.heap s'.heap/\(a=X.env.locals∨X.env.cells.lookup x=some a))->Q () s') (hf:X.fn x=true∨X.env.scope.names.lookup x=some .local:=by first|exact .inl rfl|exact .inr rfl|assumption):wpAny M A (storeName X.env x u) Q E s:=by
 obtain⟨m,hn,hl⟩:=id I.loc
 have hcls:(X.env.scope.kind==.class||(X.env.scope.kind==.module&&X.env.locals !=X.env.globals))=false:=by rw[I.ok.kind];rfl
 have hiσ:i<σ.length:=by rw[I.len];exact(List.getElem?_eq_some_iff.mp hi).1
 have cne:=I.cne
 have tracked:∀{a:Addr} {h':Heap},(∃o,s.heap.get? a=some o/\H a=none)->Heap.SameBut a s.heap h'->HOk X.prog X.w H h':=fun{a h'} ha hs b ob e=>by
  obtain⟨_,_,hfree⟩:=ha;refine(I.hok b ob e).stay (fun c w' hc q=>(hs.2 c ?_).trans q) (fun _ q=>q) fun _ _ q=>q
  rintro rfl
  rcases hc with rfl|hc
  · rw[hfree] at e;cases e
  · rw[hfree] at hc;cases hc
 rcases hx with hk|hk
 · refine wpAny_storeName_local hk hn (fun h' hn' hs=>?_) hcls
   obtain⟨oL,_,_,hoL,_⟩:=id hn;refine h _ ⟨I.ok,I.os,I.bare,⟨fun b o e n hb hx=>?_,fun b o e n hb hx=>?_,I.base.free,fun b o e hx=>?_,I.base.tups,I.base.frzs,I.base.tbls⟩,⟨_,hn',fun j y v' e1 e2 e3=>?_⟩,fun y c e=>?_,I.free,I.freeC,fun p hp=>?_,tracked ⟨oL,hoL,I.free⟩ hs,by simpa using I.len⟩ ⟨_,hs,.inl rfl⟩
   · exact(hs.2 b (Nat.ne_of_lt (Nat.lt_of_lt_of_le (Heap.lt_size e) I.ok.above))).trans (I.base.keep b o e n hb hx)
   · obtain⟨sl,e1⟩:=I.base.slot b o e n hb hx;exact⟨sl,(hs.2 b (Nat.ne_of_lt (Nat.lt_of_lt_of_le (Heap.lt_size e) I.ok.above))).trans e1⟩
   · obtain⟨o',e1⟩:=I.base.there b o e hx;exact⟨o',(hs.2 b (Nat.ne_of_lt (Nat.lt_of_lt_of_le (Heap.lt_size e) I.ok.above))).trans e1⟩
   · by_cases hj:j=i
     · subst hj;rw[hi] at e1;cases e1
       rw[List.getElem?_set_self hiσ] at e2
       cases e2;exact⟨u,r,.inl ⟨hk,by simp⟩⟩
     · rw[List.getElem?_set_ne (Ne.symm hj)] at e2
       obtain⟨u',r',q⟩:=hl j y v' e1 e2 e3;refine⟨u',r',?_⟩
       rcases q with⟨k,e⟩|⟨k,c,e,z⟩
       · refine .inl ⟨k,?_⟩
         have:y≠x:=fun e=>hj (a5k hN e1 (e▸hi))
         simp[this,e]
       · exact .inr ⟨k,c,e,z.sameBut hs (cne y c e)⟩
   · obtain⟨w',z⟩:=I.cell y c e;exact⟨w',z.sameBut hs (cne y c e)⟩
   · obtain⟨e,n,ne,nf,d⟩:=I.pin p hp;exact⟨(hs.2 p.1 ne).trans e,n,ne,nf,d⟩
 · have hfn:X.fn x=true:=by
    rcases hf with z|z
    · exact z
    · rw[z] at hk;cases hk
   obtain⟨c,hc⟩:=I.ok.has x (.inl hk);obtain⟨w',z⟩:=I.cell x c hc;refine wpAny_storeName_cell I.ok.kind hk hc z (fun h' hc' hs=>?_)
   obtain⟨oc,hoc,hocd⟩:=id z;refine h {s with heap:=h'} ⟨I.ok,I.os,I.bare,⟨fun b o e n hb hx=>?_,fun b o e n hb hx=>?_,I.base.free,fun b o e hx=>?_,I.base.tups,I.base.frzs,I.base.tbls⟩,⟨m,hn.sameBut hs (Ne.symm (cne x c hc)),fun j y v' e1 e2 e3=>?_⟩,fun y c' e=>?_,I.free,I.freeC,fun p hp=>?_,tracked ⟨oc,hoc,I.freeC x c hc⟩ hs,by simpa using I.len⟩ ⟨c,hs,.inr hc⟩
   · exact(hs.2 b (Nat.ne_of_lt (Nat.lt_of_lt_of_le (Heap.lt_size e) (I.ok.cab x c hfn hc)))).trans (I.base.keep b o e n hb hx)
   · obtain⟨sl,e1⟩:=I.base.slot b o e n hb hx;exact⟨sl,(hs.2 b (Nat.ne_of_lt (Nat.lt_of_lt_of_le (Heap.lt_size e) (I.ok.cab x c hfn hc)))).trans e1⟩
   · obtain⟨o',e1⟩:=I.base.there b o e hx;exact⟨o',(hs.2 b (Nat.ne_of_lt (Nat.lt_of_lt_of_le (Heap.lt_size e) (I.ok.cab x c hfn hc)))).trans e1⟩
   · by_cases hj:j=i
     · subst hj;rw[hi] at e1;cases e1
       rw[List.getElem?_set_self hiσ] at e2
       cases e2;exact⟨u,r,.inr ⟨.inl hk,c,hc,hc'⟩⟩
     · rw[List.getElem?_set_ne (Ne.symm hj)] at e2
       obtain⟨u',r',q⟩:=hl j y v' e1 e2 e3;refine⟨u',r',?_⟩
       rcases q with q|⟨k,c',e,z'⟩
       · exact .inl q
       · refine .inr ⟨k,c',e,z'.sameBut hs ?_⟩
         rintro rfl;exact hj (a5k hN e1 (I.ok.inj _ _ _ e hc▸hi))
   · by_cases hcc:c'=c
     · subst hcc;exact⟨_,hc'⟩
     · obtain⟨w2,z2⟩:=I.cell y c' e;exact⟨w2,z2.sameBut hs hcc⟩
   · obtain⟨e,n,ne,nf,d⟩:=I.pin p hp;refine⟨(hs.2 p.1 ?_).trans e,n,ne,nf,d⟩
     intro q;rw[q,hoc] at e
     have q':oc=p.2:=Option.some.inj e
     exact d w' (by rw[←q'];exact hocd)
theorem a4Z{M:Model}{A:Around}{E:Value->Shared->Prop}{i:Nat}{x:Str}{v:V}{u:Value}{Q:Unit->Shared->Prop}(I:Inv X pins σ H s)(hN:X.N.Nodup)(hi:X.N[i]? =some x)(hx:Loc X.env.scope x)(r:n4 v u)
 (h:∀s',Inv X pins (σ.set i (some v)) H s'->Q () s') (hf:X.fn x=true∨X.env.scope.names.lookup x=some .local:=by first|exact .inl rfl|exact .inr rfl|assumption):wpAny M A (storeName X.env x u) Q E s:=
 a2Y I hN hi hx r (fun s' I' _=>h s' I') hf
theorem Inv.call'{s':Shared}{ch:List Addr}(I:Inv X pins σ H s)(ho:s'.os=s.os)(u:Un (frs X.stack) ch H H' s.heap s'.heap)(hok:HOk X.prog X.w H' s'.heap)(hg:AllBare s'.gens)
 (hch:∀b∈ch,(b∈X.ex∨X.s₀.heap.objs.size<=b)/\b≠X.env.locals/\(∀x c,X.env.cells.lookup x=some c->c≠b)/\∀p∈X.pn++pins,p.1≠b):Inv X pins σ H' s':=by
 obtain⟨h',g',d',t',o'⟩:=s'
 have e:o'=s.os:=ho
 subst e;exact I.call (g':=g') (t':=t') (d':=d') u hok hg hch
end
abbrev XK:=Value->Option Addr->Hp->Prop
abbrev St:=List (Option V)
abbrev VK:=V->Hp->Prop
abbrev TE:=St->Hp->VK->Prop
abbrev TT:=St->Hp->(Bool->Hp->Prop)->Prop
abbrev TA:=St->Hp->(List V->Hp->Prop)->Prop
structure Ends where
 nx:St->Hp->Prop
 rt:VK
 bk:St->Hp->Prop:=fun _ _=>False
 ct:St->Hp->Prop:=fun _ _=>False
abbrev TS:=Ends->St->Hp->Prop
def EP(X:Cx)(pins:List (Addr×Obj))(σ:St)(Q:VK)(u:Value)(s':Shared):Prop:=∃v H',Inv X pins σ H' s'/\n4 v u/\Q v H'
def TP(X:Cx)(pins:List (Addr×Obj))(σ:St)(Q:Bool->Hp->Prop)(b:Bool)(s':Shared):Prop:=∃H',Inv X pins σ H' s'/\Q b H'
def AP(X:Cx)(pins:List (Addr×Obj))(σ:St)(Q:List V->Hp->Prop)(us:List Value)(s':Shared):Prop:=∃vs H',Inv X pins σ H' s'/\n8 vs us/\Q vs H'
def SP(X:Cx)(pins:List (Addr×Obj))(D:Ends)(f:Flow)(s':Shared):Prop:=
 match f with
 |.next=>∃σ' H',Inv X pins σ' H' s'/\D.nx σ' H'
 |.brk=>∃σ' H',Inv X pins σ' H' s'/\D.bk σ' H'
 |.cont=>∃σ' H',Inv X pins σ' H' s'/\D.ct σ' H'
 |.ret u=>∃v σ' H',Inv X pins σ' H' s'/\n4 v u/\D.rt v H'
def PE(X:Cx)(e:Expr)(t:TE):Prop:=
 ∀(pins:List (Addr×Obj)) (s:Shared) (σ:St) (H:Hp) (Q:VK),Inv X pins σ H s->t σ H Q->wpAny (model X.prog X.w) X.A (eval e X.env) (EP X pins σ Q) X.xe s
def PT(X:Cx)(e:Expr)(t:TT):Prop:=
 ∀(pins:List (Addr×Obj)) (s:Shared) (σ:St) (H:Hp) (Q:Bool->Hp->Prop),Inv X pins σ H s->t σ H Q->wpAny (model X.prog X.w) X.A (isTrue e X.env (eval e X.env)) (TP X pins σ Q) X.xe s
def PW(X:Cx)(e:Expr)(t:TT):Prop:=
 ∀(whole:Sem Value) (pins:List (Addr×Obj)) (s:Shared) (σ:St) (H:Hp) (Q:Bool->Hp->Prop),Inv X pins σ H s->t σ H Q->wpAny (model X.prog X.w) X.A (isTrue e X.env whole) (TP X pins σ Q) X.xe s
theorem PW.pt{X:Cx}{e:Expr}{t:TT}(h:PW X e t):PT X e t:=h _
def PA(X:Cx)(es:List Expr)(t:TA):Prop:=
 ∀(pos:Pos) (pins:List (Addr×Obj)) (s:Shared) (σ:St) (H:Hp) (Q:List V->Hp->Prop),Inv X pins σ H s->t σ H Q->wpAny (model X.prog X.w) X.A (spliced (backTo pos (starEach es X.env))) (AP X pins σ Q) X.xe s
def PS(X:Cx)(st:Stmt)(t:TS):Prop:=
 ∀(pins:List (Addr×Obj)) (s:Shared) (σ:St) (H:Hp) (D:Ends),Inv X pins σ H s->t D σ H->wpAny (model X.prog X.w) X.A (exec st X.env) (SP X pins D) X.xe s
def PSs(X:Cx)(st:List Stmt)(t:TS):Prop:=
 ∀(pins:List (Addr×Obj)) (s:Shared) (σ:St) (H:Hp) (D:Ends),Inv X pins σ H s->t D σ H->wpAny (model X.prog X.w) X.A (execs st X.env) (SP X pins D) X.xe s
theorem thn{α:Type}{t:Sem α}{Q Q':α->Shared->Prop}{M:Model}{A:Around}{E:Value->Shared->Prop}{s:Shared}(h:wpAny M A t Q E s)(hQ:∀a s,Q a s->Q' a s):wpAny M A t Q' E s:=wpAny_mono h hQ fun _ _ x=>x
end L2
namespace L2
open PySem PySem.Spec PyProof.Rows
section
variable{X:Cx}
theorem bin{a b:Expr}{ta tb:TE}(ha:PE X a ta)(hb:PE X b tb){pins:List (Addr×Obj)}{s:Shared}{σ:St}{H:Hp}{R:V->V->Hp->Prop}(I:Inv X pins σ H s)(h:ta σ H fun x H1=>tb σ H1 fun y H2=>R x y H2)
 {α:Type} {Q:α->Shared->Prop} {f:Value->Value->Sem α}
 (hf:∀v u s2 x y H2,Inv X pins σ H2 s2->n4 x v->n4 y u->R x y H2->wpAny (model X.prog X.w) X.A (f v u) Q X.xe s2):
 wpAny (model X.prog X.w) X.A (eval a X.env) (fun v s₁=>wpAny (model X.prog X.w) X.A (eval b X.env) (fun u s₂=>wpAny (model X.prog X.w) X.A (f v u) Q X.xe s₂) X.xe s₁) X.xe s:=by
 refine thn (ha pins s σ H _ I h) fun v s1 ⟨x,H1,I1,r1,q1⟩=>?_
 refine thn (hb pins s1 σ H1 _ I1 q1) fun u s2 ⟨y,H2,I2,r2,q2⟩=>?_
 exact hf v u s2 x y H2 I2 r1 r2 q2
def b8R(i:Nat):TE:=fun σ H Q=>∃v,σ[i]? =some (some v)/\Q v H
def tC(v:V):TE:=fun _ H Q=>Q v H
theorem b4o{i:Nat}{x:Str}{pos:Pos}(hN:X.N[i]? =some x)(hv:Vis X.env.scope x)(hd:(x==("__debug__":Str))=false:=by decide)(hcd:(x==("__classdict__":Str))=false:=by decide):PE X (.Name x pos) (b8R i):=by
 intro pins s σ H Q I h;obtain⟨v,e,h⟩:=h;obtain⟨m,hn,hl⟩:=I.loc;obtain⟨u,r,l⟩:=hl i x v hN e hv
 have fin:EP X pins σ Q u s:=⟨v,H,I,r,h⟩
 rcases l with⟨hk,hm⟩|⟨hk,c,hc,hcell⟩
 · exact wpAny_Name (wpAny_loadName_local I.ok.kind hk hn hm fin) hd
 · rcases hk with hk|hk
   · exact wpAny_Name (wpAny_loadName_cell I.ok.kind hk hc hcell fin) hd
   · exact wpAny_Name (wpAny_loadName_free I.ok.kind hk hc hcell fin hcd) hd
theorem a9p{i j pos}:PE X (.Constant (.int i) j pos) (tC (.int i)):=fun _ _ _ H _ I h=>wpAny_Constant_int ⟨.int i,H,I.tok _,⟨_,rfl⟩,h⟩
theorem b6X{b j pos}:PE X (.Constant (.bool b) j pos) (tC (.bl b)):=fun _ _ _ H _ I h=>Constant_bool ⟨.bl b,H,I,rfl,h⟩
theorem b4s{j pos}:PE X (.Constant .none j pos) (tC .non):=fun _ _ _ H _ I h=>Constant_none ⟨.non,H,I,rfl,h⟩
theorem a9m{x j pos}:PE X (.Constant (.str x) j pos) (tC (.str x)):=fun _ _ _ H _ I h=>Calls.Constant_str ⟨.str x,H,I.tok _,⟨_,rfl⟩,h⟩
def Gl(X:Cx)(x:Str):Prop:=X.env.kindOf x=some .globalImplicit
theorem a4g{E:Value->Shared->Prop}{pins:List (Addr×Obj)}{s:Shared}{σ:St}{H:Hp}{x:Str}{u:Value}{pos:Pos}{Q:Value->Shared->Prop}(I:Inv X pins σ H s)(hg:Gl X x)(hm:X.mg x=some u)(h:Q u s)
 (hd:(x==("__debug__":Str))=false:=by decide):wpAny (model X.prog X.w) X.A (eval (.Name x pos) X.env) Q E s:=
 Calls.Name_function_global I.ok.kind hg (Calls.loadGlobal_global (by rw[I.ok.glob];exact I.mod.glob.keeps I.bk) hm h) hd
theorem a1e{E:Value->Shared->Prop}{pins:List (Addr×Obj)}{s:Shared}{σ:St}{H:Hp}{x:Str}{u:Value}{pos:Pos}{Q:Value->Shared->Prop}(I:Inv X pins σ H s)(hg:Gl X x)(hm:X.mg x=none)(hv:bootBuiltins x=some u)(h:Q u s)
 (hn:x≠"__name__":=by decide) (hd:(x==("__debug__":Str))=false:=by decide):wpAny (model X.prog X.w) X.A (eval (.Name x pos) X.env) Q E s:=by
 obtain⟨mb,h1,h2⟩:=I.mod.blt;exact Calls.Name_function_global I.ok.kind hg (Calls.loadGlobal_builtin (by rw[I.ok.glob];exact I.mod.glob.keeps I.bk) hm (by rw[I.ok.blt];exact h1.keeps I.bk) ((h2 x hn).trans hv) h) hd
theorem a1M{x:Str}{v:V}{u:Value}{pos:Pos}(hg:Gl X x)(hm:X.mg x=some u)(r:n4 v u)(hd:(x==("__debug__":Str))=false:=by decide):PE X (.Name x pos) (tC v):=
 fun _ _ _ H _ I h=>a4g I hg hm ⟨v,H,I,r,h⟩ hd
theorem a6V{x:Str}{v:V}{u:Value}{pos:Pos}(hg:Gl X x)(hm:X.mg x=none)(hv:bootBuiltins x=some u)(r:n4 v u)(hn:x≠"__name__":=by decide)(hd:(x==("__debug__":Str))=false:=by decide):PE X (.Name x pos) (tC v):=
 fun _ _ _ H _ I h=>a1e I hg hm hv ⟨v,H,I,r,h⟩ hn hd
variable{a b:Expr}{ta tb:TE}{pos:Pos}
def PC(X:Cx)(op:CmpOp)(a b:Expr)(t:TE):Prop:=
 ∀(pins:List (Addr×Obj)) (s:Shared) (σ:St) (H:Hp) (Q:VK),Inv X pins σ H s->t σ H Q→
  wpAny (model X.prog X.w) X.A (eval a X.env) (fun v s₁=>wpAny (model X.prog X.w) X.A (eval b X.env) (fun u s₂=>wpAny (model X.prog X.w) X.A (compareOp op v u) (EP X pins σ Q) X.xe s₂) X.xe s₁) X.xe s
theorem a5l(b:Expr){op:CmpOp}(h:op≠.In)(h2:op≠.NotIn):behindInMarks op b=false:=by
 have e1:(op==CmpOp.In)=false:=by cases op<;>first|rfl|exact absurd rfl h
 have e2:(op==CmpOp.NotIn)=false:=by cases op<;>first|rfl|exact absurd rfl h2
 cases b<;>simp[behindInMarks,e1,e2]
def b8Y(ta:TE):TE:=fun σ H Q=>ta σ H fun x H1=>Q (.bl (decide (x=.non))) H1
def b6u(ta:TE):TE:=fun σ H Q=>ta σ H fun x H1=>Q (.bl (!decide (x=.non))) H1
theorem n4.none_iff{x:V}{v:Value}(r:n4 x v):(v==Value.none)=decide (x=.non):=by
 cases x with
 |non=>cases r;rfl
 |bl _=>cases r;rfl
 |int _=>obtain⟨t,rfl⟩:=r;rfl
 |str _=>obtain⟨t,rfl⟩:=r;rfl
 |byt _=>obtain⟨t,rfl⟩:=r;rfl
 |flt _=>obtain⟨t,rfl⟩:=r;rfl
 |ref _=>cases r;rfl
 |ty _=>cases r;rfl
theorem a9u{j pos'}(ha:PE X a ta):PC X .Is a (.Constant .none j pos') (b8Y ta):=by
 intro pins s σ H Q I h;refine thn (ha pins s σ H _ I h) fun v s1 ⟨x,H1,I1,r1,q1⟩=>?_
 exact Constant_none (is_none_gen ⟨.bl _,H1,I1,by rw[r1.none_iff];rfl,q1⟩)
theorem a6W{j pos'}(ha:PE X a ta):PC X .IsNot a (.Constant .none j pos') (b6u ta):=by
 intro pins s σ H Q I h;refine thn (ha pins s σ H _ I h) fun v s1 ⟨x,H1,I1,r1,q1⟩=>?_
 exact Constant_none (isnot_none_gen ⟨.bl _,H1,I1,by rw[r1.none_iff];rfl,q1⟩)
def tB(t:TE):TT:=fun σ H Q=>t σ H fun x H1=>∃c,x=.bl c/\Q c H1
theorem a9s{op:CmpOp}{t:TE}(h:PC X op a b t)(h1:behindInMarks op b=false:=by first|exact a5l _ (by decide) (by decide)|rfl):PE X (.Compare a [op] [b] pos) t:=fun pins s σ H Q I hw=>wpAny_Compare1 (h pins s σ H Q I hw) h1
theorem a9c{op:CmpOp}{t:TE}(h:PC X op a b t)(h1:behindInMarks op b=false:=by first|exact a5l _ (by decide) (by decide)|rfl):PT X (.Compare a [op] [b] pos) (tB t):=by
 intro pins s σ H Q I hw;refine wpAny_isTrue_Compare1 (thn (h pins s σ H _ I hw) fun v s1 h1=>thn h1 fun u s2 h2=>thn h2 fun c s3 ⟨x,H1,I1,r1,q1⟩=>?_) h1
 obtain⟨d,rfl,q⟩:=q1;cases r1;exact wpAny_truthy_bool ⟨H1,I1,q⟩
variable{tA tB':TT}{d9:List Expr}
def b9d(t u:TT):TT:=fun σ H Q=>t σ H fun c H1=>if c=true then u σ H1 Q else Q false H1
def tOr(t u:TT):TT:=fun σ H Q=>t σ H fun c H1=>if c=true then Q true H1 else u σ H1 Q
def b8W(t:TT):TT:=fun σ H Q=>t σ H fun c H1=>Q (!c) H1
theorem b1S(ha:PT X a tA):PW X (.BoolOp .And [a] pos) tA:=by
 intro wh pins s σ H Q I h;refine isTrue_and (thn (ha pins s σ H Q I h) fun c s1 e=>?_)
 cases c with
 |true=>exact isTrue_and_nil e
 |false=>exact e
theorem b3Z(ha:PT X a tA):PW X (.BoolOp .Or [a] pos) tA:=by
 intro wh pins s σ H Q I h;refine isTrue_or (thn (ha pins s σ H Q I h) fun c s1 e=>?_)
 cases c with
 |false=>exact isTrue_or_nil e
 |true=>exact e
theorem b4a(ha:PT X a tA)(hb:PW X (.BoolOp .And (b::d9) pos) tB'):PW X (.BoolOp .And (a::b::d9) pos) (b9d tA tB'):=by
 intro wh pins s σ H Q I h;refine isTrue_and (thn (ha pins s σ H _ I h) fun c s1 ⟨H1,I1,q1⟩=>?_)
 cases c with
 |true=>exact hb wh pins s1 σ H1 Q I1 q1
 |false=>exact⟨H1,I1,q1⟩
theorem b6S(ha:PT X a tA)(hb:PW X (.BoolOp .Or (b::d9) pos) tB'):PW X (.BoolOp .Or (a::b::d9) pos) (tOr tA tB'):=by
 intro wh pins s σ H Q I h;refine isTrue_or (thn (ha pins s σ H _ I h) fun c s1 ⟨H1,I1,q1⟩=>?_)
 cases c with
 |true=>exact⟨H1,I1,q1⟩
 |false=>exact hb wh pins s1 σ H1 Q I1 q1
theorem b4c(ha:PT X a tA):PT X (.UnaryOp .Not a pos) (b8W tA):=by
 intro pins s σ H Q I h;exact isTrue_not (ha pins s σ H (fun c H1=>Q (!c) H1) I h)
def b6A(ta tb:TE):TE:=fun σ H Q=>ta σ H fun x H1=>∃c,x=.bl c/\if c=true then tb σ H1 Q else Q (.bl false) H1
def b8V(ta tb:TE):TE:=fun σ H Q=>ta σ H fun x H1=>∃c,x=.bl c/\if c=true then Q (.bl true) H1 else tb σ H1 Q
def b6t(ta:TE):TE:=fun σ H Q=>ta σ H fun x H1=>∃c,x=.bl c/\Q (.bl (!c)) H1
theorem b4q{op}{t:TE}(h:PE X a t):PE X (.BoolOp op [a] pos) t:=fun pins s σ H Q I hw=>BoolOp_one (h pins s σ H Q I hw)
theorem b4w(ha:PE X a ta)(hb:PE X (.BoolOp .And (b::d9) pos) tb):PE X (.BoolOp .And (a::b::d9) pos) (b6A ta tb):=by
 intro pins s σ H Q I h;refine BoolOp_and (thn (ha pins s σ H _ I h) fun v s1 ⟨x,H1,I1,r1,q1⟩=>?_)
 obtain⟨c,rfl,q1⟩:=q1;cases r1;refine wpAny_truthy_bool ?_
 cases c with
 |true=>exact hb pins s1 σ H1 Q I1 q1
 |false=>exact⟨.bl false,H1,I1,rfl,q1⟩
theorem b6V(ha:PE X a ta)(hb:PE X (.BoolOp .Or (b::d9) pos) tb):PE X (.BoolOp .Or (a::b::d9) pos) (b8V ta tb):=by
 intro pins s σ H Q I h;refine BoolOp_or (thn (ha pins s σ H _ I h) fun v s1 ⟨x,H1,I1,r1,q1⟩=>?_)
 obtain⟨c,rfl,q1⟩:=q1;cases r1;refine wpAny_truthy_bool ?_
 cases c with
 |false=>exact hb pins s1 σ H1 Q I1 q1
 |true=>exact⟨.bl true,H1,I1,rfl,q1⟩
theorem b4r(ha:PE X a ta):PE X (.UnaryOp .Not a pos) (b6t ta):=by
 intro pins s σ H Q I h;refine UnaryOp_ (thn (ha pins s σ H _ I h) fun v s1 ⟨x,H1,I1,r1,q1⟩=>?_)
 obtain⟨c,rfl,q1⟩:=q1;cases r1;exact not_of (wpAny_truthy_bool ⟨.bl (!c),H1,I1,rfl,q1⟩)
end
end L2
namespace L2
open PySem PySem.Spec PyProof.Rows
def SqL(K:PySem.W.Frag)(H:Hp)(a:Addr)(xs:List V):Prop:=
 Rd H a (.lst xs)∨
  ∃(o:Obj) (its:Array Value) (n:Nat),K.lookup a=some o/\o.cls=.type "list"/\o.dict=none/\o.data=.seq its n/\its.size<=sizeLine/\n8 xs its.toList
def SqT(K:PySem.W.Frag)(H:Hp)(a:Addr)(xs:List V):Prop:=
 Rd H a (.tup xs)∨
  ∃(o:Obj) (its:Array Value) (n:Nat),K.lookup a=some o/\o.cls=.type "tuple"/\o.data=.seq its n/\its.size<=sizeLine/\n8 xs its.toList
def b9J:Value->Option V
 |.none=>some .non
 |.bool b=>some (.bl b)
 |.int i _=>some (.int i)
 |.str x _=>some (.str x)
 |.bytes b _=>some (.byt b)
 |.float b _=>some (.flt b)
 |.ref a=>some (.ref a)
 |.type n=>some (.ty n)
 |_=>none
theorem n4.abs{x:V}{u:Value}(r:n4 x u):b9J u=some x:=by
 cases x with
 |non=>cases r;rfl
 |bl _=>cases r;rfl
 |int _=>obtain⟨t,rfl⟩:=r;rfl
 |str _=>obtain⟨t,rfl⟩:=r;rfl
 |byt _=>obtain⟨t,rfl⟩:=r;rfl
 |flt _=>obtain⟨t,rfl⟩:=r;rfl
 |ref _=>cases r;rfl
 |ty _=>cases r;rfl
theorem n4.inj{x y:V}{u:Value}(r:n4 x u)(q:n4 y u):x=y:=Option.some.inj (r.abs.symm.trans q.abs)
theorem n8.inj:∀{xs ys:List V} {us:List Value},n8 xs us->n8 ys us->xs=ys
 |_,_,_,.nil,.nil=>rfl
 |_,_,_,.cons r t,.cons r' t'=>by rw[r.inj r',n8.inj t t']
section
variable{X:Cx}{pins:List (Addr×Obj)}{σ:St}{H:Hp}{s:Shared}{a:Addr}{xs ys:List V}
theorem Inv.list(I:Inv X pins σ H s)(h:SqL X.K H a xs):∃its:List Value,n8 xs its/\PlainL s.heap a its.toArray/\xs.length<=sizeLine:=by
 rcases h with h|⟨o,its,n,hk,hc,hd,hs,hz,r⟩
 · obtain⟨z,its,n,r,e⟩:=h.ok I.hok;exact⟨its,r,⟨_,n,e,rfl,rfl,rfl⟩,z⟩
 · refine⟨its.toList,r,⟨o,n,I.kIn a o hk,hc,hd,by simpa using hs⟩,?_⟩
   have e:=r.length;simp only[Array.length_toList] at e;omega
theorem Inv.tuple(I:Inv X pins σ H s)(h:SqT X.K H a xs):∃its:List Value,n8 xs its/\IsTup s.heap a its.toArray/\xs.length<=sizeLine:=by
 rcases h with h|⟨o,its,n,hk,hc,hs,hz,r⟩
 · obtain⟨z,its,r,p⟩:=h.ok I.hok;exact⟨its,r,p.tup,z⟩
 · refine⟨its.toList,r,⟨o,I.kIn a o hk,hc,n,by simpa using hs⟩,?_⟩
   have e:=r.length;simp only[Array.length_toList] at e;omega
theorem Inv.list_inj(I:Inv X pins σ H s)(h:SqL X.K H a xs)(h':SqL X.K H a ys):xs=ys:=by
 obtain⟨its,r,⟨o,n,e,_,_,d⟩,_⟩:=I.list h;obtain⟨its',r',⟨o',n',e',_,_,d'⟩,_⟩:=I.list h';rw[e] at e';cases e'
 rw[d] at d'
 injection d' with d1 _
 have:its=its':=by simpa using congrArg Array.toList d1
 subst this;exact r.inj r'
theorem Inv.tuple_inj(I:Inv X pins σ H s)(h:SqT X.K H a xs)(h':SqT X.K H a ys):xs=ys:=by
 obtain⟨its,r,⟨o,e,_,n,d⟩,_⟩:=I.tuple h;obtain⟨its',r',⟨o',e',_,n',d'⟩,_⟩:=I.tuple h';rw[e] at e';cases e'
 rw[d] at d'
 injection d' with d1 _
 have:its=its':=by simpa using congrArg Array.toList d1
 subst this;exact r.inj r'
end
section
variable{X:Cx}{st:Stmt}{d9:List Stmt}{t u:TS}{e:Expr}{te:TE}{pos:Pos}
def b6v:TS:=fun D σ H=>D.nx σ H
def b8T(t u:TS):TS:=fun D σ H=>t {D with nx:=u D} σ H
theorem b1T:PSs X [] b6v:=fun _ _ σ H _ I h=>wpAny_execs_nil ⟨σ,H,I,h⟩
theorem a9f(h1:PS X st t)(h2:PSs X d9 u):PSs X (st::d9) (b8T t u):=by
 intro pins s σ H D I h;refine wpAny_execs_cons (thn (h1 pins s σ H {D with nx:=u D} I h) fun f s1 q=>?_)
 cases f with
 |next=>
  obtain⟨σ',H',I',q⟩:=q;exact h2 pins s1 σ' H' D I' q
 |ret v=>exact q
 |brk=>exact q
 |cont=>exact q
theorem Inv.quiet{pins:List (Addr×Obj)}{σ:St}{H:Hp}{s:Shared}(I:Inv X pins σ H s):interactive X.env=false:=by simp[interactive,I.ok.kind]
def b6x(te:TE):TS:=fun D σ H=>te σ H fun _ H1=>D.nx σ H1
theorem b1U(he:PE X e te)(hs:swapsWith e none pos.line X.env=pure false:=by rfl):PS X (.Expr e pos) (b6x te):=by
 intro pins s σ H D I h;exact wpAny_Expr_any (thn (he pins s σ H _ I h) fun v s1 ⟨x,H1,I1,r1,q1⟩=>⟨σ,H1,I1,q1⟩) I.quiet hs
def b8U(te:TE):TS:=fun D σ H=>te σ H D.rt
theorem b4d(he:PE X e te):PS X (.Return (some e) pos) (b8U te):=by
 intro pins s σ H D I h;exact wpAny_Return_some (thn (he pins s σ H _ I h) fun v s1 ⟨x,H1,I1,r1,q1⟩=>⟨x,σ,H1,I1,r1,q1⟩)
def b8Z(c:TT)(t u:TS):TS:=fun D σ H=>c σ H fun b H1=>if b=true then t D σ H1 else u D σ H1
theorem b6T{c:Expr}{a b:List Stmt}{tc:TT}(hc:PT X c tc)(ha:PSs X a t)(hb:PSs X b u):PS X (.If c a b pos) (b8Z tc t u):=by
 intro pins s σ H D I h;refine wpAny_If (thn (hc pins s σ H _ I h) fun d s1 ⟨H1,I1,q1⟩=>?_)
 cases d with
 |true=>exact ha pins s1 σ H1 D I1 q1
 |false=>exact hb pins s1 σ H1 D I1 q1
end
abbrev TG:=V->St->Hp->(St->Hp->Prop)->Prop
abbrev TGs:=List V->St->Hp->(St->Hp->Prop)->Prop
def PG(X:Cx)(target:Expr)(t:TG):Prop:=
 ∀(pins:List (Addr×Obj)) (s:Shared) (σ:St) (H:Hp) (v:V) (u:Value) (Q:St->Hp->Prop),Inv X pins σ H s->n4 v u->t v σ H Q→
  wpAny (model X.prog X.w) X.A (assign target X.env u) (fun _ s'=>∃σ' H',Inv X pins σ' H' s'/\Q σ' H') X.xe s
def PGs(X:Cx)(ts:List Expr)(t:TGs):Prop:=
 ∀(pins:List (Addr×Obj)) (s:Shared) (σ:St) (H:Hp) (vs:List V) (us:List Value) (Q:St->Hp->Prop),Inv X pins σ H s->n8 vs us->t vs σ H Q→
  wpAny (model X.prog X.w) X.A (assignInOrder ((assignEach ts X.env).map (·.2)) us) (fun _ s'=>∃σ' H',Inv X pins σ' H' s'/\Q σ' H') X.xe s
abbrev b6g:=V->V->V->Hp->(Hp->Prop)->Prop
def b6h(X:Cx)(t:b6g):Prop:=
 ∀(pins:List (Addr×Obj)) (s:Shared) (σ:St) (H:Hp) (o i v:V) (ov iv u:Value) (Q:Hp->Prop),Inv X pins σ H s->n4 o ov->n4 i iv->n4 v u->t o i v H Q→
  wpAny (model X.prog X.w) X.A (setItem ov iv u) (fun _ s'=>∃H',Inv X pins σ H' s'/\Q H') X.xe s
section
variable{X:Cx}{pos:Pos}
def b0e(i:Nat):TG:=fun v σ H Q=>Q (σ.set i (some v)) H
theorem b2e{i:Nat}{x:Str}(hN:X.N.Nodup)(hi:X.N[i]? =some x)(hx:Loc X.env.scope x)(hf:X.fn x=true∨X.env.scope.names.lookup x=some .local:=by first|exact .inl rfl|exact .inr rfl|assumption):PG X (.Name x pos) (b0e i):=by
 intro pins s σ H v u Q I r h;exact wpAny_assign_Name (a4Z I hN hi hx r (fun s' I'=>⟨_,H,I',h⟩) hf)
def b9y:TGs:=fun vs σ H Q=>vs=[]/\Q σ H
def b7E(t:TG)(u:TGs):TGs:=fun vs σ H Q=>∃v r,vs=v::r/\t v σ H fun σ' H'=>u r σ' H' Q
theorem b2d:PGs X [] b9y:=by
 intro pins s σ H vs us Q I r h;obtain⟨e,h⟩:=h;subst e;cases r;exact assignInOrder_nil ⟨σ,H,I,h⟩
theorem a9l{e:Expr}{es:List Expr}{t:TG}{u:TGs}(h1:PG X e t)(h2:PGs X es u)
 (hs:(assignEach (e::es) X.env).map (·.2)=assign e X.env::(assignEach es X.env).map (·.2):=by rfl):PGs X (e::es) (b7E t u):=by
 intro pins s σ H vs us Q I r h;obtain⟨v,vr,e1,h⟩:=h;subst e1
 cases r with
 |cons r rr=>
  rw[hs];refine assignInOrder_cons (thn (h1 pins s σ H _ _ _ I r h) fun _ s1 ⟨σ1,H1,I1,q1⟩=>?_)
  exact h2 pins s1 σ1 H1 _ _ Q I1 rr q1
def b9w(K:PySem.W.Frag)(n:Nat)(t:TGs):TG:=fun v σ H Q=>∃a xs,v=.ref a/\SqT K H a xs/\xs.length=n/\t xs σ H Q
theorem b4m{es:List Expr}{k:Nat}{t:TGs}{n:Nat}(hc:X.calm=true)(h:PGs X es t)
 (hn:(assignEach es X.env).length=n:=by rfl) (hst:(assignEach es X.env).findIdx? (·.1)=none:=by rfl):PG X (.Tuple es k pos) (b9w X.K n t):=by
 intro pins s σ H v u Q I r hw;obtain⟨a,xs,e1,hq,hl,hw⟩:=hw;subst e1;cases r;obtain⟨its,rv,ht,hz⟩:=I.tuple hq;refine assign_Tuple_tuple (I.ok.hd hc) ht (by simp[hn,←hl,rv.length]) hst fun h' hx=>?_
 have I1:Inv X pins σ H {s with heap:=h'}:=I.kept (t':=s.toks) fun b o e=>hx b o (Nat.ne_of_lt (Heap.lt_size e)) e
 exact h pins _ σ H xs _ Q I1 (by simpa using rv) hw
def b7D(to ti:TE)(t:b6g):TG:=fun v σ H Q=>to σ H fun o H1=>ti σ H1 fun i H2=>t o i v H2 fun H3=>Q σ H3
theorem b4n{o i:Expr}{to ti:TE}{t:b6g}(ho:PE X o to)(hi:PE X i ti)(hs:b6h X t)
 (ha:∀v,assign (.Subscript o i pos) X.env v=(do
  let ov←holding [v] (eval o X.env)
  let iv←holding [v,ov] (eval i X.env)
  standAt pos
  holding [v,ov,iv] (setItem ov iv v)
  release [v,ov,iv] []):=by intro _;rfl):PG X (.Subscript o i pos) (b7D to ti t):=by
 intro pins s σ H v u Q I r h;rw[ha];refine wpAny_bind (wpAny_holding (thn (ho pins s σ H _ I h) fun ov s1 ⟨x,H1,I1,r1,q1⟩=>?_))
 refine wpAny_bind (wpAny_holding (thn (hi pins s1 σ H1 _ I1 q1) fun iv s2 ⟨y,H2,I2,r2,q2⟩=>?_))
 refine wpAny_bind (wpAny_standAt (wpAny_bind (wpAny_holding (thn (hs pins s2 σ H2 x y v ov iv u _ I2 r1 r2 r q2) fun _ s3 ⟨H3,I3,q3⟩=>?_))))
 exact wpAny_release ⟨σ,H3,I3,q3⟩
def b3Q(te:TE)(g:TG):TS:=fun D σ H=>te σ H fun x H1=>g x σ H1 D.nx
theorem b4g{tg e:Expr}{te:TE}{g:TG}(he:PE X e te)(hg:PG X tg g)(hs:swapsWithSole [tg] e pos.line X.env=pure false:=by rfl)(hw:swappedStores [tg] e X.env=pure none:=by rfl)
 (h1:(assignEach [tg] X.env).map (·.2)=[assign tg X.env]:=by rfl):PS X (.Assign [tg] e pos) (b3Q te g):=by
 intro pins s σ H D I h;refine wpAny_Assign_stores (thn (he pins s σ H _ I h) fun v s1 ⟨x,H1,I1,r1,q1⟩=>?_) hs hw
 rw[h1];exact thn (hg pins s1 σ H1 x v _ I1 r1 q1) fun _ s2 q=>q
theorem a9g{i:Nat}{x:Str}{e:Expr}{te:TE}{pos':Pos}(hN:X.N.Nodup)(hi:X.N[i]? =some x)(hx:Loc X.env.scope x)(he:PE X e te)(hs:swapsWith e (some (.Name x pos')) pos.line X.env=pure false:=by rfl)(hf:X.fn x=true∨X.env.scope.names.lookup x=some .local:=by first|exact .inl rfl|exact .inr rfl|assumption):
 PS X (.Assign [.Name x pos'] e pos) (b3Q te (b0e i)):=by
 intro pins s σ H D I h;refine wpAny_Assign_Name (thn (he pins s σ H _ I h) fun v s1 ⟨y,H1,I1,r1,q1⟩=>?_) hs
 exact a4Z I1 hN hi hx r1 (fun s2 I2=>⟨_,H1,I2,q1⟩) hf
end
structure It where
 go:Nat->Hp->Prop
 yld:Nat->Hp->V->Hp->Prop
 stop:Nat->Hp->Prop
def a1E(X:Cx)(pins:List (Addr×Obj))(H:Hp)(b:Addr):Prop:=
 H b=none/\b≠X.env.locals/\b∉X.fs/\(b∈X.ex∨X.s₀.heap.objs.size<=b)/\(∀x c,X.env.cells.lookup x=some c->c≠b)/\∀p∈X.pn++pins,p.1≠b
theorem Inv.fpOk{X:Cx}{pins:List (Addr×Obj)}{σ:St}{H H':Hp}{s:Shared}{b:Addr}(I:Inv X pins σ H s)(hb:s.heap.objs.size<=b)(hn:H' b=none):a1E X pins H' b:=by
 refine⟨hn,Nat.ne_of_gt (Nat.lt_of_lt_of_le I.lt hb),I.nofs hb,.inr (Nat.le_trans I.sz hb),fun x c e z=>?_,fun p hp z=>?_⟩
 · obtain⟨v,q⟩:=I.cell x c e;exact absurd (Nat.lt_of_lt_of_le q.lt (by rw[z];exact hb)) (Nat.lt_irrefl _)
 · exact absurd (Nat.lt_of_lt_of_le (Heap.lt_size (I.pin p hp).1) (by rw[z];exact hb)) (Nat.lt_irrefl _)
structure Turn(P:Program)(w:World)(K:PySem.W.Frag)(tg:Expr)(J:It)(fp:List Addr)(it:Addr)(tn:Nat->Heap->Prop):Prop where
 mem:it∈fp
 obj:∀i h,tn i h->∀b∈fp,∃o,h.get? b=some o/\∀v,o.data≠.cell v
 keep:∀i h h',tn i h->(∀b∈fp,∀o,h.get? b=some o->h'.get? b=some o)->tn i h'
 item:∀(X:Cx),X.prog=P->X.w=w->X.K=K->X.calm=true->∀(i:Nat) (pins:List (Addr×Obj)) (s:Shared) (σ:St) (H:Hp) (E:Value->Shared->Prop),Inv X pins σ H s->(∀b∈fp,a1E X pins H b)->tn i s.heap->J.go i H→
  wpAny (model P w) X.A (pyNext (.ref it)) (fun r s1=>∃u,r=some u∧
   wpAny (model P w) X.A (letOwnedTupleGo tg (.ref it) u) (fun _ s2=>∃x H',Inv X pins σ H' s2/\n4 x u/\J.yld i H x H'/\tn (i+1) s2.heap/\∀b∈fp,H' b=none) E s1) E s
 done:∀(X:Cx),X.prog=P->X.w=w->X.K=K->X.calm=true->∀(i:Nat) (pins:List (Addr×Obj)) (s:Shared) (σ:St) (H:Hp) (E:Value->Shared->Prop),Inv X pins σ H s->(∀b∈fp,a1E X pins H b)->tn i s.heap->J.stop i H→
  wpAny (model P w) X.A (pyNext (.ref it)) (fun r s1=>r=none/\Inv X pins σ H s1) E s
 self:∀(A:Around) (i:Nat) (s:Shared) (Q:Value->Shared->Prop) (E:Value->Shared->Prop),tn i s.heap->Q (.ref it) s->wpAny (model P w) A (pyIter (.ref it)) Q E s
abbrev TI:=St->Hp->(It->Hp->Prop)->Prop
def PIE(X:Cx)(pins:List (Addr×Obj))(σ:St)(tg:Expr)(R:It->Hp->Prop)(itv:Value)(s2:Shared):Prop:=
 ∃(it:Addr) (fp:List Addr) (tn:Nat->Heap->Prop) (J:It) (H':Hp),itv=.ref it/\Inv X pins σ H' s2/\Turn X.prog X.w X.K tg J fp it tn/\tn 0 s2.heap/\(∀b∈fp,a1E X pins H' b)/\R J H'
def PI(X:Cx)(tg iter:Expr)(wi:TI):Prop:=
 ∀(pins:List (Addr×Obj)) (s:Shared) (σ:St) (H:Hp) (R:It->Hp->Prop),Inv X pins σ H s->wi σ H R→
  wpAny (model X.prog X.w) X.A (eval iter X.env) (fun v s1=>wpAny (model X.prog X.w) X.A (pyIter v) (PIE X pins σ tg R) X.xe s1) X.xe s
theorem a7l{M:Model}{A:Around}{E:Value->Shared->Prop}{s:Shared}{tg:Expr}{it:Addr}{u:Value}{o:Obj}{n:String}{vs:Array Value}{Q:Unit->Shared->Prop}(ho:s.heap.get? it=some o)(hc:o.cls=.type n)(hd:o.data=.fields vs)
   (hn:["enumerate","zip","dict_itemiterator","dict_reverseitemiterator","odict_iterator","itertools.zip_longest","itertools.pairwise"].contains n=false) (hQ:Q () s):wpAny M A (letOwnedTupleGo tg (.ref it) u) Q E s:=by
 unfold letOwnedTupleGo
 cases tg <;>first
   |exact wpAny_pure hQ
   |(cases u<;>first
       |exact wpAny_pure hQ
       | (refine wpAny_bind (wpAny_load ho ?_)
          rw[hc,hd]
          show wpAny M A (if(["enumerate","zip","dict_itemiterator","dict_reverseitemiterator","odict_iterator","itertools.zip_longest","itertools.pairwise"].contains n&&vs[0]? ==some (rawInt _))=true then _ else _) Q E s
          rw[if_neg (by intro h;rw[hn,Bool.false_and] at h;cases h)]
          exact wpAny_pure hQ))
def Itl(K:PySem.W.Frag)(a:Addr):It:=
 ⟨fun i H=>∃xs x,SqL K H a xs/\xs[i]? =some x,fun i H x H'=>H'=H/\∀xs,SqL K H a xs->xs[i]? =some x,fun i H=>∃xs,SqL K H a xs/\xs.length<=i⟩
def Itt(K:PySem.W.Frag)(a:Addr):It:=
 ⟨fun i H=>∃xs x,SqT K H a xs/\xs[i]? =some x,fun i H x H'=>H'=H/\∀xs,SqT K H a xs->xs[i]? =some x,fun i H=>∃xs,SqT K H a xs/\xs.length<=i⟩
def Itr(lo:Int)(n:Nat):It:=⟨fun i _=>i<n,fun i H x H'=>H'=H/\x=.int (lo+i),fun i _=>n<=i⟩
theorem a7B{P:Program}{w:World}{K:PySem.W.Frag}{tg:Expr}(a it:Addr):Turn P w K tg (Itl K a) [it] it (fun i h=>h.IsListIter it a i) where
 mem:=by simp
 obj:=fun i h st b hb=>by
  have e:b=it:=by simpa using hb
  subst e;obtain⟨o,e,c,d⟩:=st;exact⟨o,e,fun v z=>by rw[d] at z;cases z⟩
 keep:=fun i h h' st k=>st.at fun o e=>k it (by simp) o e
 item:=by
  intro X hP hw hK hc i pins s σ H E I hf st hg;subst hP hw hK;obtain⟨xs,x,hq,hx⟩:=hg;obtain⟨its,rv,p,hz⟩:=I.list hq;obtain⟨u,hu,ru⟩:=rv.get hx;obtain⟨f0,f1,f2,f3,f4,f5⟩:=hf it (by simp)
  refine wpAny_pyNext_list_item st p.isList (x:=u) (by simpa using hu) fun h' st' sb=>?_
  have I1:Inv X pins σ H {s with heap:=h'}:=I.turned (t':=s.toks) (fun b o hb e=>(sb.2 b hb).trans e) f0 f1 f3 f4 f5
  obtain⟨o,e,c,d⟩:=id st';exact⟨u,rfl,a7l (s:={s with heap:=h'}) e c d (by decide) ⟨x,H,I1,ru,⟨rfl,fun ys hy=>by rw[I.list_inj hy hq];exact hx⟩,st',fun b hb=>(hf b hb).1⟩⟩
 done:=by
  intro X hP hw hK hc i pins s σ H E I hf st hg;subst hP hw hK;obtain⟨xs,hq,hx⟩:=hg;obtain⟨its,rv,p,hz⟩:=I.list hq;obtain⟨f0,f1,f2,f3,f4,f5⟩:=hf it (by simp)
  have hl:=rv.length;exact wpAny_pyNext_list_end (I.ok.hd hc) st p.isList (by simp;omega) fun h' eb=>⟨rfl,I.turned (t':=s.toks) (fun b o hb e=>eb b o hb e) f0 f1 f3 f4 f5⟩
 self:=fun _ _ _ _ _ st h=>wpAny_pyIter_listiter st h
theorem a5T{P:Program}{w:World}{K:PySem.W.Frag}{tg:Expr}(a it:Addr):Turn P w K tg (Itt K a) [it] it (fun i h=>h.IsTupleIter it a i) where
 mem:=by simp
 obj:=fun i h st b hb=>by
  have e:b=it:=by simpa using hb
  subst e;obtain⟨o,e,c,d⟩:=st;exact⟨o,e,fun v z=>by rw[d] at z;cases z⟩
 keep:=fun i h h' st k=>st.at fun o e=>k it (by simp) o e
 item:=by
  intro X hP hw hK hc i pins s σ H E I hf st hg;subst hP hw hK;obtain⟨xs,x,hq,hx⟩:=hg;obtain⟨its,rv,p,hz⟩:=I.tuple hq;obtain⟨u,hu,ru⟩:=rv.get hx;obtain⟨f0,f1,f2,f3,f4,f5⟩:=hf it (by simp)
  refine wpAny_pyNext_tuple_item st (show s.heap.IsTuple a its.toArray from p) (x:=u) (by simpa using hu) fun h' st' sb=>?_
  have I1:Inv X pins σ H {s with heap:=h'}:=I.turned (t':=s.toks) (fun b o hb e=>(sb.2 b hb).trans e) f0 f1 f3 f4 f5
  obtain⟨o,e,c,d⟩:=id st';exact⟨u,rfl,a7l (s:={s with heap:=h'}) e c d (by decide) ⟨x,H,I1,ru,⟨rfl,fun ys hy=>by rw[I.tuple_inj hy hq];exact hx⟩,st',fun b hb=>(hf b hb).1⟩⟩
 done:=by
  intro X hP hw hK hc i pins s σ H E I hf st hg;subst hP hw hK;obtain⟨xs,hq,hx⟩:=hg;obtain⟨its,rv,p,hz⟩:=I.tuple hq;obtain⟨f0,f1,f2,f3,f4,f5⟩:=hf it (by simp)
  have hl:=rv.length;exact wpAny_pyNext_tuple_end (I.ok.hd hc) st (show s.heap.IsTuple a its.toArray from p) (by simp;omega) fun h' eb=>⟨rfl,I.turned (t':=s.toks) (fun b o hb e=>eb b o hb e) f0 f1 f3 f4 f5⟩
 self:=fun _ _ _ _ _ st h=>wpAny_pyIter_tupleiter st h
theorem a5U{P:Program}{w:World}{K:PySem.W.Frag}{tg:Expr}(it:Addr)(lo:Int)(n:Nat):Turn P w K tg (Itr lo n) [it] it (fun i h=>IsRangeIter h it (lo+(i:Nat)*1) ((n:Int)-(i:Nat)) 1) where
 mem:=by simp
 obj:=fun i h st b hb=>by
  have e:b=it:=by simpa using hb
  subst e
  exact⟨_,st,fun v z=>by
   have z':Data.fields _=Data.cell v:=z
   cases z'⟩
 keep:=fun i h h' st k=>k it (by simp) _ st
 item:=by
  intro X hP hw hK hc i pins s σ H E I hf st hg;subst hP hw hK;obtain⟨f0,f1,f2,f3,f4,f5⟩:=hf it (by simp)
  have W:=Walks.range (prog:=X.prog) (w:=X.w) (I.ok.hd hc) it lo 1 n;refine W.item i s _ _ hg st fun v h' tk hv st' kk=>?_
  obtain⟨t,rfl⟩:=hv
  have I1:Inv X pins σ H {s with heap:=h',toks:=tk}:=I.turned (fun b o hb e=>kk b o (by simpa using hb) e) f0 f1 f3 f4 f5
  refine⟨_,rfl,a7l (s:={s with heap:=h',toks:=tk}) (n:="range_iterator") st' rfl rfl (by decide) ⟨.int (lo+i),H,I1,⟨t,?_⟩,⟨rfl,rfl⟩,st',fun b hb=>(hf b hb).1⟩⟩
  rw[Int.mul_one]
 done:=by
  intro X hP hw hK hc i pins s σ H E I hf st hg;subst hP hw hK;obtain⟨f0,f1,f2,f3,f4,f5⟩:=hf it (by simp)
  exact wpAny_pyNext_range_end (I.ok.hd hc) st (by have:n<=i:=hg;omega) fun h' eb=>⟨rfl,I.turned (t':=s.toks) (fun b o hb e=>eb b o hb e) f0 f1 f3 f4 f5⟩
 self:=fun _ _ _ _ _ st h=>wpAny_pyIter_rangeiter st h
end L2
namespace L2
open PySem PySem.Spec PyProof.Rows
section
variable{X:Cx}{tg:Expr}
def b7r(K:PySem.W.Frag)(tl:TE):TI:=fun σ H R=>tl σ H fun x H1=>∃a,x=.ref a/\(∃xs,SqL K H1 a xs)/\R (Itl K a) H1
def b9u(K:PySem.W.Frag)(tl:TE):TI:=fun σ H R=>tl σ H fun x H1=>∃a,x=.ref a/\(∃xs,SqT K H1 a xs)/\R (Itt K a) H1
theorem b2b{l:Expr}{tl:TE}(hl:PE X l tl):PI X tg l (b7r X.K tl):=by
 intro pins s σ H R I h;refine thn (hl pins s σ H _ I h) fun v s1 ⟨x,H1,I1,r1,q1⟩=>?_
 obtain⟨a,e,⟨xs,hq⟩,q⟩:=q1;subst e;cases r1;obtain⟨its,rv,p,hz⟩:=I1.list hq;refine wpAny_pyIter_list p.isList ?_
 refine⟨s1.heap.objs.size,[s1.heap.objs.size],_,_,H1,rfl,I1.kept (t':=s1.toks) fun b o e=>Heap.get?_push_of_some _ e,a7B a _,⟨_,Heap.get?_push_size _ rfl,rfl,rfl⟩,fun b hb=>?_,q⟩
 have e:b=s1.heap.objs.size:=by simpa using hb
 subst e;exact I1.fpOk (Nat.le_refl _) (I1.hok.fresh (Nat.le_refl _))
theorem b4k{l:Expr}{tl:TE}(hl:PE X l tl):PI X tg l (b9u X.K tl):=by
 intro pins s σ H R I h;refine thn (hl pins s σ H _ I h) fun v s1 ⟨x,H1,I1,r1,q1⟩=>?_
 obtain⟨a,e,⟨xs,hq⟩,q⟩:=q1;subst e;cases r1;obtain⟨its,rv,p,hz⟩:=I1.tuple hq;refine wpAny_pyIter_tuple (show s1.heap.IsTuple a its.toArray from p) ?_
 refine⟨s1.heap.objs.size,[s1.heap.objs.size],_,_,H1,rfl,I1.kept (t':=s1.toks) fun b o e=>Heap.get?_push_of_some _ e,a5T a _,⟨_,Heap.get?_push_size _ rfl,rfl,rfl⟩,fun b hb=>?_,q⟩
 have e:b=s1.heap.objs.size:=by simpa using hb
 subst e;exact I1.fpOk (Nat.le_refl _) (I1.hok.fresh (Nat.le_refl _))
theorem a8Y{pins:List (Addr×Obj)}{σ:St}{H:Hp}{s:Shared}{R:It->Hp->Prop}{E:Value->Shared->Prop}{lo hi:Int}{t u v:Tok}{tk:Nat}(I:Inv X pins σ H s)(h1: -(2^62)<=lo)(h2:lo<2^62)(h3: -(2^62)<=hi)(h4:hi<2^62)
 (q:R (Itr lo (hi-lo).toNat) H):wpAny (model X.prog X.w) X.A (pyIter (.ref s.heap.objs.size)) (PIE X pins σ tg R) E {s with heap:=s.heap.push {cls:=.type "range",data:=.fields #[.int lo t,.int hi u,.int 1 v]},toks:=tk}:=by
 refine wpAny_pyIter_range (IsRange.new ..) (small_one h1 h2 h3 h4) ?_
 have I1:Inv X pins σ H {s with heap:=s.heap.push {cls:=.type "range",data:=.fields #[.int lo t,.int hi u,.int 1 v]},toks:=tk}:=I.kept fun b o e=>Heap.get?_push_of_some _ e
 refine⟨(s.heap.push {cls:=.type "range",data:=.fields #[.int lo t,.int hi u,.int 1 v]}).objs.size,[(s.heap.push {cls:=.type "range",data:=.fields #[.int lo t,.int hi u,.int 1 v]}).objs.size],_,_,H,rfl,
  I1.kept (t':=tk) fun b o e=>Heap.get?_push_of_some _ e,a5U _ lo (hi-lo).toNat,?_,fun b hb=>?_,q⟩
 · have e1:lo+((0:Nat):Int)*1=lo:=by simp
   have e2:(((hi-lo).toNat:Nat):Int)-((0:Nat):Int)=Builtin.Range.rangeSize lo hi 1:=by rw[rangeSize_one];split<;>omega
   show IsRangeIter _ _ (lo+((0:Nat):Int)*1) ((((hi-lo).toNat:Nat):Int)-((0:Nat):Int)) 1
   rw[e1,e2];exact Heap.get?_push_size _ rfl
 · have e:b=(s.heap.push {cls:=.type "range",data:=.fields #[.int lo t,.int hi u,.int 1 v]}).objs.size:=by simpa using hb
   subst e;exact I1.fpOk (Nat.le_refl _) (I1.hok.fresh (Nat.le_refl _))
def b7q(ta:TA):TI:=fun σ H R=>ta σ H fun vs H1=>∃j:Int,vs=[.int j]/\ -(2^62)<=j/\j<2^62/\R (Itr 0 j.toNat) H1
theorem a7S{a:Expr}{ta:TA}{p pos:Pos}(hg:Gl X "range")(hm:X.mg "range"=none)(ha:PA X [a] ta)(hs:starEach [a] X.env=[(false,eval a X.env)]:=by rfl):PI X tg (.Call (.Name "range" p) [a] [] pos) (b7q ta):=by
 intro pins s σ H R I h;refine Call_ (a1e I hg hm boot_range (PyProof.Rows.callWith_type1 (thn (ha pos pins s σ H _ I h) fun us s1 ⟨vs,H1,I1,r1,q1⟩=>?_) hs rfl))
 obtain⟨j,e,q1,q2,q⟩:=q1;subst e
 cases r1 with
 |cons r rr=>
  cases rr;obtain⟨t,rfl⟩:=r;exact call_range_1 (a8Y I1 (by omega) (by omega) q1 q2 (by simpa using q))
def b9a(wi:TI)(g:TG)(tb:TS):TS:=fun D σ H=>wi σ H fun J H1=>∃W:Nat->Nat->St->Hp->Prop,(∃m,W 0 m σ H1)/\∀i m σ H,W i m σ H→
 (J.stop i H/\D.nx σ H)∨(J.go i H/\∃N:St->Hp->Prop,(∀σ' H',N σ' H'->∃m',m'<m/\W (i+1) m' σ' H')/\∀x H',J.yld i H x H'->g x σ H' fun σ2 H2=>tb {D with nx:=N,ct:=N,bk:=D.nx} σ2 H2)
def a2i(fp:List Addr)(h:Heap):List (Addr×Obj):=fp.filterMap fun b=>(h.get? b).map fun o=>(b,o)
theorem V1{fp:List Addr}{h:Heap}{b:Addr}{o:Obj}(hb:b∈fp)(e:h.get? b=some o):(b,o)∈a2i fp h:=List.mem_filterMap.mpr ⟨b,hb,by rw[e];rfl⟩
theorem a7W{fp:List Addr}{h:Heap}{p:Addr×Obj}(hp:p∈a2i fp h):p.1∈fp/\h.get? p.1=some p.2:=by
 obtain⟨b,hb,e⟩:=List.mem_filterMap.mp hp
 cases q:h.get? b with
 |none=>rw[q] at e;cases e
 |some o=>
  rw[q] at e
  have e':(b,o)=p:=Option.some.inj e
  subst e';exact⟨hb,q⟩
theorem Inv.pinned{pins:List (Addr×Obj)}{σ:St}{H:Hp}{s:Shared}{fp:List Addr}(I:Inv X pins σ H s)(hf:∀b∈fp,a1E X pins H b)(ho:∀b∈fp,∃o,s.heap.get? b=some o/\∀v,o.data≠.cell v):Inv X (pins++a2i fp s.heap) σ H s:=
 I.pins_of fun p hp=>(List.mem_append.mp hp).elim (fun z=>I.pin p (List.mem_append_right _ z)) fun z=>by
  obtain⟨hb,e⟩:=a7W z;obtain⟨f0,f1,f2,_⟩:=hf p.1 hb;obtain⟨o,e',d⟩:=ho p.1 hb;rw[e] at e';cases e'
  exact⟨e,f0,f1,f2,d⟩
theorem Inv.unpinned{pins pl:List (Addr×Obj)}{σ:St}{H:Hp}{s:Shared}(I:Inv X (pins++pl) σ H s):Inv X pins σ H s:=I.pins_of fun p hp=>I.pin p (List.mem_append_right _ (List.mem_append_left _ hp))
theorem b4e{iter:Expr}{body:List Stmt}{wi:TI}{g:TG}{tb:TS}{pos:Pos}(hp:PassesOwn (model X.prog X.w) X.A X.env X.xe)(hc:X.calm=true)(hi:PI X tg iter wi)(hg:PG X tg g)(hb:PSs X body tb)
 (hs:∀x,foldedSetIterable iter X.env x=pure x:=by intro _;rfl):PS X (.For tg iter body [] pos) (b9a wi g tb):=by
 intro pins s σ H D I h;refine wpAny_For (thn (hi pins s σ H _ I h) fun v s1 h1=>thn h1 fun itv s2 h2=>?_) hs
 obtain⟨it,fp,tn,J,H2,e,I2,T,st2,f2,W,⟨m0,w0⟩,turn⟩:=h2;subst e
 -- what stays true of the iterator's objects through the loop
 have stat:∀{H':Hp},(∀b∈fp,H' b=none)->∀b∈fp,a1E X pins H' b:=fun hn b hb=>⟨hn b hb,(f2 b hb).2⟩
 refine codeAny_forLoop_any (fun n s'=>∃i σ' H',Inv X pins σ' H' s'/\tn i s'.heap/\(∀b∈fp,H' b=none)/\W i n σ' H') ?_ m0 ⟨0,σ,H2,I2,st2,fun b hb=>(f2 b hb).1,w0⟩
 rintro n s3 ⟨i,σ3,H3,I3,st3,fr3,w3⟩
 rcases turn i n σ3 H3 w3 with⟨stop,qn⟩|⟨go,N,hN,step⟩
 · refine wpAny_passesOwn hp (thn (T.done X rfl rfl rfl hc i pins s3 σ3 H3 X.xe I3 (stat fr3) st3 stop) fun r s4 ⟨hr,I4⟩=>?_)
   subst hr;exact wpAny_execs_nil ⟨σ3,H3,I4,qn⟩
 · refine wpAny_passesOwn hp (thn (T.item X rfl rfl rfl hc i pins s3 σ3 H3 X.xe I3 (stat fr3) st3 go) fun r s4 ⟨u,hr,h4⟩=>?_)
   subst hr;refine wpAny_passesOwn hp (thn h4 fun _ s5 ⟨x,H5,I5,r5,y5,st5,fr5⟩=>?_)
   have I5':=I5.pinned (stat fr5) (T.obj _ _ st5)
   refine wpAny_passesOwn hp (thn (hg _ s5 σ3 H5 x u _ I5' r5 (step x H5 y5)) fun _ s6 ⟨σ6,H6,I6,q6⟩=>?_)
   refine wpAny_passesOwn hp (thn (hb _ s6 σ6 H6 _ I6 q6) fun f s7 q7=>?_)
   have again:∀{σ7:St} {H7:Hp},Inv X (pins++a2i fp s5.heap) σ7 H7 s7->N σ7 H7->∃m,m<n/\∃i σ' H',Inv X pins σ' H' s7/\tn i s7.heap/\(∀b∈fp,H' b=none)/\W i m σ' H':=fun{σ7 H7} I7 n7=>by
    obtain⟨m',hm,w7⟩:=hN σ7 H7 n7;refine⟨m',hm,i+1,σ7,H7,I7.unpinned,T.keep _ _ _ st5 fun b hb o e=>(I7.pin (b,o) (List.mem_append_right _ (List.mem_append_right _ (V1 hb e)))).1,fun b hb=>?_,w7⟩
    obtain⟨o,e,d⟩:=T.obj _ _ st5 b hb;exact(I7.pin (b,o) (List.mem_append_right _ (List.mem_append_right _ (V1 hb e)))).2.1
   cases f with
   |next=>obtain⟨σ7,H7,I7,n7⟩:=q7;exact again I7 n7
   |cont=>obtain⟨σ7,H7,I7,n7⟩:=q7;exact again I7 n7
   |brk=>obtain⟨σ7,H7,I7,q7⟩:=q7;exact⟨σ7,H7,I7.unpinned,q7⟩
   |ret v=>obtain⟨x7,σ7,H7,I7,r7,q7⟩:=q7;exact⟨x7,σ7,H7,I7.unpinned,r7,q7⟩
end
end L2
namespace L2
open PySem PySem.Spec PyProof.Rows
abbrev R2:=V->V->Hp->VK->Prop
def OpR(X:Cx)(f:Value->Value->Sem Value)(r:R2):Prop:=
 ∀(pins:List (Addr×Obj)) (s:Shared) (σ:St) (H:Hp) (x y:V) (v u:Value) (Q:VK),Inv X pins σ H s->n4 x v->n4 y u->r x y H Q→
  wpAny (model X.prog X.w) X.A (f v u) (EP X pins σ Q) X.xe s
def UnR(X:Cx)(f:Value->Sem Value)(r:V->Hp->VK->Prop):Prop:=
 ∀(pins:List (Addr×Obj)) (s:Shared) (σ:St) (H:Hp) (x:V) (v:Value) (Q:VK),Inv X pins σ H s->n4 x v->r x H Q→
  wpAny (model X.prog X.w) X.A (f v) (EP X pins σ Q) X.xe s
def D1(X:Cx)(f:Value)(r:List V->Hp->VK->Prop):Prop:=
 ∀(pins:List (Addr×Obj)) (s:Shared) (σ:St) (H:Hp) (xs:List V) (us:List Value) (Q:VK),Inv X pins σ H s->n8 xs us->r xs H Q→
  wpAny (model X.prog X.w) X.A (call f us) (EP X pins σ Q) X.xe s
def b9T(X:Cx)(r:V->Hp->(Bool->Hp->Prop)->Prop):Prop:=
 ∀(pins:List (Addr×Obj)) (s:Shared) (σ:St) (H:Hp) (x:V) (v:Value) (Q:Bool->Hp->Prop),Inv X pins σ H s->n4 x v->r x H Q→
  wpAny (model X.prog X.w) X.A (truthy v) (TP X pins σ Q) X.xe s
def tOp(r:R2)(ta tb:TE):TE:=fun σ H Q=>ta σ H fun x H1=>tb σ H1 fun y H2=>r x y H2 Q
def tUn(r:V->Hp->VK->Prop)(ta:TE):TE:=fun σ H Q=>ta σ H fun x H1=>r x H1 Q
def rI(C:Int->Int->Prop)(g:Int->Int->V):R2:=fun x y H Q=>∃i j,x=.int i/\y=.int j/\C i j/\Q (g i j) H
def rI0(g:Int->Int->V):R2:=fun x y H Q=>∃i j,x=.int i/\y=.int j/\Q (g i j) H
def rU(g:Int->V):V->Hp->VK->Prop:=fun x H Q=>∃i,x=.int i/\Q (g i) H
section
variable{X:Cx}{a b c:Expr}{ta tb tc:TE}{pos:Pos}
theorem b5M(ha:PE X a ta)(hb:PE X b tb){pins:List (Addr×Obj)}{s:Shared}{σ:St}{H:Hp}{R:V->V->Hp->Prop}(I:Inv X pins σ H s)
 (h:ta σ H fun x H1=>tb σ H1 fun y H2=>R x y H2) {Q:Value->Shared->Prop} {f:Value->Value->Sem Value}
 (hf:∀v u s2 x y H2,Inv X pins σ H2 s2->n4 x v->n4 y u->R x y H2->wpAny (model X.prog X.w) X.A (f v u) Q X.xe s2):
 wpAny (model X.prog X.w) X.A (eval a X.env) (fun v s₁=>wpAny (model X.prog X.w) X.A (eval b X.env) (fun u s₂=>wpAny (model X.prog X.w) X.A (f v u) Q X.xe s₂) X.xe s₁) X.xe s:=by
 refine thn (ha pins s σ H _ I h) fun v s1 ⟨x,H1,I1,r1,q1⟩=>?_
 refine thn (hb pins s1 σ H1 _ I1 q1) fun u s2 ⟨y,H2,I2,r2,q2⟩=>?_
 exact hf v u s2 x y H2 I2 r1 r2 q2
theorem b6W{op:Operator}{r:R2}(ho:OpR X (binaryOp op) r)(ha:PE X a ta)(hb:PE X b tb):PE X (.BinOp a op b pos) (tOp r ta tb):=by
 intro pins s σ H Q I h;exact wpAny_BinOp (b5M ha hb I h fun v u s2 x y H2 I2 rx ry q=>ho pins s2 σ H2 x y v u Q I2 rx ry q)
theorem b6U{op:UnaryOp}{r:V->Hp->VK->Prop}(ho:UnR X (unaryOp op) r)(ha:PE X a ta):PE X (.UnaryOp op a pos) (tUn r ta):=by
 intro pins s σ H Q I h;exact UnaryOp_ (thn (ha pins s σ H _ I h) fun v s1 ⟨x,H1,I1,r1,q1⟩=>ho pins s1 σ H1 x v Q I1 r1 q1)
theorem opI{f:Value->Value->Sem Value}{C:Int->Int->Prop}{g:Int->Int->Int}
 (rule:∀(i j:Int) (t u:Tok) (s:Shared) (Q:Value->Shared->Prop) (E:Value->Shared->Prop),C i j->Q (.int (g i j) s.toks) {s with toks:=s.toks+1}->wpAny (model X.prog X.w) X.A (f (.int i t) (.int j u)) Q E s):
 OpR X f (rI C fun i j=>.int (g i j)):=by
 intro pins s σ H x y v u Q I rx ry h;obtain⟨i,j,rfl,rfl,hc,q⟩:=h;obtain⟨t,rfl⟩:=rx;obtain⟨t',rfl⟩:=ry;exact rule i j t t' s _ _ hc ⟨.int (g i j),H,I.tok _,⟨_,rfl⟩,q⟩
theorem b7f{f:Value->Value->Sem Value}{g:Int->Int->Int}
 (rule:∀(i j:Int) (t u:Tok) (s:Shared) (Q:Value->Shared->Prop) (E:Value->Shared->Prop),Q (.int (g i j) s.toks) {s with toks:=s.toks+1}->wpAny (model X.prog X.w) X.A (f (.int i t) (.int j u)) Q E s):
 OpR X f (rI0 fun i j=>.int (g i j)):=by
 intro pins s σ H x y v u Q I rx ry h;obtain⟨i,j,rfl,rfl,q⟩:=h;obtain⟨t,rfl⟩:=rx;obtain⟨t',rfl⟩:=ry;exact rule i j t t' s _ _ ⟨.int (g i j),H,I.tok _,⟨_,rfl⟩,q⟩
theorem b2m{f:Value->Value->Sem Value}{g:Int->Int->Bool}
 (rule:∀(i j:Int) (t u:Tok) (s:Shared) (Q:Value->Shared->Prop) (E:Value->Shared->Prop),Q (.bool (g i j)) s->wpAny (model X.prog X.w) X.A (f (.int i t) (.int j u)) Q E s):
 OpR X f (rI0 fun i j=>.bl (g i j)):=by
 intro pins s σ H x y v u Q I rx ry h;obtain⟨i,j,rfl,rfl,q⟩:=h;obtain⟨t,rfl⟩:=rx;obtain⟨t',rfl⟩:=ry;exact rule i j t t' s _ _ ⟨.bl (g i j),H,I,rfl,q⟩
def b9Y(i j:Int):Prop:=0<j/\j<1073741824
def b6i(i j:Int):Prop:=(-(2^64)<i/\i<2^64)∨(-(2^64)<j/\j<2^64)
theorem b6i.ok{i j:Int}(h:b6i i j):IntMulOk i j:=by
 rcases h with⟨h1,h2⟩|⟨h1,h2⟩
 · exact .of_left (intBits_le_64 h1 h2)
 · exact .of_right (intBits_le_64 h1 h2)
theorem b4H:OpR X (binaryOp .Add) (rI0 fun i j=>.int (i+j)):=b7f fun _ _ _ _ _ _ _ q=>add_int q
theorem b4x:OpR X (binaryOp .Sub) (rI0 fun i j=>.int (i-j)):=b7f fun _ _ _ _ _ _ _ q=>sub_int q
theorem b4B:OpR X (binaryOp .Mult) (rI b6i fun i j=>.int (i*j)):=opI fun _ _ _ _ _ _ _ hc q=>mul_int q hc.ok
theorem b2l:OpR X (binaryOp .FloorDiv) (rI b9Y fun i j=>.int (i/j)):=opI fun i j _ _ _ _ _ hc q=>by
 have h1:(0:Int)<j:=hc.1
 have h2:j<1073741824:=hc.2
 exact floordiv_int (by omega) (by rw[Int.fdiv_eq_ediv_of_nonneg i (by omega)];exact q) (.inl (PyProof.noPylong_small (by omega)))
theorem b4C:OpR X (binaryOp .Mod) (rI (fun _ j=>0<j) fun i j=>.int (i%j)):=opI fun i j _ _ _ _ _ hc q=>by
 have h1:(0:Int)<j:=hc
 exact mod_int' (by omega) (by rw[Int.fmod_eq_emod_of_nonneg i (by omega)];exact q)
theorem unI{f:Value->Sem Value}{g:Int->Int}
 (rule:∀(i:Int) (t:Tok) (s:Shared) (Q:Value->Shared->Prop) (E:Value->Shared->Prop),Q (.int (g i) s.toks) {s with toks:=s.toks+1}->wpAny (model X.prog X.w) X.A (f (.int i t)) Q E s):
 UnR X f (rU fun i=>.int (g i)):=by
 intro pins s σ H x v Q I rx h;obtain⟨i,rfl,q⟩:=h;obtain⟨t,rfl⟩:=rx;exact rule i t s _ _ ⟨.int (g i),H,I.tok _,⟨_,rfl⟩,q⟩
theorem b3G:UnR X (unaryOp .USub) (rU fun i=>.int (-i)):=unI fun _ _ _ _ _ q=>neg_int q
end
def scal:V->V->Bool
 |.non,.non=>true|.non,.int _=>true|.int _,.non=>true|.non,.bl _=>true|.bl _,.non=>true|.non,.str _=>true|.str _,.non=>true
 |.int _,.int _=>true|.bl _,.bl _=>true|.str _,.str _=>true|.byt _,.byt _=>true
 |.int _,.str _=>true|.str _,.int _=>true|.bl _,.str _=>true|.str _,.bl _=>true
 |_,_=>false
def rEq:R2:=fun x y H Q=>scal x y=true/\Q (.bl (decide (x=y))) H
def rNe:R2:=fun x y H Q=>scal x y=true/\Q (.bl (!decide (x=y))) H
theorem a7t{i j:Int}:decide (V.int i=V.int j)=(i==j):=by
 rw[Bool.eq_iff_iff];simp
theorem b0A{i j:Bool}:decide (V.bl i=V.bl j)=(i==j):=by
 rw[Bool.eq_iff_iff];simp
theorem a7s{i j:Str}:decide (V.str i=V.str j)=(i==j):=by
 rw[Bool.eq_iff_iff];simp
theorem a7u{i j:Array UInt8}:decide (V.byt i=V.byt j)=(i.toList==j.toList):=by
 rw[Bool.eq_iff_iff];cases i;cases j;simp
section
variable{X:Cx}{a b c:Expr}{ta tb tc:TE}{pos:Pos}
theorem o7{pins:List (Addr×Obj)}{σ:St}{H:Hp}{s:Shared}{Q:VK}{k k':Bool}(I:Inv X pins σ H s)(q:Q (.bl k) H)(e:k=k'):EP X pins σ Q (.bool k') s:=by
 subst e;exact⟨.bl k,H,I,rfl,q⟩
theorem b7e:OpR X (compareOp .Eq) rEq:=by
 intro pins s σ H x y v u Q I rx ry h;obtain⟨hs,q⟩:=h
 cases x with
 |non=>
  cases rx
  cases y with
  |non=>cases ry;exact PySem.EqNone.eq_none_none (o7 I q (by simp))
  |bl j=>cases ry;exact PySem.EqNone.eq_none_bool (o7 I q (by simp))
  |int j=>obtain⟨t',rfl⟩:=ry;exact PySem.EqNone.eq_none_int (o7 I q (by simp))
  |str j=>obtain⟨t',rfl⟩:=ry;exact PySem.EqNone.eq_none_str (o7 I q (by simp))
  |_=>exact absurd (show false=true from hs) Bool.false_ne_true
 |bl i=>
  cases rx
  cases y with
  |non=>cases ry;exact PySem.EqNone.eq_bool_none (o7 I q (by simp))
  |bl j=>cases ry;exact eq_bool (o7 I q b0A)
  |str j=>obtain⟨t',rfl⟩:=ry;exact PySem.EqMixed.eq_bool_str (o7 I q (by simp))
  |_=>exact absurd (show false=true from hs) Bool.false_ne_true
 |int i=>
  obtain⟨t,rfl⟩:=rx
  cases y with
  |non=>cases ry;exact PySem.EqNone.eq_int_none (o7 I q (by simp))
  |int j=>obtain⟨t',rfl⟩:=ry;exact eq_int (o7 I q a7t)
  |str j=>obtain⟨t',rfl⟩:=ry;exact PySem.EqMixed.eq_int_str (o7 I q (by simp))
  |_=>exact absurd (show false=true from hs) Bool.false_ne_true
 |str i=>
  obtain⟨t,rfl⟩:=rx
  cases y with
  |non=>cases ry;exact PySem.EqNone.eq_str_none (o7 I q (by simp))
  |bl j=>cases ry;exact PySem.EqMixed.eq_str_bool (o7 I q (by simp))
  |int j=>obtain⟨t',rfl⟩:=ry;exact PySem.EqMixed.eq_str_int (o7 I q (by simp))
  |str j=>obtain⟨t',rfl⟩:=ry;exact eq_str (o7 I q a7s)
  |_=>exact absurd (show false=true from hs) Bool.false_ne_true
 |byt i=>
  obtain⟨t,rfl⟩:=rx
  cases y with
  |byt j=>obtain⟨t',rfl⟩:=ry;exact PySem.W.eq_bytes (o7 I q a7u)
  |_=>exact absurd (show false=true from hs) Bool.false_ne_true
 |_=>cases y<;>exact absurd (show false=true from hs) Bool.false_ne_true
theorem b6Z:OpR X (compareOp .NotEq) rNe:=by
 intro pins s σ H x y v u Q I rx ry h;obtain⟨hs,q⟩:=h
 cases x with
 |non=>
  cases rx
  cases y with
  |non=>cases ry;exact PySem.EqNone.ne_none_none (o7 I q (by simp))
  |bl j=>cases ry;exact PySem.EqNone.ne_none_bool (o7 I q (by simp))
  |int j=>obtain⟨t',rfl⟩:=ry;exact PySem.EqNone.ne_none_int (o7 I q (by simp))
  |str j=>obtain⟨t',rfl⟩:=ry;exact PySem.EqNone.ne_none_str (o7 I q (by simp))
  |_=>exact absurd (show false=true from hs) Bool.false_ne_true
 |bl i=>
  cases rx
  cases y with
  |non=>cases ry;exact PySem.EqNone.ne_bool_none (o7 I q (by simp))
  |bl j=>cases ry;exact ne_bool (o7 I q (congrArg not b0A))
  |str j=>obtain⟨t',rfl⟩:=ry;exact PySem.EqMixed.ne_bool_str (o7 I q (by simp))
  |_=>exact absurd (show false=true from hs) Bool.false_ne_true
 |int i=>
  obtain⟨t,rfl⟩:=rx
  cases y with
  |non=>cases ry;exact PySem.EqNone.ne_int_none (o7 I q (by simp))
  |int j=>obtain⟨t',rfl⟩:=ry;exact ne_int (o7 I q (congrArg not a7t))
  |str j=>obtain⟨t',rfl⟩:=ry;exact PySem.EqMixed.ne_int_str (o7 I q (by simp))
  |_=>exact absurd (show false=true from hs) Bool.false_ne_true
 |str i=>
  obtain⟨t,rfl⟩:=rx
  cases y with
  |non=>cases ry;exact PySem.EqNone.ne_str_none (o7 I q (by simp))
  |bl j=>cases ry;exact PySem.EqMixed.ne_str_bool (o7 I q (by simp))
  |int j=>obtain⟨t',rfl⟩:=ry;exact PySem.EqMixed.ne_str_int (o7 I q (by simp))
  |str j=>obtain⟨t',rfl⟩:=ry;exact ne_str (o7 I q (congrArg not a7s))
  |_=>exact absurd (show false=true from hs) Bool.false_ne_true
 |byt i=>
  obtain⟨t,rfl⟩:=rx
  cases y with
  |byt j=>obtain⟨t',rfl⟩:=ry;exact PySem.W.ne_bytes (o7 I q (congrArg not a7u))
  |_=>exact absurd (show false=true from hs) Bool.false_ne_true
 |_=>cases y<;>exact absurd (show false=true from hs) Bool.false_ne_true
theorem b7a:OpR X (compareOp .Lt) (rI0 fun i j=>.bl (decide (i<j))):=b2m fun _ _ _ _ _ _ _ q=>lt_int q
theorem b7b:OpR X (compareOp .LtE) (rI0 fun i j=>.bl (decide (i<=j))):=b2m fun _ _ _ _ _ _ _ q=>le_int q
theorem b7c:OpR X (compareOp .Gt) (rI0 fun i j=>.bl (decide (j<i))):=b2m fun _ _ _ _ _ _ _ q=>gt_int q
theorem b7d:OpR X (compareOp .GtE) (rI0 fun i j=>.bl (decide (j<=i))):=b2m fun _ _ _ _ _ _ _ q=>ge_int q
theorem a7U:OpR X (compareOp .In) (fun x y H Q=>∃i j,x=.str i/\y=.str j/\Q (.bl (!(Builtin.Str.occurrences j i 0 j.length 1).isEmpty)) H):=by
 intro pins s σ H x y v u Q I rx ry h;obtain⟨i,j,rfl,rfl,q⟩:=h;obtain⟨t,rfl⟩:=rx;obtain⟨t',rfl⟩:=ry;exact in_str (o7 I q rfl)
theorem OpR.or{f:Value->Value->Sem Value}{r r':R2}(h:OpR X f r)(h':OpR X f r'):OpR X f (fun x y H Q=>r x y H Q∨r' x y H Q):=by
 intro pins s σ H x y v u Q I rx ry q
 rcases q with q|q
 · exact h pins s σ H x y v u Q I rx ry q
 · exact h' pins s σ H x y v u Q I rx ry q
theorem a3V{op:CmpOp}{r:R2}(ho:OpR X (compareOp op) r)(ha:PE X a ta)(hb:PE X b tb)(hm:behindInMarks op b=false):PE X (.Compare a [op] [b] pos) (tOp r ta tb):=by
 intro pins s σ H Q I h;exact wpAny_Compare1 (b5M ha hb I h fun v u s2 x y H2 I2 rx ry q=>ho pins s2 σ H2 x y v u Q I2 rx ry q) hm
def a8H(t:TE):TT:=fun σ H Q=>t σ H fun x H'=>∃k,x=.bl k/\Q k H'
theorem a3U{op:CmpOp}{r:R2}(ho:OpR X (compareOp op) r)(ha:PE X a ta)(hb:PE X b tb)(hm:behindInMarks op b=false):PT X (.Compare a [op] [b] pos) (a8H (tOp r ta tb)):=by
 intro pins s σ H Q I h
 refine wpAny_isTrue_Compare1 (thn (ha pins s σ H _ I h) fun v s1 ⟨x,H1,I1,r1,q1⟩=>thn (hb pins s1 σ H1 _ I1 q1) fun u s2 ⟨y,H2,I2,r2,q2⟩=>
  thn (ho pins s2 σ H2 x y v u _ I2 r1 r2 q2) fun c s3 ⟨z,H3,I3,r3,k,e,q3⟩=>?_) hm
 subst e;cases r3;exact wpAny_truthy_bool ⟨H3,I3,q3⟩
def a5X(r r':R2)(ta tb tc:TE):TE:=fun σ H Q=>ta σ H fun x H1=>tb σ H1 fun y H2=>r x y H2 fun z H3=>∃k,z=.bl k∧
 (if k=true then tc σ H3 fun w' H4=>r' y w' H4 Q else Q (.bl false) H3)
theorem a9t{op op':CmpOp}{r r':R2}(ho:OpR X (compareOp op) r)(ho':OpR X (compareOp op') r')(ha:PE X a ta)(hb:PE X b tb)(hc:PE X c tc)
 (hm:lastMarks [op,op'] [b,c]=false:=by with_unfolding_all rfl):PE X (.Compare a [op,op'] [b,c] pos) (a5X r r' ta tb tc):=by
 intro pins s σ H Q I h
 refine Compare_chain (thn (ha pins s σ H _ I h) fun v s1 ⟨x,H1,I1,r1,q1⟩=>chain_link (thn (hb pins s1 σ H1 _ I1 q1) fun u s2 ⟨y,H2,I2,r2,q2⟩=>
  thn (ho pins s2 σ H2 x y v u _ I2 r1 r2 q2) fun d s3 ⟨z,H3,I3,r3,k,e,q3⟩=>?_)) hm
 subst e;cases r3;refine wpAny_truthy_bool ?_
 cases k with
 |false=>exact ite_ff ⟨.bl false,H3,I3,rfl,q3⟩
 |true=>exact ite_tt (chain_last (thn (hc pins s3 σ H3 _ I3 q3) fun w' s4 ⟨z',H4,I4,r4,q4⟩=>ho' pins s4 σ H4 y z' u w' Q I4 r2 r4 q4))
theorem a9d{op op':CmpOp}{r r':R2}(ho:OpR X (compareOp op) r)(ho':OpR X (compareOp op') r')(ha:PE X a ta)(hb:PE X b tb)(hc:PE X c tc)
 (hm:lastMarks [op,op'] [b,c]=false:=by with_unfolding_all rfl):PT X (.Compare a [op,op'] [b,c] pos) (a8H (a5X r r' ta tb tc)):=by
 intro pins s σ H Q I h
 refine isTrue_chain (thn (ha pins s σ H _ I h) fun v s1 ⟨x,H1,I1,r1,q1⟩=>test_link (thn (hb pins s1 σ H1 _ I1 q1) fun u s2 ⟨y,H2,I2,r2,q2⟩=>
  thn (ho pins s2 σ H2 x y v u _ I2 r1 r2 q2) fun d s3 ⟨z,H3,I3,r3,k,e,q3⟩=>?_)) hm
 subst e;cases r3;refine wpAny_truthy_bool ?_
 cases k with
 |false=>
  obtain⟨k',e',q'⟩:=q3;cases e';exact ite_ff ⟨H3,I3,q'⟩
 |true=>
  refine ite_tt (test_last (thn (hc pins s3 σ H3 _ I3 q3) fun w' s4 ⟨z',H4,I4,r4,q4⟩=>thn (ho' pins s4 σ H4 y z' u w' _ I4 r2 r4 q4) fun d' s5 ⟨z2,H5,I5,r5,k2,e2,q5⟩=>?_))
  subst e2;cases r5;exact wpAny_truthy_bool ⟨H5,I5,q5⟩
def b8O(K:PySem.W.Frag)(x:V)(H:Hp)(k:Bool):Prop:=
 match x with
 |.non=>k=false
 |.bl b=>k=b
 |.int i=>k=(i !=0)
 |.str y=>y.length<=sizeLine/\k=((y.length:Int) !=0)
 |.byt y=>y.size<=sizeLine/\k=((y.size:Int) !=0)
 |.ref p=>(∃xs,SqL K H p xs/\k=!xs.isEmpty)∨(∃xs,SqT K H p xs/\k=!xs.isEmpty)∨∃kvs,H p=some (.dK kvs)/\k=!kvs.isEmpty
 |_=>False
theorem a6p{κ:Type}{kvs:List (κ×V)}{vs:List (κ×Value)}(r:KV kvs vs):(!vs.isEmpty)=!kvs.isEmpty:=by
 cases r<;>rfl
theorem a2y{xs:List V}{its:List Value}(r:n8 xs its):(!its.toArray.isEmpty)=!xs.isEmpty:=by
 cases r<;>simp
theorem a0y:(sizeLine:Nat)<2^63:=by rw[sizeLine_eq];decide
theorem b3L:b9T X (fun x H Q=>∃k,b8O X.K x H k/\Q k H):=by
 intro pins s σ H x v Q I rx h;obtain⟨k,e,q⟩:=h;have hl:=a0y
 have hs:sizeLine=16777216:=sizeLine_eq
 cases x with
 |non=>
  cases rx
  have e':k=false:=e
  subst e';exact truthy_none ⟨H,I,q⟩
 |bl b=>
  cases rx
  have e':k=b:=e
  subst e';exact wpAny_truthy_bool ⟨H,I,q⟩
 |int i=>
  obtain⟨t,rfl⟩:=rx
  have e':k=(i !=0):=e
  subst e';exact PySem.P.truthy_int ⟨H,I,q⟩
 |str y=>
  obtain⟨t,rfl⟩:=rx;obtain⟨hy,e'⟩:y.length<=sizeLine/\k=((y.length:Int) !=0):=e;subst e';exact PySem.P.truthy_str (by omega) ⟨H,I.tok _,q⟩
 |byt y=>
  obtain⟨t,rfl⟩:=rx;obtain⟨hy,e'⟩:y.size<=sizeLine/\k=((y.size:Int) !=0):=e;subst e';exact PySem.W.truthy_bytes (by omega) ⟨H,I.tok _,q⟩
 |ref p=>
  cases rx
  have e':(∃xs,SqL X.K H p xs/\k=!xs.isEmpty)∨(∃xs,SqT X.K H p xs/\k=!xs.isEmpty)∨∃kvs,H p=some (.dK kvs)/\k=!kvs.isEmpty:=e
  rcases e' with⟨xs,hx,e'⟩|⟨xs,hx,e'⟩|⟨kvs,hx,e'⟩
  · subst e';obtain⟨its,r,pl,hz⟩:=I.list hx;have hlen:=r.length;exact wpAny_truthy_list pl.isList (by simp only[List.size_toArray];omega) ⟨H,I.tok _,by rw[a2y r];exact q⟩
  · subst e';obtain⟨its,r,pl,hz⟩:=I.tuple hx;have hlen:=r.length;exact truthy_tuple pl (by simp only[List.size_toArray];omega) ⟨H,I.tok _,by rw[a2y r];exact q⟩
  · subst e';obtain⟨hz,hS,vs,r,m⟩:kvs.length<=sizeLine/\(p==sysModules)=false/\∃vs,KV kvs vs/\s.heap.DictOf (u5 X.prog X.w) p vs:=I.hok p _ hx
    have hlen:kvs.length=vs.length:=Paired.length r
    exact wpAny_truthy_dict hS m (by omega) ⟨H,I.tok _,by rw[a6p r];exact q⟩
 |_=>exact(show False from e).elim
theorem a9a(ha:PE X a ta)(he:∀whole,isTrue a X.env whole=(do let v←whole;standAt a.pos;holding [v] (truthy v))):
 PT X a (fun σ H Q=>ta σ H fun x H'=>∃k,b8O X.K x H' k/\Q k H'):=by
 intro pins s σ H Q I h;exact isTrue_plain (thn (ha pins s σ H _ I h) fun v s1 ⟨x,H1,I1,r1,q1⟩=>b3L pins s1 σ H1 x v Q I1 r1 q1) (he _)
theorem a6e:OpR X (binaryOp .Add) (fun x y H Q=>∃i j,x=.str i/\y=.str j/\i.length+j.length<=sizeLine/\Q (.str (i++j)) H):=by
 intro pins s σ H x y v u Q I rx ry h;obtain⟨i,j,rfl,rfl,hz,q⟩:=h;obtain⟨t,rfl⟩:=rx;obtain⟨t',rfl⟩:=ry;exact add_str (fun t' tk=>⟨.str (i++j),H,I.tok _,⟨_,rfl⟩,q⟩) hz
theorem O8{x:V}{us:List Value}(r:n8 [x] us):∃u,us=[u]/\n4 x u:=by
 cases r with
 |cons r1 r2=>cases r2;exact⟨_,rfl,r1⟩
theorem a4S{x y:V}{us:List Value}(r:n8 [x,y] us):∃u w',us=[u,w']/\n4 x u/\n4 y w':=by
 cases r with
 |cons r1 r2=>
  cases r2 with
  |cons r3 r4=>cases r4;exact⟨_,_,rfl,r1,r3⟩
theorem a8s(hc:X.calm=true):D1 X (.builtin "max") (fun xs H Q=>∃i j,xs=[.int i,.int j]/\Q (.int (if j>i then j else i)) H):=by
 intro pins s σ H xs us Q I r h;obtain⟨i,j,rfl,q⟩:=h;obtain⟨u,w',rfl,⟨t,rfl⟩,⟨t',rfl⟩⟩:=a4S r;refine max_two_ints (I.ok.hd hc) fun h' tk k=>⟨_,H,I.kept k,?_,q⟩
 by_cases hj:j>i
 · rw[if_pos hj,if_pos hj];exact⟨_,rfl⟩
 · rw[if_neg hj,if_neg hj];exact⟨_,rfl⟩
theorem a3A:D1 X (.type "int") (fun xs H Q=>(∃i,xs=[.int i]/\Q (.int i) H)∨∃k,xs=[.bl k]/\Q (.int (if k then 1 else 0)) H):=by
 intro pins s σ H xs us Q I r h
 rcases h with⟨i,rfl,q⟩|⟨k,rfl,q⟩
 · obtain⟨u,rfl,t,rfl⟩:=O8 r;exact call_int_int ⟨.int i,H,I,⟨_,rfl⟩,q⟩
 · obtain⟨u,rfl,r1⟩:=O8 r;cases r1;exact call_int_bool ⟨.int (if k then 1 else 0),H,I.tok _,⟨_,rfl⟩,q⟩
theorem a4F:D1 X (.type "str") (fun xs H Q=>∃i,xs=[.int i]/\i.natAbs.log2<1920/\Q (.str (toString i)) H):=by
 intro pins s σ H xs us Q I r h;obtain⟨i,rfl,hz,q⟩:=h;obtain⟨u,rfl,t,rfl⟩:=O8 r;exact PySem.P.str_of_int hz ⟨.str _,H,I.tok _,⟨_,rfl⟩,q⟩
end
end L2
namespace L2
open PySem PySem.Spec PyProof.Rows
structure ObjM(h:Heap)(x dx C:Addr)(mA:Str->Option Value):Prop where
 obj:h.get? x=some (PySem.W.instObj C dx)
 ns:h.Ns1 dx mA
 ne:dx≠x
theorem a8a{h:Heap}{dx:Addr}{mA:Str->Option Value}(n:h.Ns1 dx mA):∃od,h.get? dx=some od/\∀name,PySem.W.lookIn name od=some (mA name):=by
 obtain⟨o,es,ep,ho,hd,hk,_,hm⟩:=n;refine⟨o,ho,fun name=>?_⟩
 have e:=hm name;unfold nsFind findBy at e;rw[←Array.find?_toList] at e
 unfold PySem.W.lookIn;rw[hd]
 dsimp only
 split
 · rename_i y q;rw[q] at e;exact congrArg some e
 · rename_i q;rw[q] at e
   have a:es.toList.any (·.refKey)=false:=by
    rw[List.any_eq_false];intro y hy;obtain⟨z,t,hkey⟩:=hk y (Array.mem_toList_iff.mp hy);simp[DictEntry.refKey,hkey]
   have a':¬es.toList.any (·.refKey)=true:=by rw[a];exact Bool.false_ne_true
   rw[if_neg a'];exact congrArg some e
theorem ObjM.look{h:Heap}{x dx C:Addr}{mA:Str->Option Value}(I:ObjM h x dx C mA):∃od,PySem.W.InstAt h x (PySem.W.instObj C dx) C (some od)/\∀name,PySem.W.lookIn name od=some (mA name):=
 let⟨od,ho,hl⟩:=a8a I.ns
 ⟨od,⟨I.obj,rfl,rfl,ho⟩,hl⟩
section
variable{prog:Program}{w:World}{A:Around}{E:Value->Shared->Prop}{s:Shared}{K:PySem.W.Frag}{x dx C f:Addr}{mA:Str->Option Value}{name:Str}{v:Value}
theorem b2J{expr:Bool}{Q:Value->Shared->Prop}(X:K.In s.heap)(I:ObjM s.heap x dx C mA)(hg:PySem.W.plainGet K C name=true)(hh:PySem.W.hasDictIn K C=true)
 (ha:PySem.W.findIn K (.ref C) name=some none) (hv:mA name=some v) (hv':PySem.W.handedIn v=true) (h:Q v {s with toks:=s.toks+1}):
 wpAny (model prog w) A (getAttr (.ref x) name expr) Q E s:=by
 obtain⟨od,J,hl⟩:=I.look;exact PySem.W.get_value X J (PySem.W.plainGet_of hg).1 (PySem.W.findObj_own hh ha rfl (by rw[hl,hv])) hv' h
theorem b1N{ns:List Str}{Q:Unit->Shared->Prop}(X:K.In s.heap)(I:ObjM s.heap x dx C mA)
 (hs:PySem.W.findIn K (.ref C) "__setattr__"=some (some (.builtin "object.__setattr__"))) (hp:PySem.W.plainOver K C=true) (ht:PySem.W.takerIn K C name=some none) (hh:PySem.W.hasDictIn K C=true)
 (hw:PySem.Within mA ns) (hsz:ns.length<=sizeLine)
 (h:∀h',ObjM h' x dx C (fun y=>if y=name then some v else mA y)->Heap.SameBut dx s.heap h'->Q () {s with heap:=h',toks:=s.toks+2}):
 wpAny (model prog w) A (setAttr (.ref x) name v) Q E s:=by
 obtain⟨od,J,hl⟩:=I.look;refine PySem.W.set_plain X J hs (PySem.W.osa_open (s:={s with toks:=s.toks+1}) (r:=none) X J hp ht fun b=>?_)
 obtain⟨cd,hc,hd'⟩:=PySem.W.any_some hh
 have hx:s.heap.get? x=some ⟨.ref C,some dx,.plain,#[]⟩:=I.obj
 refine wpAny_bind (wpAny_pure (wpAny_bind (wpAny_bind (wpAny_loadPart hx (wpAny_bind (PySem.W.Looks.here (s:={s with toks:=s.toks+1}) (PySem.W.looks_clsIn X hc) ?_))))))
 rw[hd'];refine wpAny_pure (a:=some dx) (wpAny_bind (wpAny_pure (wpAny_bind ?_)))
 refine wpAny_nsSet1 (s:={s with toks:=s.toks+1}) I.ns fun h' hn2 hs2=>?_
 obtain⟨oD,esD,epD,hoD,hdD,hcD⟩:=hn2.count (PySem.Within.cons name v hw);refine wpAny_bind (wpAny_lookBehind hoD (by rw[hdD];exact pastItsLine_dict (Nat.le_trans hcD (by rw[List.length_cons];omega))) ?_)
 exact wpAny_pure (h _ ⟨(hs2.2 _ (Ne.symm I.ne)).trans I.obj,hn2,I.ne⟩ hs2)
theorem a9E{R:Result->Shared->Prop}{vs:List Value}{kw:List (Str×Value)}(X:K.In s.heap)(hm:PySem.W.makesIn K C=true)
 (hi:PySem.W.findIn K (.ref C) "__init__"=some (some (.ref f))) (hf:PySem.W.typeIn K (.ref f)=some (.type "function"))
 (h:codeAny (model prog w) (A.under (.builtin "type.__call__" ⟨.ref C::vs,kw⟩)) (.call (.ref f) ⟨.ref (s.heap.objs.size+1)::vs,kw⟩) (PySem.W.InitBack (s.heap.objs.size+1) R)
  {s with heap:=(s.heap.push PySem.W.emptyDict).push (PySem.W.instObj C s.heap.objs.size)}):
 codeAny (model prog w) A (.call (.ref C) ⟨vs,kw⟩) R s:=by
 obtain⟨hh,g,d,t,os⟩:=s;exact PySem.W.make_core (PySem.W.makes_of X hm) (PySem.W.looks_findIn X hi) (fun self=>PySem.W.bind_fn X self hf) (.inl rfl) h
end
def U7(f:Str)(v:V):List (Str×V)->List (Str×V)
 |[]=>[(f,v)]
 |(g,x)::r=>if g=f then(g,v)::r else(g,x)::U7 f v r
theorem a1u(f g:Str)(v:V):∀fs:List (Str×V),(U7 f v fs).lookup g=if g=f then some v else fs.lookup g
 |[]=>by
  show List.lookup g [(f,v)]=_
  by_cases h:g=f
  · have hb:(g==f)=true:=beq_iff_eq.mpr h
    simp only[List.lookup,hb,if_pos h]
  · have hb:(g==f)=false:=beq_eq_false_iff_ne.mpr h
    simp only[List.lookup,hb,if_neg h]
 | (k,x)::r=>by
  have ih:=a1u f g v r;rw[show U7 f v ((k,x)::r)=(if k=f then(k,v)::r else(k,x)::U7 f v r) from rfl]
  by_cases hk:k=f
  · rw[if_pos hk]
    by_cases h:g=k
    · have hb:(g==k)=true:=beq_iff_eq.mpr h
      simp only[List.lookup,hb,if_pos (h.trans hk)]
    · have hb:(g==k)=false:=beq_eq_false_iff_ne.mpr h
      simp only[List.lookup,hb,if_neg (fun e:g=f=>h (e.trans hk.symm))]
  · rw[if_neg hk]
    by_cases h:g=k
    · have hb:(g==k)=true:=beq_iff_eq.mpr h
      simp only[List.lookup,hb,if_neg (fun e:g=f=>hk (h.symm.trans e))]
    · have hb:(g==k)=false:=beq_eq_false_iff_ne.mpr h
      simp only[List.lookup,hb];exact ih
theorem a1f(f:Str)(v:V):∀fs:List (Str×V),f∈(U7 f v fs).map (·.1)/\∀g,g∈fs.map (·.1)->g∈(U7 f v fs).map (·.1)
 |[]=>⟨by simp[U7],fun g h=>by simp at h⟩
 | (k,x)::r=>by
  obtain⟨i1,i2⟩:=a1f f v r;rw[show U7 f v ((k,x)::r)=(if k=f then(k,v)::r else(k,x)::U7 f v r) from rfl]
  by_cases hk:k=f
  · rw[if_pos hk];subst hk;exact⟨by simp,fun g h=>by simpa using h⟩
  · rw[if_neg hk];refine⟨?_,fun g h=>?_⟩
    · rw[List.map_cons];exact List.mem_cons_of_mem _ i1
    · rw[List.map_cons] at h⊢
      rcases List.mem_cons.mp h with e|e
      · exact List.mem_cons.mpr (.inl e)
      · exact List.mem_cons_of_mem _ (i2 g e)
theorem a1v(f:Str)(v:V):∀fs:List (Str×V),(U7 f v fs).length<=fs.length+1
 |[]=>by simp[U7]
 |(k,x)::r=>by
  have ih:=a1v f v r;rw[show U7 f v ((k,x)::r)=(if k=f then(k,v)::r else(k,x)::U7 f v r) from rfl]
  by_cases hk:k=f
  · rw[if_pos hk,List.length_cons,List.length_cons];omega
  · rw[if_neg hk,List.length_cons,List.length_cons];omega
theorem a0h.some_of{v:V}{o:Option Value}(r:a0h (some v) o):∃u,o=some u/\n4 v u:=by
 cases o with
 |none=>exact(show False from r).elim
 |some u=>exact⟨u,rfl,r⟩
theorem a8i{v:V}{u:Value}(r:n4 v u):PySem.W.handedIn u=true:=by
 cases v with
 |non=>cases (show u=Value.none from r);rfl
 |bl b=>cases (show u=Value.bool b from r);rfl
 |int i=>obtain⟨t,e⟩:=(show∃t,u=Value.int i t from r);cases e;rfl
 |str x=>obtain⟨t,e⟩:=(show∃t,u=Value.str x t from r);cases e;rfl
 |byt b=>obtain⟨t,e⟩:=(show∃t,u=Value.bytes b t from r);cases e;rfl
 |flt b=>obtain⟨t,e⟩:=(show∃t,u=Value.float b t from r);cases e;rfl
 |ref a=>cases (show u=Value.ref a from r);rfl
 |ty n=>cases (show u=Value.type n from r);rfl
section
variable{P:Program}{w:World}{H H':Hp}{h h':Heap}{a C dx:Addr}{fs fs':List (Str×V)}
theorem a4l(hok:HOk P w H h)(e:H a=some (.ins C dx fs)):∃mA,ObjM h a dx C mA/\(∀f,a0h (fs.lookup f) (mA f))/\PySem.Within mA (fs.map (·.1))/\fs.length<=1000/\H dx=some (.own a):=by
 obtain⟨d,z,ne,ob,mA,n,r,q⟩:=(show x3 P w H h a (.ins C dx fs) from hok a _ e);exact⟨mA,⟨ob,n,ne⟩,r,q,z,d⟩
end
structure Cls(K:PySem.W.Frag)(C:Addr):Prop where
 pg:PySem.W.plainGet K C Str.empty=true
 hd:PySem.W.hasDictIn K C=true
 po:PySem.W.plainOver K C=true
 sa:PySem.W.findIn K (.ref C) "__setattr__"=some (some (.builtin "object.__setattr__"))
theorem Cls.get{K:PySem.W.Frag}{C:Addr}(c:Cls K C)(f:Str):PySem.W.plainGet K C f=true:=c.pg
def Z0(K:PySem.W.Frag)(C:Addr)(f:Str):Prop:=PySem.W.findIn K (.ref C) f=some none
theorem Z0.taker{K:PySem.W.Frag}{C:Addr}{f:Str}(n:Z0 K C f):PySem.W.takerIn K C f=some none:=by
 unfold PySem.W.takerIn;rw[show PySem.W.findIn K (.ref C) f=some none from n];rfl
section
variable{X:Cx}{pins:List (Addr×Obj)}{σ:St}{H:Hp}{s:Shared}{a C dx:Addr}{fs:List (Str×V)}{f:Str}{v:V}{A:Around}{E:Value->Shared->Prop}
theorem a6s{b:Bool}{Q:Value->Shared->Prop}(I:Inv X pins σ H s)(e:H a=some (.ins C dx fs))(c:Cls X.K C)(n:Z0 X.K C f)(l:fs.lookup f=some v)
 (h:∀u s',Inv X pins σ H s'->n4 v u->Q u s'):wpAny (model X.prog X.w) A (getAttr (.ref a) f b) Q E s:=by
 obtain⟨mA,O,r,_,_,_⟩:=a4l I.hok e;obtain⟨u,hu,ru⟩:=a0h.some_of (v:=v) (o:=mA f) (by rw[←l];exact r f)
 exact b2J I.kIn O (c.get f) c.hd n hu (a8i ru) (h u _ (I.tok _) ru)
theorem a6c{y:V}{u:Value}{Q:Unit->Shared->Prop}(I:Inv X pins σ H s)(e:H a=some (.ins C dx fs))(c:Cls X.K C)(n:Z0 X.K C f)(hl:fs.length<1000)(ry:n4 y u)
 (h:∀s',Inv X pins σ (upd H a (.ins C dx (U7 f y fs))) s'->Q () s'):wpAny (model X.prog X.w) A (setAttr (.ref a) f u) Q E s:=by
 obtain⟨mA,O,r,wi,_,ho⟩:=a4l I.hok e
 have hz:(fs.map (·.1)).length<=sizeLine:=by rw[List.length_map,sizeLine_eq];omega
 refine b1N I.kIn O c.sa c.po n.taker c.hd wi hz fun h' O' sb=>h _ ?_
 have hd:∃o,h'.get? dx=some o:=let⟨o,_,_,e',_⟩:=O'.ns;⟨o,e'⟩
 refine I.write (x:=a) (e:=dx) (by rw[e];exact True.intro) (.inr ho) (fun b q hb z=>(sb.2 b hb).trans z) hd ?_
 refine⟨by rw[l8 O.ne];exact ho,?_,O.ne,O'.obj,_,O'.ns,fun g=>?_,fun g hg=>?_⟩
 · have:=a1v f y fs;omega
 · show a0h ((U7 f y fs).lookup g) (if g=f then some u else mA g)
   rw[a1u]
   by_cases q:g=f
   · rw[if_pos q,if_pos q];exact ry
   · rw[if_neg q,if_neg q];exact r g
 · by_cases q:g=f
   · rw[q];exact(a1f f y fs).1
   · refine(a1f f y fs).2 g (wi g fun z=>hg ?_)
     show(if g=f then some u else mA g)=none
     rw[if_neg q];exact z
theorem Inv.made(I:Inv X pins σ H s):Inv X pins σ (upd (upd H s.heap.objs.size (.own (s.heap.objs.size+1))) (s.heap.objs.size+1) (.ins C s.heap.objs.size []))
 {s with heap:=(s.heap.push PySem.W.emptyDict).push (PySem.W.instObj C s.heap.objs.size)}:=by
 have e1:(s.heap.push PySem.W.emptyDict).get? s.heap.objs.size=some PySem.W.emptyDict:=Heap.get?_push_size s.heap rfl
 have e2:((s.heap.push PySem.W.emptyDict).push (PySem.W.instObj C s.heap.objs.size)).get? (s.heap.objs.size+1)=some (PySem.W.instObj C s.heap.objs.size):=by
  have:=Heap.get?_push_size (s.heap.push PySem.W.emptyDict) (o:=PySem.W.instObj C s.heap.objs.size) rfl
  rwa [Heap.size_push] at this
 have e3:(s.heap.push PySem.W.emptyDict).Ns s.heap.objs.size (fun _=>none):=⟨PySem.W.emptyDict,#[],_,e1,rfl,(fun e he=>absurd he (by simp)),fun _=>rfl⟩
 have I1:=I.laid (a:=s.heap.objs.size) (o:=.own (s.heap.objs.size+1)) (h':=s.heap.push PySem.W.emptyDict) (t':=s.toks) (fun b u q=>Heap.get?_push_of_some _ q) (Nat.le_refl _) ⟨_,e1⟩
 refine I1.laid (a:=s.heap.objs.size+1) (o:=.ins C s.heap.objs.size []) (t':=s.toks) (fun b u q=>Heap.get?_push_of_some _ q) (Nat.le_of_eq (Heap.size_push _ _)) ?_
 have ne:s.heap.objs.size≠s.heap.objs.size+1:=Nat.ne_of_lt (Nat.lt_succ_self _)
 refine⟨by rw[l8 ne,g9],Nat.zero_le _,ne,e2,fun _=>none,(Heap.Ns1.of_empty e3).at fun o q=>Heap.get?_push_of_some _ q,fun _=>True.intro,fun y hy=>absurd rfl hy⟩
theorem b3n{prog:Program}{w:World}{env:Env}{e:Expr}{f:Str}{pos:Pos}{s:Shared}{Q:Value->Shared->Prop}(hb:attributeBase e f env (eval e env)=eval e env)
 (h:wpAny (model prog w) A (eval e env) (fun o s₁=>wpAny (model prog w) A (getAttr o f true) Q E s₁) E s):wpAny (model prog w) A (eval (.Attribute e f pos) env) Q E s:=
 Attribute_any_ h (by rw[arm_eval_Attribute,hb])
end
def b9b(K:PySem.W.Frag)(ta:TE)(f:Str):TE:=fun σ H Q=>ta σ H fun x H1=>∃a C dx fs v,x=.ref a/\H1 a=some (.ins C dx fs)/\Cls K C/\Z0 K C f/\fs.lookup f=some v/\Q v H1
def b9f(K:PySem.W.Frag)(ta tv:TE)(f:Str):TS:=fun D σ H=>tv σ H fun y H1=>ta σ H1 fun x H2=>∃a C dx fs,x=.ref a/\H2 a=some (.ins C dx fs)/\Cls K C/\Z0 K C f/\fs.length<1000∧
 D.nx σ (upd H2 a (.ins C dx (U7 f y fs)))
section
variable{X:Cx}{o e value:Expr}{f:Str}{pos pos' tpos:Pos}{ta tv:TE}
theorem b4u(he:PE X e ta)(hb:attributeBase e f X.env (eval e X.env)=eval e X.env):PE X (.Attribute e f pos) (b9b X.K ta f):=by
 intro pins s σ H Q I h;refine b3n hb (thn (he pins s σ H _ I h) fun u s1 ⟨x,H1,I1,rx,a,C,dx,fs,v,ex,ea,c,n,l,q⟩=>?_)
 subst ex;obtain rfl:u=Value.ref a:=rx;exact a6s I1 ea c n l fun u' s2 I2 ru=>⟨v,H1,I2,ru,q⟩
theorem b4f(ha:PE X o ta)(hv:PE X value tv)(hs:swapsWith value (some (.Attribute o f pos')) pos.line X.env=pure false):PS X (.Assign [.Attribute o f pos'] value pos) (b9f X.K ta tv f):=by
 intro pins s σ H D I h;refine plainObj_wpAny_Assign_Attribute (thn (hv pins s σ H _ I h) fun u s1 ⟨y,H1,I1,ry,q⟩=>thn (ha pins s1 σ H1 _ I1 q) fun ov s2 ⟨x,H2,I2,rx,a,C,dx,fs,ex,ea,c,n,l,q2⟩=>?_) hs
 subst ex;obtain rfl:ov=Value.ref a:=rx;exact a6c I2 ea c n l ry fun s3 I3=>⟨σ,_,I3,q2⟩
end
section
variable{X:Cx}{pins:List (Addr×Obj)}{σ:St}{H:Hp}{s:Shared}{A:Around}{E:Value->Shared->Prop}{Q:Value->Shared->Prop}{c:Value}{b:Bool}
inductive TyOf(K:PySem.W.Frag)(H:Hp):V->Value->Prop where
 |non:TyOf K H .non (.type "NoneType")
 |bl (x:Bool):TyOf K H (.bl x) (.type "bool")
 |int (i:Int):TyOf K H (.int i) (.type "int")
 |str (x:Str):TyOf K H (.str x) (.type "str")
 |flt (x:UInt64):TyOf K H (.flt x) (.type "float")
 |lst {a:Addr} {xs:List V} (e:H a=some (.lst xs)):TyOf K H (.ref a) (.type "list")
 |frz {a:Addr} {o:Obj} {xs:List V} (e:H a=some (.frz o (.lst xs))):TyOf K H (.ref a) (.type "list")
 |tup {a:Addr} {xs:List V} (e:H a=some (.tup xs)):TyOf K H (.ref a) (.type "tuple")
 |dK {a:Addr} {kvs:List (Key×V)} (e:H a=some (.dK kvs)):TyOf K H (.ref a) (.type "dict")
 |dT {a:Addr} {kvs:List (List Key×V)} (e:H a=some (.dT kvs)):TyOf K H (.ref a) (.type "dict")
 |ins {a C dx:Addr} {fs:List (Str×V)} (e:H a=some (.ins C dx fs)) (cl:Cls K C) (ha:PySem.W.findIn K (.ref C) "__class__"=some (some (.builtin "object.__class__")))
  (hn:PySem.W.specialIn K (.builtin "object.__class__") "__get__"=some (some (.builtin "getset_descriptor.__get__"))) (htk:PySem.W.takesIn K (.builtin "object.__class__")=some true)
  (hm:PySem.W.mroIn K C (.type "object")=some true):TyOf K H (.ref a) (.ref C)
theorem a8f{x:V}{u t:Value}(I:Inv X pins σ H s)(rx:n4 x u)(ty:TyOf X.K H x t)(e:PySem.W.kitOne X.K t c=some b)(h:∀tk,Q (.bool b) {s with toks:=tk}):
 wpAny (model X.prog X.w) A (call (.builtin "isinstance") [u,c]) Q E s:=by
 cases ty with
 |non=>cases (show u=Value.none from rx);exact PySem.W.kia_one PySem.W.kitx_none I.kIn True.intro e (fun z=>nomatch z) h
 |bl y=>cases (show u=Value.bool y from rx);exact PySem.W.kia_one PySem.W.kitx_bool I.kIn True.intro e (fun z=>nomatch z) h
 |int i=>obtain⟨t,q⟩:=(show∃t,u=Value.int i t from rx);cases q;exact PySem.W.kia_one PySem.W.kitx_int I.kIn True.intro e (fun z=>nomatch z) h
 |str y=>obtain⟨t,q⟩:=(show∃t,u=Value.str y t from rx);cases q;exact PySem.W.kia_one PySem.W.kitx_str I.kIn True.intro e (fun z=>nomatch z) h
 |flt y=>obtain⟨t,q⟩:=(show∃t,u=Value.float y t from rx);cases q;exact PySem.W.kia_one PySem.W.kitx_float I.kIn True.intro e (fun z=>nomatch z) h
 | @lst a xs ea=>
  cases (show u=Value.ref a from rx)
  obtain⟨_,_,n,_,h1⟩:=(show x3 X.prog X.w H s.heap a (.lst xs) from I.hok a _ ea);exact PySem.W.kia_one PySem.W.kitx_list I.kIn ⟨_,h1,rfl⟩ e (fun z=>nomatch z) h
 | @frz a ob xs ea=>
  cases (show u=Value.ref a from rx)
  obtain⟨_,_,_,n,_,h1⟩:=(show x3 X.prog X.w H s.heap a (.frz ob (.lst xs)) from I.hok a _ ea);exact PySem.W.kia_one PySem.W.kitx_list I.kIn ⟨_,h1,rfl⟩ e (fun z=>nomatch z) h
 | @tup a xs ea=>
  cases (show u=Value.ref a from rx)
  obtain⟨_,_,_,p⟩:=(show x3 X.prog X.w H s.heap a (.tup xs) from I.hok a _ ea);obtain⟨o,h1,h2,_⟩:=p;exact PySem.W.kia_one PySem.W.kitx_tuple I.kIn ⟨o,h1,h2⟩ e (fun z=>nomatch z) h
 | @dK a kvs ea=>
  cases (show u=Value.ref a from rx)
  obtain⟨_,_,vs,_,p⟩:=(show x3 X.prog X.w H s.heap a (.dK kvs) from I.hok a _ ea);obtain⟨o,es,ep,h1,h2,_⟩:=p;exact PySem.W.kia_one PySem.W.kitx_dict I.kIn ⟨o,h1,h2.1⟩ e (fun z=>nomatch z) h
 | @dT a kvs ea=>
  cases (show u=Value.ref a from rx)
  obtain⟨_,_,xs,_,o,es,ep,h1,h2,_⟩:=(show x3 X.prog X.w H s.heap a (.dT kvs) from I.hok a _ ea);exact PySem.W.kia_one PySem.W.kitx_dict I.kIn ⟨o,h1,h2.1⟩ e (fun z=>nomatch z) h
 | @ins a C dx fs ea cl ha hn htk hm=>
  cases (show u=Value.ref a from rx)
  obtain⟨mA,O,_⟩:=a4l I.hok ea;obtain⟨od,J,_⟩:=O.look;exact PySem.W.kia_one (PySem.W.kitx_own (cl.get _) cl.hd ha hn htk hm) I.kIn J e (fun z=>nomatch z) h
end
end L2
namespace L2
open PySem PySem.Spec PyProof.Rows
structure Room(k:Nat)(A:Around):Prop where
 hd:A.handled=none
 dp:A.depth+3*k+5<recursionLimit
 un:A.units+16*k+200<cLine
theorem Room.mono{j k:Nat}{A:Around}(r:Room k A)(h:j<=k):Room j A:=⟨r.hd,by have:=r.dp;omega,by have:=r.un;omega⟩
theorem Room.deeper{k:Nat}{A:Around}(r:Room (k+1) A)(env:Env):Room k (A.deeper env):=
 ⟨r.hd,by have:=r.dp;show A.depth+1+3*k+5<_;omega,by have:=r.un;show A.units+3+16*k+200<_;omega⟩
theorem a6k{A:Around}{C:Addr}{us:List Value}{kw:List (Str×Value)}:(A.under (.builtin "type.__call__" ⟨.ref C::us,kw⟩)).depth=A.depth+1:=by
 first|rfl|simp[Around.under,Code.weight,Code.isCreation,Code.isGuard,Code.isCaller,Code.frames,Code.isFrame,guardIds]
theorem a6j{A:Around}{C:Addr}{us:List Value}{kw:List (Str×Value)}:(A.under (.builtin "type.__call__" ⟨.ref C::us,kw⟩)).units=A.units+1:=by
 first|rfl|simp[Around.under,Code.cUnits,Code.frames,Code.isFrame]
theorem Room.make{k:Nat}{A:Around}(r:Room (k+1) A)(C:Addr)(us:List Value)(kw:List (Str×Value)):Room k (A.under (.builtin "type.__call__" ⟨.ref C::us,kw⟩)):=
 ⟨r.hd,by have:=r.dp;rw[a6k];omega,by have:=r.un;rw[a6j];omega⟩
theorem Room.depth{k:Nat}{A:Around}(r:Room k A):A.depth<recursionLimit:=by have:=r.dp;omega
theorem Room.units{k:Nat}{A:Around}(r:Room k A):A.units+64<cLine:=by have:=r.un;omega
def b1B:TA:=fun _ H Q=>Q [] H
def a4W(ta:TE)(tr:TA):TA:=fun σ H Q=>ta σ H fun x H1=>tr σ H1 fun xs H2=>Q (x::xs) H2
section
variable{X:Cx}{e:Expr}{es:List Expr}{te:TE}{t:TA}{pos:Pos}
theorem a0u:PA X [] b1B:=fun _ _ _ _ H Q I h=>Calls.spliced_nil ⟨[],H,I,.nil,h⟩
theorem M0(ha:PE X e te)(hr:PA X es t)(hs:starEach (e::es) X.env=(false,eval e X.env)::starEach es X.env:=by rfl):PA X (e::es) (a4W te t):=by
 intro pos pins s σ H Q I h;rw[hs]
 show wpAny _ _ (spliced ((false,eval e X.env)::backTo pos (starEach es X.env))) _ _ s
 refine Calls.spliced_cons (thn (ha pins s σ H _ I h) fun u s1 ⟨x,H1,I1,r1,q1⟩=>?_)
 exact thn (hr pos pins s1 σ H1 _ I1 q1) fun us s2 ⟨xs,H2,I2,r2,q2⟩=>⟨x::xs,H2,I2,.cons r1 r2,q2⟩
def b8S(t:TA):TE:=fun σ H Q=>t σ H fun xs H1=>xs.length<=sizeLine/\∀p,H1 p=none->Q (.ref p) (upd H1 p (.tup xs))
def b8X(t:TA):TE:=fun σ H Q=>t σ H fun xs H1=>xs.length<=sizeLine/\∀p,H1 p=none->Q (.ref p) (upd H1 p (.lst xs))
theorem b4p{x1}(h:PA X es t):PE X (.Tuple es x1 pos) (b8S t):=by
 intro pins s σ H Q I hq;refine wpAny_Tuple_spliced (thn (h pos pins s σ H _ I hq) fun us s1 ⟨xs,H1,I1,r,z,q⟩=>⟨by rw[←r.length];exact z,?_⟩)
 have hf:H1 s1.heap.objs.size=none:=I1.hok.fresh (Nat.le_refl _)
 refine⟨.ref s1.heap.objs.size,upd H1 s1.heap.objs.size (.tup xs),I1.laid (t':=s1.toks) (fun b u e=>Heap.get?_push_of_some _ e) (Nat.le_refl _) ?_,rfl,q _ hf⟩
 exact⟨z,us,r,⟨_,Heap.get?_push_size _ rfl,rfl,rfl,_,rfl⟩⟩
theorem b4t(h:PA X es t):PE X (.List es pos) (b8X t):=by
 intro pins s σ H Q I hq;refine wpAny_List_spliced (thn (h pos pins s σ H _ I hq) fun us s1 ⟨xs,H1,I1,r,z,q⟩=>⟨by rw[←r.length];exact z,?_⟩)
 have hf:H1 s1.heap.objs.size=none:=I1.hok.fresh (Nat.le_refl _)
 refine⟨.ref s1.heap.objs.size,upd H1 s1.heap.objs.size (.lst xs),I1.laid (t':=s1.toks) (fun b u e=>Heap.get?_push_of_some _ e) (Nat.le_refl _) ?_,rfl,q _ hf⟩
 exact⟨z,us,0,r,Heap.get?_push_size _ rfl⟩
end
abbrev Sp:=List V->Hp->VK->XK->Prop
abbrev CXT:=List Env->Hp->Shared->XK->Value->Shared->Prop
structure Env0(P:Program)(w:World)(K:PySem.W.Frag)(mg:Str->Option Value)(base:Heap)(A:Around)(outer:List Env)(s:Shared)(H:Hp):Prop where
 frames:A.frames=some outer
 mod:Mod K mg base
 bs:∀b o,base.get? b=some o->s.heap.get? b=some o/\H b=none
 bsz:base.objs.size<=s.heap.objs.size
 funs:s.heap.FunFrames base outer
 frf:∀b∈frs outer,H b=none
 hok:HOk P w H s.heap
 bare:AllBare s.gens
def CE(outer:List Env)(P:Program)(w:World)(H:Hp)(s:Shared)(Q:VK)(u:Value)(s':Shared):Prop:=
 ∃v H',s'.os=s.os/\AllBare s'.gens/\Un (frs outer) [] H H' s.heap s'.heap/\HOk P w H' s'.heap/\n4 v u/\Q v H'
def CR(CX:CXT)(outer:List Env)(P:Program)(w:World)(H:Hp)(s:Shared)(Q:VK)(E:XK)(r:Result)(s':Shared):Prop:=
 match r with
 |.ok (.ret u)=>CE outer P w H s Q u s'
 |.ok _=>False
 |.error e=>CX outer H s E e s'
structure FnOk(P:Program)(w:World)(K:PySem.W.Frag)(mg:Str->Option Value)(base:Heap)(CX:CXT)(k:Nat)(f:Addr)(fd:FuncData)(ps:List Str)(sp:Sp):Prop where
 len:∀vs H Q E,sp vs H Q E->vs.length=ps.length
 run:∀(A:Around) (outer:List Env) (s:Shared) (H:Hp) (args:Args) (us:List Value) (vs:List V) (Q:VK) (E:XK),Room k A->Env0 P w K mg base A outer s H->BindsTo s fd args (ps.zip us)->n8 vs us->sp vs H Q E→
  codeAny (model P w) A (.call (.ref f) args) (CR CX outer P w H s Q E) s
theorem Env0.make{P:Program}{w:World}{K:PySem.W.Frag}{mg:Str->Option Value}{base:Heap}{A:Around}{outer:List Env}{s:Shared}{H:Hp}(e:Env0 P w K mg base A outer s H)(C:Addr)(us:List Value)(kw:List (Str×Value)):
 Env0 P w K mg base (A.under (.builtin "type.__call__" ⟨.ref C::us,kw⟩)) outer s H:=⟨by first|exact e.frames|(simpa [Around.under,Code.envs,Code.isFrame,pushEnvs] using e.frames),e.mod,e.bs,e.bsz,e.funs,e.frf,e.hok,e.bare⟩
section
variable{X:Cx}{pins:List (Addr×Obj)}{σ:St}{H:Hp}{s s':Shared}
theorem Inv.env0(I:Inv X pins σ H s):Env0 X.prog X.w X.K X.mg X.base X.A X.stack s H:=
 ⟨I.ok.frames,I.ok.mod,I.bs,Nat.le_trans I.ok.bsz I.sz,I.stack,I.stkFree,I.hok,I.bare⟩
theorem Inv.after{Q:VK}{u:Value}(I:Inv X pins σ H s)(h:CE X.stack X.prog X.w H s Q u s'):EP X pins σ Q u s':=by
 obtain⟨v,H',os,bare,un,hok,r,q⟩:=h;obtain⟨hh,g,d,t,os'⟩:=s';obtain rfl:os'=s.os:=os;exact⟨v,H',I.call (h':=hh) (g':=g) (d':=d) (t':=t) (ch:=[]) un hok bare (fun b z=>absurd z (by simp)),r,q⟩
end
def b6z(sp:Sp)(dvs:List V)(E:XK)(t:TA):TE:=fun σ H Q=>t σ H fun vs H1=>sp (vs++dvs) H1 Q E
def b6w(C:Addr)(sp:Sp)(dvs:List V)(E:XK)(t:TA):TE:=fun σ H Q=>t σ H fun vs H1=>∀x dx,H1 x=none->H1 dx=none->dx≠x→
 sp (.ref x::(vs++dvs)) (upd (upd H1 dx (.own x)) x (.ins C dx [])) (fun v H2=>v=.non/\Q (.ref x) H2) E
def R7(K:PySem.W.Frag)(fd:FuncData)(ps:List Str)(ds:List Value):Prop:=
 ∀(s:Shared) (us:List Value),K.In s.heap->(us++ds).length=ps.length->BindsTo s fd ⟨us,[]⟩ (ps.zip (us++ds))
theorem R7.all{K:PySem.W.Frag}{fd:FuncData}{ps:List Str}(h:∀us:List Value,us.length=ps.length->bindArgs fd ⟨us,[]⟩=pure (ps.zip us)):R7 K fd ps []:=fun s us _ hl=>by
 rw[List.append_nil] at hl⊢;exact .of_eq (h us hl)
def a2M(CX:CXT)(X:Cx)(E:XK):Prop:=∀(pins:List (Addr×Obj)) (σ:St) (H:Hp) (s:Shared) (e:Value) (s':Shared),Inv X pins σ H s->CX X.stack H s E e s'->X.xe e s'
section
variable{X:Cx}{CX:CXT}{k:Nat}{f C:Addr}{fd:FuncData}{ps:List Str}{sp:Sp}{dvs:List V}{ds:List Value}{E:XK}{x m:Str}{p pos apos:Pos}{e o:Expr}{es:List Expr}{ta:TE}{t:TA}
theorem b3U{pins:List (Addr×Obj)}{σ:St}{H:Hp}{s:Shared}{Q:VK}{us:List Value}{vs:List V}(F:FnOk X.prog X.w X.K X.mg X.base CX k f fd ps sp)(hr:Room k X.A)(hb:R7 X.K fd ps ds)(hd:n8 dvs ds)(hx:a2M CX X E)
 (I:Inv X pins σ H s) (r:n8 vs us) (h:sp (vs++dvs) H Q E):wpAny (model X.prog X.w) X.A (call (.ref f) us) (EP X pins σ Q) X.xe s:=by
 have r2:n8 (vs++dvs) (us++ds):=r.append hd
 have hl:(us++ds).length=ps.length:=by rw[←r2.length];exact F.len _ _ _ _ h
 refine wpAny_call (codeAny_mono (F.run X.A X.stack s H ⟨us,[]⟩ (us++ds) (vs++dvs) Q E hr I.env0 (hb s us I.kIn hl) r2 h) fun r s' hq=>?_)
 cases r with
 |error e=>exact hx pins σ H s e s' I hq
 |ok fl=>
  cases fl with
  |ret u=>exact I.after hq
  |next=>exact False.elim hq
  |brk=>exact False.elim hq
  |cont=>exact False.elim hq
theorem b2g(F:FnOk X.prog X.w X.K X.mg X.base CX k f fd ps sp)(hr:Room k X.A)(hg:Gl X x)(hm:X.mg x=some (.ref f))(hk:PySem.W.keepIn X.K (.ref f)=true)(hb:R7 X.K fd ps ds)(hd:n8 dvs ds)(hx:a2M CX X E)
 (ha:PA X (e::es) t) (hdb:(x==("__debug__":Str))=false:=by decide) (he:starEach (e::es) X.env=(false,eval e X.env)::starEach es X.env:=by rfl) (hpl:(backTo pos (starEach es X.env)).any (·.1)=false:=by rfl):
 PE X (.Call (.Name x p) (e::es) [] pos) (b6z sp dvs E t):=by
 intro pins s σ H Q I h;refine wpAny_Call_Name_kw (a4g I hg hm ?_ hdb)
 refine PySem.W.callWith_K (h₀:=X.base) I.ok.mod.kin hk (thn (ha pos pins s σ H _ I h) fun us s1 ⟨vs,H1,I1,r,q⟩=>⟨I1.kIn,?_⟩) he hpl
 exact b3U F hr hb hd hx I1 r q
structure Mk(K:PySem.W.Frag)(C f:Addr):Prop where
 makes:PySem.W.makesIn K C=true
 init:PySem.W.findIn K (.ref C) "__init__"=some (some (.ref f))
 fn:PySem.W.isFn K (.ref f)=true
 kp:PySem.W.keepIn K (.ref C)=true
theorem a8P{pins:List (Addr×Obj)}{σ:St}{H:Hp}{s:Shared}{Q:VK}{us:List Value}{vs:List V}(M:Mk X.K C f)(F:FnOk X.prog X.w X.K X.mg X.base CX k f fd ps sp)(hr:Room (k+1) X.A)(hb:R7 X.K fd ps ds)(hd:n8 dvs ds)
 (hx:a2M CX X E) (I:Inv X pins σ H s) (r:n8 vs us)
 (h:∀x dx,H x=none->H dx=none->dx≠x->sp (.ref x::(vs++dvs)) (upd (upd H dx (.own x)) x (.ins C dx [])) (fun v H2=>v=.non/\Q (.ref x) H2) E):
 wpAny (model X.prog X.w) X.A (call (.ref C) us) (EP X pins σ Q) X.xe s:=by
 have hq:=h (s.heap.objs.size+1) s.heap.objs.size (I.hok.fresh (Nat.le_succ _)) (I.hok.fresh (Nat.le_refl _)) (Nat.ne_of_lt (Nat.lt_succ_self _));have I2:=Inv.made (C:=C) I
 have r2:n8 (V.ref (s.heap.objs.size+1)::(vs++dvs)) (Value.ref (s.heap.objs.size+1)::(us++ds)):=.cons rfl (r.append hd)
 have hl:(Value.ref (s.heap.objs.size+1)::us++ds).length=ps.length:=by
  have e:=r2.length;rw[F.len _ _ _ _ hq] at e;exact e.symm
 refine wpAny_call (a9E (f:=f) I.kIn M.makes M.init (beq_iff_eq.mp M.fn) (codeAny_mono (F.run _ X.stack _ _ ⟨Value.ref (s.heap.objs.size+1)::us,[]⟩ (Value.ref (s.heap.objs.size+1)::(us++ds)) _ _ E (hr.make C us [])
  (I2.env0.make C us []) (hb _ (Value.ref (s.heap.objs.size+1)::us) I2.kIn hl) r2 hq) fun r s' hq'=>?_))
 cases r with
 |error e=>exact hx pins σ _ _ e s' I2 hq'
 | ok fl=>
  cases fl with
  |ret u=>
   obtain⟨v,H',I3,rv,ev,q3⟩:=I2.after hq';subst ev;exact⟨rv,⟨V.ref (s.heap.objs.size+1),H',I3,rfl,q3⟩⟩
  |next=>exact False.elim hq'
  |brk=>exact False.elim hq'
  |cont=>exact False.elim hq'
theorem a9o(M:Mk X.K C f)(F:FnOk X.prog X.w X.K X.mg X.base CX k f fd ps sp)(hr:Room (k+1) X.A)(hg:Gl X x)(hm:X.mg x=some (.ref C))(hb:R7 X.K fd ps ds)(hd:n8 dvs ds)(hx:a2M CX X E)
 (hdb:(x==("__debug__":Str))=false:=by decide):PE X (.Call (.Name x p) [] [] pos) (b6w C sp dvs E b1B):=by
 intro pins s σ H Q I h;refine wpAny_Call_Name_kw (a4g I hg hm ?_ hdb)
 exact PySem.W.callWith_K0 I.kIn M.kp (a8P (us:=[]) M F hr hb hd hx I .nil h)
end
structure FnScope(N P:List Str)(sc:Scope):Prop where
 kind:sc.kind=.function
 co:sc.isCoroutine=false
 gen:sc.isGenerator=false
 nd:N.Nodup
 pre:N.take P.length=P
 par:∀x∈P,sc.names.lookup x=some .local∨sc.names.lookup x=some .cell
 nofree:∀y∈sc.names,y.2≠.free
theorem a3C{kindOf:Str->Option NameKind}{x:Str}:∀{binds:List (Str×Value)} {m:Str->Option Value},(∀v,(x,v)∉binds)->bindL kindOf binds m x=m x
 |[],_,_=>rfl
 | (n,v)::r,m,h=>by
  unfold bindL;rw[a3C fun w hw=>h w (List.mem_cons_of_mem _ hw)]
  split
  · have:x≠n:=by rintro rfl;exact h v List.mem_cons_self
    simp[this]
  · rfl
theorem a3E{kindOf:Str->Option NameKind}{x:Str}:∀{binds:List (Str×Value)} {m:Str->Option Value},(∀v,(x,v)∉binds)->bindC kindOf binds m x=m x
 |[],_,_=>rfl
 | (n,v)::r,m,h=>by
  unfold bindC;rw[a3E fun w hw=>h w (List.mem_cons_of_mem _ hw)]
  split
  · rfl
  · have:x≠n:=by rintro rfl;exact h v List.mem_cons_self
    simp[this]
theorem a3D{kindOf:Str->Option NameKind}{x:Str}{v:Value}:∀{P:List Str} {vs:List Value} {i:Nat} {m:Str->Option Value},P.Nodup->P[i]? =some x->vs[i]? =some v->kindOf x=some .local→
 bindL kindOf (P.zip vs) m x=some v
 |[],_,_,_,_,h,_,_=>by simp at h
 |_::_,[],_,_,_,_,h,_=>by simp at h
 |p::P,w::vs,0,m,nd,h1,h2,hk=>by
  simp at h1 h2;subst h1;subst h2
  show bindL kindOf ((p,w)::P.zip vs) m p=_
  unfold bindL;rw[a3C fun v hv=>(List.nodup_cons.mp nd).1 (List.of_mem_zip hv).1,if_pos hk]
  simp
 |p::P,w::vs,i+1,m,nd,h1,h2,hk=>by
  show bindL kindOf ((p,w)::P.zip vs) m x=_
  unfold bindL;exact a3D (i:=i) (List.nodup_cons.mp nd).2 (by simpa using h1) (by simpa using h2) hk
theorem a3F{kindOf:Str->Option NameKind}{x:Str}{v:Value}:∀{P:List Str} {vs:List Value} {i:Nat} {m:Str->Option Value},P.Nodup->P[i]? =some x->vs[i]? =some v->kindOf x≠some .local→
 bindC kindOf (P.zip vs) m x=some v
 |[],_,_,_,_,h,_,_=>by simp at h
 |_::_,[],_,_,_,_,h,_=>by simp at h
 |p::P,w::vs,0,m,nd,h1,h2,hk=>by
  simp at h1 h2;subst h1;subst h2
  show bindC kindOf ((p,w)::P.zip vs) m p=_
  unfold bindC;rw[a3E fun v hv=>(List.nodup_cons.mp nd).1 (List.of_mem_zip hv).1,if_neg hk]
  simp
 |p::P,w::vs,i+1,m,nd,h1,h2,hk=>by
  show bindC kindOf ((p,w)::P.zip vs) m x=_
  unfold bindC;exact a3F (i:=i) (List.nodup_cons.mp nd).2 (by simpa using h1) (by simpa using h2) hk
def a0J(N:List Str)(vs:List V):St:=vs.map some++List.replicate (N.length-vs.length) none
def a6A(CX:CXT)(P:Program)(w:World)(K:PySem.W.Frag)(mg:Str->Option Value)(base:Heap)(N:List Str)(qual:Str)(scope:Scope)(f:Addr)(cd:Value)(A:Around)(outer:List Env)(s:Shared)(H:Hp)(E:XK):Cx where
 prog:=P
 w:=w
 K:=K
 mg:=mg
 base:=base
 A:=A.deeper (envOfC qual scope s.heap.objs.size f cd)
 N:=N
 s₀:=s
 H₀:=H
 env:=envOfC qual scope s.heap.objs.size f cd
 outer:=outer
 stack:=envOfC qual scope s.heap.objs.size f cd::outer
 ex:=[]
 calm:=true
 fn:=fun _=>true
 pn:=[]
 xe:=fun e s'=>wpAny (model P w) (A.deeper (envOfC qual scope s.heap.objs.size f cd)) (leaving (envOfC qual scope s.heap.objs.size f cd) e) (fun _ s''=>CX outer H s E e s'') (fun e' s''=>CX outer H s E e' s'') s'
theorem a5M{sc:Scope}{n:Nat}{x:Str}(h:sc.names.lookup x=some .cell):∃c,(cellsFrom n sc.names []).lookup x=some c:=by
 have q:=PySem.W.cellsFrom_some sc.names n [] (.inl h);exact Option.isSome_iff_exists.mp q
theorem a8g{CX:CXT}{P:Program}{w:World}{K:PySem.W.Frag}{mg:Str->Option Value}{base:Heap}{N ps:List Str}{qual:Str}{scope:Scope}{f:Addr}{cd:Value}{A:Around}{outer:List Env}{s s1:Shared}{H:Hp}{E:XK}{us:List Value}{vs:List V}
 (S:FnScope N ps scope) (hd:A.handled=none) (e0:Env0 P w K mg base A outer s H) (hl:vs.length=ps.length) (r:n8 vs us)
 (x:InCallC s s.heap.objs.size (bindL (envOfC qual scope s.heap.objs.size f cd).kindOf (ps.zip us) fun _=>none) (cellsFrom (s.heap.objs.size+1) scope.names []) (bindC (envOfC qual scope s.heap.objs.size f cd).kindOf (ps.zip us) fun _=>none) s1):
 Inv (a6A CX P w K mg base N qual scope f cd A outer s H E) [] (a0J N vs) H s1:=by
 have hpl:ps.length<=N.length:=by have:=congrArg List.length S.pre;rw[List.length_take] at this;omega
 obtain⟨h1,tk,rfl,hk⟩:=x.done
 have noA:∀b:Addr,b∉(a6A CX P w K mg base N qual scope f cd A outer s H E).ex:=fun b z=>absurd (show b∈([]:List Addr) from z) (by simp)
 refine⟨⟨e0.mod,S.kind,rfl,rfl,Nat.le_refl _,fun y z c h1 h2=>?_,fun y hy=>?_,fun y c _ h=>?_,fun _=>hd,Around.frames_deeper e0.frames,.inr ⟨rfl,rfl⟩,fun b z=>absurd z (noA b),e0.bs,e0.bsz,fun b _ _=>noA b,fun b z=>absurd z (noA b),e0.funs,e0.frf⟩,
  rfl,e0.bare,Un.kept hk,⟨_,x.toInCall.ns,fun i y v h1 h2 h3=>?_⟩,fun y c h=>⟨_,x.cell y c h⟩,e0.hok.fresh (Nat.le_refl _),fun y c h=>?_,fun p hp=>absurd (show p∈([]:List (Addr×Obj)) from hp) (by simp),e0.hok.kept hk,?_⟩
 · exact name_of_addr x.apart (PySem.mem_of_lookup h1) (PySem.mem_of_lookup h2)
 · have hy:scope.names.lookup y=some .cell∨scope.names.lookup y=some .free:=hy
   rcases hy with hy|hy
   · exact a5M hy
   · exact absurd rfl (S.nofree _ (PySem.mem_of_lookup hy))
 · exact Nat.le_of_lt (x.above y c (PySem.mem_of_lookup h))
 · have hi:i<vs.length:=by
    unfold a0J at h2
    by_cases hi:i<vs.length
    · exact hi
    · rw[List.getElem?_append_right (by simpa using hi)] at h2
      rw[List.getElem?_replicate] at h2
      split at h2<;>cases h2
   have ha:vs[i]? =some v:=by
    unfold a0J at h2;rw[List.getElem?_append_left (by simpa using hi),List.getElem?_map] at h2
    cases e:vs[i]? with
    |none=>rw[e] at h2;cases h2
    |some a=>rw[e] at h2;cases h2;rfl
   obtain⟨u,hu,rv⟩:=r.get ha
   have hp:ps[i]? =some y:=by
    rw[←S.pre,List.getElem?_take_of_lt (by omega)];exact h1
   have ndP:ps.Nodup:=by rw[←S.pre];exact S.nd.sublist (List.take_sublist _ _)
   refine⟨u,rv,?_⟩
   rcases S.par y (List.mem_of_getElem? hp) with k|k
   · exact .inl ⟨k,a3D ndP hp hu k⟩
   · obtain⟨c,e⟩:=a5M (n:=s.heap.objs.size+1) k;refine .inr ⟨.inl k,c,e,?_⟩
     have q:=x.cell y c e;rw[a3F ndP hp hu (by show scope.names.lookup y≠_;rw[k];decide)] at q
     exact q
 · exact e0.hok.fresh (Nat.le_of_lt (x.above y c (PySem.mem_of_lookup h)))
 · unfold a0J
   show _=N.length
   rw[List.length_append,List.length_map,List.length_replicate];omega
theorem b7F{CX:CXT}{P:Program}{w:World}{K:PySem.W.Frag}{mg:Str->Option Value}{base:Heap}{k:Nat}{f:Addr}{name qual:Str}{params:Arguments}{body:List Stmt}{scope:Scope}{dV kV doc pm cdv ct oc:Value}{an od:Option Addr}
 {osl:Array (Option Value)} {N ps:List Str} {sp:Sp} (lk:K.lookup f=some ⟨oc,od,.func (PySem.W.fnOf name qual params body scope dV kV doc pm an cdv ct),osl⟩) (hcd:PySem.W.codeIn K cdv qual=true) (S:FnScope N ps scope)
 (len:∀vs H Q E,sp vs H Q E->vs.length=ps.length)
 (hbody:∀(A:Around) (outer:List Env) (s:Shared) (H:Hp) (vs:List V) (Q:VK) (E:XK),Room k (A.deeper (envOfC qual scope s.heap.objs.size f cdv))->sp vs H Q E→
  ∃t,PSs (a6A CX P w K mg base N qual scope f cdv A outer s H E) body t/\t {nx:=fun _ H'=>Q .non H',rt:=Q} (a0J N vs) H):
 FnOk P w K mg base CX (k+1) f (PySem.W.fnOf name qual params body scope dV kV doc pm an cdv ct) ps sp:=by
 refine⟨len,fun A outer s H args us vs Q E hr e0 hb r hsp=>?_⟩
 have hl:=len _ _ _ _ hsp
 have KX:K.In s.heap:=e0.mod.kin.keeps fun b o e=>(e0.bs b o e).1
 have lim:s.heap.NoLimit:=e0.mod.nolimit.keeps fun b o e=>(e0.bs b o e).1
 have hkind:∀y∈ps.zip us,scope.names.lookup y.1=some .local∨(scope.names.lookup y.1=some .cell/\((cellsFrom (s.heap.objs.size+1) scope.names []).lookup y.1).isSome=true):=fun⟨n,v⟩ hy=>by
  rcases S.par n (List.of_mem_zip hy).1 with q|q
  · exact .inl q
  · exact .inr ⟨q,PySem.W.cellsFrom_some _ _ _ (.inl q)⟩
 refine codeAny_call_function hr.depth (KX _ _ lk) rfl S.co S.gen rfl (PySem.W.codeRec_of KX hcd) (hb _ _ _ _ ?_)
 refine wpAny_newFunctionEnv_cells S.kind hkind fun env he s1 x=>?_
 subst he;refine⟨lim.keeps x.toInCall.keep,codeAny_func ?_⟩
 obtain⟨t,ht,hq⟩:=hbody A outer s H vs Q E (hr.deeper _) hsp
 have I:Inv (a6A CX P w K mg base N qual scope f cdv A outer s H E) [] (a0J N vs) H s1:=a8g S hr.hd e0 hl r x
 refine wpAny_mono (ht [] s1 (a0J N vs) H _ I hq) (fun fl s' hs=>?_) fun e s' hs=>hs
 have fin:∀{σ':St} {H':Hp} {v:V} {u:Value},Inv (a6A CX P w K mg base N qual scope f cdv A outer s H E) [] σ' H' s'->n4 v u->Q v H'->CE outer P w H s Q u s':=
  fun{σ' H' v u} J rv q=>⟨v,H',J.os,J.bare,J.base,J.hok,rv,q⟩
 cases fl with
 |ret u=>
  obtain⟨v,σ',H',J,rv,q⟩:=hs;exact fin J rv q
 |next=>
  obtain⟨σ',H',J,q⟩:=hs;exact fin (v:=V.non) (u:=Value.none) J rfl q
 |brk=>
  obtain⟨_,_,_,q⟩:=hs;exact False.elim q
 |cont=>
  obtain⟨_,_,_,q⟩:=hs;exact False.elim q
end L2
namespace L2
open PySem PySem.Spec PyProof.Rows
section
variable{X:Cx}{x:Str}{p pos:Pos}{e:Expr}{es:List Expr}{t:TA}{id T:String}{r:List V->Hp->VK->Prop}
def tCB(r:List V->Hp->VK->Prop)(t:TA):TE:=fun σ H Q=>t σ H fun vs H1=>r vs H1 Q
theorem T9(hc:D1 X (.builtin id) r)(hg:Gl X x)(hm:X.mg x=none)(hv:bootBuiltins x=some (.builtin id))(ha:PA X (e::es) t)(hn:x≠"__name__":=by decide)(hdb:(x==("__debug__":Str))=false:=by decide)
 (he:starEach (e::es) X.env=(false,eval e X.env)::starEach es X.env:=by rfl) (hpl:(backTo pos (starEach es X.env)).any (·.1)=false:=by rfl):PE X (.Call (.Name x p) (e::es) [] pos) (tCB r t):=by
 intro pins s σ H Q I h;refine wpAny_Call_Name_kw (a1e I hg hm hv ?_ hn hdb)
 exact PyProof.Rows.callWith_builtin1 (thn (ha pos pins s σ H _ I h) fun us s1 ⟨vs,H1,I1,r1,q1⟩=>hc pins s1 σ H1 vs us Q I1 r1 q1) he hpl
theorem L3(hc:D1 X (.type T) r)(hg:Gl X x)(hm:X.mg x=none)(hv:bootBuiltins x=some (.type T))(ha:PA X (e::es) t)(hn:x≠"__name__":=by decide)(hdb:(x==("__debug__":Str))=false:=by decide)
 (he:starEach (e::es) X.env=(false,eval e X.env)::starEach es X.env:=by rfl) (hpl:(backTo pos (starEach es X.env)).any (·.1)=false:=by rfl):PE X (.Call (.Name x p) (e::es) [] pos) (tCB r t):=by
 intro pins s σ H Q I h;refine wpAny_Call_Name_kw (a1e I hg hm hv ?_ hn hdb)
 exact PyProof.Rows.callWith_type1 (thn (ha pos pins s σ H _ I h) fun us s1 ⟨vs,H1,I1,r1,q1⟩=>hc pins s1 σ H1 vs us Q I1 r1 q1) he hpl
end
end L2
namespace HT
open PySem PyProof.Rows
section
variable{prog:Program}{w:World}{A:Around}{E:Value->Shared->Prop}{s:Shared}
def sIx(n d:Nat):Option Int->Nat
 |none=>d
 |some v=>if v<0 then(v+(n:Int)).toNat else min v.toNat n
theorem a8O(n d:Nat):sIx n d none=d:=rfl
theorem b1O(n d k:Nat):sIx n d (some (k:Int))=min k n:=by
 show(if(k:Int)<0 then((k:Int)+(n:Int)).toNat else min (k:Int).toNat n)=min k n
 rw[if_neg (by omega),Int.toNat_natCast]
end
end HT
namespace L2
open PySem PySem.Spec PyProof.Rows
abbrev TO:=St->Hp->(Option Int->Hp->Prop)->Prop
def PO(X:Cx)(e:Option Expr)(t:TO):Prop:=
 ∀(pins:List (Addr×Obj)) (s:Shared) (σ:St) (H:Hp) (Q:Option Int->Hp->Prop),Inv X pins σ H s->t σ H Q→
  wpAny (model X.prog X.w) X.A (evalPart e X.env) (fun u s'=>∃o H',Inv X pins σ H' s'/\IsPart u o/\Q o H') X.xe s
def b1A:TO:=fun _ H Q=>Q none H
def b6s(t:TE):TO:=fun σ H Q=>t σ H fun x H1=>∃i,x=.int i/\Q (some i) H1
theorem a6q{ns:List Int}:∀{us:List Value},n8 (ns.map V.int) us->IntsAre us ns:=by
 induction ns with
 |nil=>intro us r;rw[List.map_nil] at r;cases r;exact .nil
 | cons n ns ih=>
  intro us r;rw[List.map_cons] at r
  cases r with
  |cons r1 r2=>
   obtain⟨t,e⟩:=r1;subst e;exact .cons n t (ih r2)
section
variable{X:Cx}{e:Expr}{te:TE}{lo hi:Option Expr}{tl th:TO}{pos p2:Pos}
theorem b1Y:PO X none b1A:=by
 intro pins s σ H Q I h;rw[evalPart_none];exact wpAny_pure ⟨none,H,I,.none,h⟩
theorem b1X(h:PE X e te):PO X (some e) (b6s te):=by
 intro pins s σ H Q I hw;rw[evalPart_some];refine thn (h pins s σ H _ I hw) fun u s1 ⟨x,H1,I1,r1,q1⟩=>?_
 obtain⟨i,rfl,q⟩:=q1;obtain⟨t,rfl⟩:=r1;exact⟨some i,H1,I1,.int i t,q⟩
def SlR(X:Cx)(r:V->Option Int->Option Int->Hp->VK->Prop):Prop:=
 ∀(pins:List (Addr×Obj)) (s:Shared) (σ:St) (H:Hp) (x:V) (v vl vu:Value) (lo hi:Option Int) (sl:Addr) (Q:VK),Inv X pins σ H s->n4 x v->s.heap.IsSliceOf sl vl vu .none->IsPart vl lo->IsPart vu hi->r x lo hi H Q→
  ∃T id,typeLookup (.type T) "__getitem__"=pure (some (.builtin id))/\s.TypeIs v T/\wpAny (model X.prog X.w) X.A (getItem v (.ref sl)) (EP X pins σ Q) X.xe s
def tSl(r:V->Option Int->Option Int->Hp->VK->Prop)(te:TE)(tl th:TO):TE:=fun σ H Q=>te σ H fun x H1=>tl σ H1 fun l H2=>th σ H2 fun u H3=>r x l u H3 Q
theorem a9n{r:V->Option Int->Option Int->Hp->VK->Prop}(hr:SlR X r)(he:PE X e te)(hl:PO X lo tl)(hu:PO X hi th):PE X (.Subscript e (.Slice lo hi none p2) pos) (tSl r te tl th):=by
 intro pins s σ H Q I h;refine Subscript_ (thn (he pins s σ H _ I h) fun v s1 ⟨x,H1,I1,r1,q1⟩=>?_)
 refine wpAny_Slice (thn (hl pins s1 σ H1 _ I1 q1) fun vl s2 ⟨l,H2,I2,pl,q2⟩=>thn (hu pins s2 σ H2 _ I2 q2) fun vu s3 ⟨u,H3,I3,pu,q3⟩=>?_)
 rw[evalPart_none];refine wpAny_pure ?_
 have I4:Inv X pins σ H3 {s3 with heap:=s3.heap.push {cls:=.type "slice",data:=.fields #[vl,vu,.none]}}:=I3.kept (t':=s3.toks) fun b ob q=>Heap.get?_push_of_some _ q
 obtain⟨T,id,hT,ht,hg⟩:=hr pins {s3 with heap:=s3.heap.push {cls:=.type "slice",data:=.fields #[vl,vu,.none]}} σ H3 x v vl vu l u s3.heap.objs.size Q I4 r1 (Heap.IsSliceOf.new ..) pl pu q3
 show wpAny (model X.prog X.w) X.A (subscriptTail e (.Slice lo hi none p2) v (.ref s3.heap.objs.size)) (EP X pins σ Q) X.xe {s3 with heap:=s3.heap.push {cls:=.type "slice",data:=.fields #[vl,vu,.none]}}
 exact tail_any (ops:=[.ref s3.heap.objs.size,v]) ht hT hg (by with_unfolding_all rfl)
def a8o(xs:List V)(lo hi:Option Int):List V:=(xs.drop (HT.sIx xs.length 0 lo)).take (HT.sIx xs.length xs.length hi-HT.sIx xs.length 0 lo)
theorem a5I(xs:List V)(lo hi:Option Int):(a8o xs lo hi).length<=xs.length:=by
 unfold a8o;rw[List.length_take,List.length_drop];omega
end
end L2
namespace L2
open PySem PySem.Spec PyProof.Rows
def ixN(n:Nat)(i:Int):Option Nat:=if 0<=i then(if i<n then some i.toNat else none) else if-(n:Int)<=i then some (i+n).toNat else none
def atI{α:Type}(xs:List α)(i:Int):Option α:=(ixN xs.length i).bind fun j=>xs[j]?
theorem a7f{n:Nat}{i:Int}{j:Nat}(h:ixN n i=some j):seqIndex? i n=some j/\j<n/\ -(n:Int)<=i/\i<n:=by
 unfold ixN at h
 by_cases h0:0<=i
 · rw[if_pos h0] at h
   by_cases h1:i<n
   · rw[if_pos h1] at h
     have e:i.toNat=j:=Option.some.inj h
     exact⟨by rw[seqIndex_of h0 h1,e],by omega,by omega,h1⟩
   · rw[if_neg h1] at h;cases h
 · rw[if_neg h0] at h
   by_cases h1: -(n:Int)<=i
   · rw[if_pos h1] at h
     have e:(i+n).toNat=j:=Option.some.inj h
     exact⟨by rw[seqIndex_neg (by omega) h1,e],by omega,h1,by omega⟩
   · rw[if_neg h1] at h;cases h
theorem a4K{α:Type}{xs:List α}{i:Int}{v:α}(h:atI xs i=some v):∃j,seqIndex? i xs.length=some j/\xs[j]? =some v/\j<xs.length/\ -(xs.length:Int)<=i/\i<xs.length:=by
 unfold atI at h
 cases e:ixN xs.length i with
 |none=>rw[e] at h;cases h
 |some j=>
  rw[e] at h;obtain⟨h1,h2,h3,h4⟩:=a7f e;exact⟨j,h1,h,h2,h3,h4⟩
def a1U(b:Expr):Prop:=∀o i,subscripted b false o i=operate [o,i] (getItem o i)
def IxR(X:Cx)(r:R2):Prop:=
 ∀(value slice:Expr) (pins:List (Addr×Obj)) (s:Shared) (σ:St) (H:Hp) (x y:V) (v u:Value) (Q:VK),Inv X pins σ H s->n4 x v->n4 y u->r x y H Q→
  subscripted slice false v u=operate [v,u] (getItem v u)->wpAny (model X.prog X.w) X.A (subscriptTail value slice v u) (EP X pins σ Q) X.xe s
def MtR(X:Cx)(id:String)(r:V->List V->Hp->VK->Prop):Prop:=
 ∀(pins:List (Addr×Obj)) (s:Shared) (σ:St) (H:Hp) (x:V) (xs:List V) (v:Value) (us:List Value) (Q:VK),Inv X pins σ H s->n4 x v->n8 xs us->r x xs H Q→
  wpAny (model X.prog X.w) X.A (call (.builtin id) (v::us)) (EP X pins σ Q) X.xe s
section
variable{X:Cx}{a b:Expr}{ta tb:TE}{pos:Pos}
theorem b3v{r:R2}(hr:IxR X r)(ha:PE X a ta)(hb:PE X b tb)(hs:a1U b):PE X (.Subscript a b pos) (tOp r ta tb):=by
 intro pins s σ H Q I h;exact Subscript_ (b5M ha hb I h fun v u s2 x y H2 I2 rx ry q=>hr a b pins s2 σ H2 x y v u Q I2 rx ry q (hs _ _))
def b9l(K:PySem.W.Frag):R2:=fun x y H Q=>∃p xs i v,x=.ref p/\y=.int i/\SqL K H p xs/\atI xs i=some v/\Q v H
def b9j(K:PySem.W.Frag):R2:=fun x y H Q=>∃p xs i v,x=.ref p/\y=.int i/\SqT K H p xs/\atI xs i=some v/\Q v H
def b9k:R2:=fun x y H Q=>∃z i c,x=.str z/\y=.int i/\z.length<=sizeLine/\atI z.cps.toList i=some c/\Q (.str ⟨#[c]⟩) H
theorem a7e:IxR X (b9l X.K):=by
 intro value slice pins s σ H x y v u Q I rx ry h hs;obtain⟨p,xs,i,z,rfl,rfl,hq,he,q⟩:=h;cases rx;obtain⟨t,rfl⟩:=ry;obtain⟨its,r,pl,hz⟩:=I.list hq;obtain⟨j,h1,h2,h3,h4,h5⟩:=a4K he;obtain⟨w,ew,rw'⟩:=r.get h2;have hl:=r.length;have hn:=a0y
 have fin:EP X pins σ Q w s:=⟨z,H,I,rw',q⟩
 by_cases h0:0<=i
 · have hj:i.toNat=j:=by
    rw[seqIndex_of h0 h5] at h1;exact Option.some.inj h1
   exact item_listR pl.isList h0 (by omega) (by rw[hj];simpa using ew) fin hs
 · have hj:(i+(its.toArray.size:Int)).toNat=j:=by
    rw[seqIndex_neg (by omega) h4] at h1
    rw[List.size_toArray,←hl];exact Option.some.inj h1
   exact subscriptTail_builtinR (x:=w) pl.isList.typeIs slot_list_getitem.lookup
    (wpAny_getItem_list_neg (Q:=fun r s'=>r=w/\EP X pins σ Q r s') pl.isList (by omega) (by rw[List.size_toArray]<;>omega) (by omega) (by rw[hj];simpa using ew) ⟨rfl,fin⟩) hs
theorem ix_tup:IxR X (b9j X.K):=by
 intro value slice pins s σ H x y v u Q I rx ry h hs;obtain⟨p,xs,i,z,rfl,rfl,hq,he,q⟩:=h;cases rx;obtain⟨t,rfl⟩:=ry;obtain⟨its,r,pl,hz⟩:=I.tuple hq;obtain⟨j,h1,h2,h3,h4,h5⟩:=a4K he;obtain⟨w,ew,rw'⟩:=r.get h2;have hl:=r.length;have hn:=a0y
 have fin:EP X pins σ Q w s:=⟨z,H,I,rw',q⟩
 exact subscriptTail_builtinR (x:=w) pl.typeIs slot_tuple_getitem.lookup
  (getItem_tuple (j:=j) (Q:=fun r s'=>r=w/\EP X pins σ Q r s') pl (by omega) (by omega) (by rw[List.size_toArray,←hl];exact h1) (by simpa using ew) ⟨rfl,fin⟩) hs
theorem ix_str:IxR X b9k:=by
 intro value slice pins s σ H x y v u Q I rx ry h hs;obtain⟨z,i,c,rfl,rfl,hz,he,q⟩:=h;obtain⟨t,rfl⟩:=rx;obtain⟨t',rfl⟩:=ry;obtain⟨j,h1,h2,h3,h4,h5⟩:=a4K he
 have hl:z.cps.toList.length=z.length:=by simp[Str.length]
 rw[hl] at h1 h4 h5;have hn:=a0y
 exact tail_any (typeIs_str s z t) slot_str_getitem.lookup (getItem_str (c:=c) (by
  have e1:decide (i< -(2^63:Int))=false:=decide_eq_false (by omega)
  have e2:decide (i≥2^63)=false:=decide_eq_false (by omega)
  rw[e1,e2,Bool.or_false]) (by rw[h1];simpa using h2) ⟨.str ⟨#[c]⟩,H,I.tok _,⟨_,rfl⟩,q⟩) hs
theorem a6i(its:List Value)(n j:Nat)(u:Value):Obj.mapSeq (·.setIfInBounds j u) {cls:=.type "list",data:=.seq its.toArray n}={cls:=.type "list",data:=.seq (its.set j u).toArray n}:=by
 simp[Obj.mapSeq]
theorem Inv.lst{pins:List (Addr×Obj)}{σ:St}{H:Hp}{s:Shared}{p:Addr}{xs:List V}(I:Inv X pins σ H s)(h:H p=some (.lst xs)):
 ∃(its:List Value) (n:Nat),n8 xs its/\s.heap.get? p=some {cls:=.type "list",data:=.seq its.toArray n}/\xs.length<=sizeLine:=by
 obtain⟨z,its,n,r,e⟩:=I.hok p _ h;exact⟨its,n,r,e,z⟩
theorem Inv.lstUpd{pins:List (Addr×Obj)}{σ:St}{H:Hp}{s:Shared}{p:Addr}{xs ys:List V}{its its':List Value}{n n':Nat}{f:Obj->Obj}(I:Inv X pins σ H s)(h:H p=some (.lst xs))
 (ho:s.heap.get? p=some {cls:=.type "list",data:=.seq its.toArray n}) (hf:f {cls:=.type "list",data:=.seq its.toArray n}={cls:=.type "list",data:=.seq its'.toArray n'}) (r:n8 ys its') (hz:ys.length<=sizeLine) (t:Nat):
 Inv X pins σ (upd H p (.lst ys)) {s with heap:=s.heap.update p f,toks:=t}:=by
 have e:(s.heap.update p f).get? p=some {cls:=.type "list",data:=.seq its'.toArray n'}:=by
  rw[Heap.get?_update_self f ho (by rw[hf]<;>rfl),hf]
 refine I.write (x:=p) (e:=p) (by rw[h];trivial) (.inl rfl) (fun b u hb q=>(Heap.get?_update_other _ _ (Ne.symm hb)).trans q) ⟨_,e⟩ ?_
 exact⟨hz,its',n',r,e⟩
def b6M:V->V->V->Hp->(Hp->Prop)->Prop:=fun o i v H Q=>∃p xs k j,o=.ref p/\i=.int k/\H p=some (.lst xs)/\ixN xs.length k=some j/\Q (upd H p (.lst (xs.set j v)))
theorem a8M:b6h X b6M:=by
 intro pins s σ H o i v ov iv u Q I ro ri rv h;obtain⟨p,xs,k,j,rfl,rfl,hp,hj,q⟩:=h;cases ro;obtain⟨t,rfl⟩:=ri;obtain⟨its,n,r,ho,hz⟩:=I.lst hp;obtain⟨h1,h2,h3,h4⟩:=a7f hj;have hl:=r.length;have hn:=a0y
 have I':Inv X pins σ (upd H p (.lst (xs.set j v))) {s with heap:=s.heap.update p (Obj.mapSeq (·.setIfInBounds j u))}:=
  I.lstUpd hp ho (a6i its n j u) (r.set rv j) (by rw[List.length_set];exact hz) s.toks
 by_cases h0:0<=k
 · have hk:k.toNat=j:=by
    rw[seqIndex_of h0 h4] at h1;exact Option.some.inj h1
   exact PySem.W.ki_setAt ho h0 (by omega) (by rw[List.size_toArray,←hl];exact h4) (by rw[hk];exact⟨_,I',q⟩)
 · have hk:(k+(its.toArray.size:Int)).toNat=j:=by
    rw[seqIndex_neg (by omega) h3] at h1
    rw[List.size_toArray,←hl];exact Option.some.inj h1
   exact PySem.W.ki_setBack ho (by omega) (by rw[List.size_toArray,←hl];exact h3) (by omega) (by rw[hk];exact⟨_,I',q⟩)
theorem a3N(lo hi:Option Int)(n:Nat):(sliceBounds lo hi none n).1=((HT.sIx n 0 lo:Nat):Int)/\(sliceBounds lo hi none n).2.1=((HT.sIx n n hi:Nat):Int)/\(sliceBounds lo hi none n).2.2=1:=by
 refine⟨?_,?_,rfl⟩
 · cases lo with
   |none=>simp[sliceBounds,HT.sIx]
   |some i=>
    simp only[sliceBounds,HT.sIx,Option.getD_none,show(1:Int)>0 by decide,if_true]
    by_cases h:i<0
    · simp only[h,if_true]<;>omega
    · simp only[h,if_false]<;>omega
 · cases hi with
   |none=>simp[sliceBounds,HT.sIx]
   |some i=>
    simp only[sliceBounds,HT.sIx,Option.getD_none,show(1:Int)>0 by decide,if_true]
    by_cases h:i<0
    · simp only[h,if_true]<;>omega
    · simp only[h,if_false]<;>omega
theorem a2Q(its:List Value)(lo hi:Option Int):slicePick its.toArray lo hi none=((its.drop (HT.sIx its.length 0 lo)).take (HT.sIx its.length its.length hi-HT.sIx its.length 0 lo)).toArray:=by
 obtain⟨h1,h2,h3⟩:=a3N lo hi its.toArray.size;unfold slicePick;rw[h1,h2,h3];simp only[sliceRange_one,pick_run,List.size_toArray]<;>rfl
def b9h(K:PySem.W.Frag):V->Option Int->Option Int->Hp->VK->Prop:=fun x lo hi H Q=>∃a xs,x=.ref a/\SqL K H a xs/\∀p,H p=none->Q (.ref p) (upd H p (.lst (a8o xs lo hi)))
theorem b1H:SlR X (b9h X.K):=by
 intro pins s σ H x v vl vu lo hi sl Q I rx hs pl pu h;obtain⟨a,xs,rfl,hx,q⟩:=h;cases rx;obtain⟨its,r,ht,hz⟩:=I.list hx;have hlen:=r.length;refine⟨"list",_,slot_list_getitem.lookup,ht.isList.typeIs,?_⟩
 refine wpAny_getItem_list_slice ht.isList hs pl pu .none (by simp) ?_ (by rw[List.size_toArray]<;>omega)
 rw[a2Q,←hlen];refine⟨.ref s.heap.objs.size,_,I.laid (t':=s.toks) (o:=.lst (a8o xs lo hi)) (fun b ob q=>Heap.get?_push_of_some _ q) (Nat.le_refl _) ?_,rfl,q _ (I.hok.fresh (Nat.le_refl _))⟩
 exact⟨Nat.le_trans (a5I xs lo hi) hz,_,0,(r.drop (HT.sIx xs.length 0 lo)).take (HT.sIx xs.length xs.length hi-HT.sIx xs.length 0 lo),Heap.get?_push_size _ rfl⟩
def K6:V->Bool
 |.non=>true
 |.bl _=>true
 |.int _=>true
 |.str _=>true
 |_=>false
def eqV:V->V->Bool
 |.non,.non=>true
 |.bl a,.bl b=>a==b
 |.bl a,.int b=>(if a then 1 else 0)==b
 |.int a,.bl b=>a==(if b then 1 else 0)
 |.int a,.int b=>a==b
 |.str a,.str b=>a==b
 |_,_=>false
theorem a6x{A:Around}{s:Shared}{y x:V}{u v:Value}(ry:n4 y u)(rx:n4 x v)(fy:K6 y=true)(fx:K6 x=true):SeqAt.EqAt A s u v (eqV y x):=by
 cases y with
 |non=>
  cases ry
  cases x with
  |non=>cases rx;exact SeqAt.EqAt.same _
  |bl b=>cases rx;exact SeqAt.EqAt.none_bool b
  |int b=>obtain⟨t,rfl⟩:=rx;exact SeqAt.EqAt.none_int b t
  |str b=>obtain⟨t,rfl⟩:=rx;exact SeqAt.EqAt.none_str b t
  |_=>exact absurd (show false=true from fx) Bool.false_ne_true
 |bl a=>
  cases ry
  cases x with
  |non=>cases rx;exact SeqAt.EqAt.bool_none a
  |bl b=>cases rx;exact SeqAt.EqAt.bool_bool a b
  |int b=>obtain⟨t,rfl⟩:=rx;exact SeqAt.EqAt.bool_int a b t
  |str b=>obtain⟨t,rfl⟩:=rx;exact SeqAt.EqAt.bool_str a b t
  |_=>exact absurd (show false=true from fx) Bool.false_ne_true
 |int a=>
  obtain⟨t',rfl⟩:=ry
  cases x with
  |non=>cases rx;exact SeqAt.EqAt.int_none a t'
  |bl b=>cases rx;exact SeqAt.EqAt.int_bool a t' b
  |int b=>obtain⟨t,rfl⟩:=rx;exact SeqAt.EqAt.int_int a t' b t
  |str b=>obtain⟨t,rfl⟩:=rx;exact SeqAt.EqAt.int_str a t' b t
  |_=>exact absurd (show false=true from fx) Bool.false_ne_true
 |str a=>
  obtain⟨t',rfl⟩:=ry
  cases x with
  |non=>cases rx;exact SeqAt.EqAt.str_none a t'
  |bl b=>cases rx;exact SeqAt.EqAt.str_bool a t' b
  |int b=>obtain⟨t,rfl⟩:=rx;exact SeqAt.EqAt.str_int a t' b t
  |str b=>obtain⟨t,rfl⟩:=rx;exact SeqAt.EqAt.str_str a t' b t
  |_=>exact absurd (show false=true from fx) Bool.false_ne_true
 |_=>exact absurd (show false=true from fy) Bool.false_ne_true
def eqU(x:V)(u:Value):Bool:=match u with
 |.none=>eqV .non x
 |.bool b=>eqV (.bl b) x
 |.int i _=>eqV (.int i) x
 |.str z _=>eqV (.str z) x
 |_=>false
theorem a6w{x y:V}{u:Value}(r:n4 y u)(f:K6 y=true):eqU x u=eqV y x:=by
 cases y with
 |non=>cases r;rfl
 |bl b=>cases r;rfl
 |int i=>obtain⟨t,rfl⟩:=r;rfl
 |str z=>obtain⟨t,rfl⟩:=r;rfl
 |_=>exact absurd (show false=true from f) Bool.false_ne_true
theorem a0Z{x:V}:∀{xs:List V} {us:List Value},n8 xs us->xs.all K6=true->us.any (eqU x)=xs.any fun y=>eqV y x
 |_,_,.nil,_=>rfl
 |y::xs,u::us,.cons r t,f=>by
  rw[List.all_cons,Bool.and_eq_true] at f;rw[List.any_cons,List.any_cons,a6w r f.1,a0Z t f.2]
theorem U1{A:Around}{s:Shared}{x:V}{v:Value}(rx:n4 x v)(fx:K6 x=true):∀{xs:List V} {us:List Value},n8 xs us->xs.all K6=true->∀u∈us,SeqAt.EqAt A s u v (eqU x u)
 |_,_,.nil,_=>fun u hu=>by cases hu
 |y::xs,u::us,.cons r t,f=>fun u' hu=>by
  rw[List.all_cons,Bool.and_eq_true] at f
  rcases List.mem_cons.mp hu with rfl|hu
  · rw[a6w r f.1];exact a6x r rx f.1 fx
  · exact U1 rx fx t f.2 u' hu
def inV(x:V)(xs:List V):Bool:=xs.any fun y=>eqV y x
def rIn(K:PySem.W.Frag)(neg:Bool):R2:=fun x y H Q=>∃p xs,y=.ref p/\(SqL K H p xs∨SqT K H p xs)/\K6 x=true/\xs.all K6=true/\Q (.bl (if neg then !inV x xs else inV x xs)) H
theorem Z4:OpR X (compareOp .In) (rIn X.K false):=by
 intro pins s σ H x y v u Q I rx ry h;obtain⟨p,xs,rfl,hq,fx,fs,q⟩:=h;cases ry
 rcases hq with hq|hq
 · obtain⟨its,r,pl,hz⟩:=I.list hq;refine SeqAt.in_listAt (eqU x) pl.isList (fun w hw=>U1 rx fx r fs w (by simpa using hw)) ⟨.bl _,H,I,rfl,?_⟩
   rw[show its.toArray.any (eqU x)=its.any (eqU x) by simp,a0Z r fs]
   exact q
 · obtain⟨its,r,pl,hz⟩:=I.tuple hq;refine SeqAt.in_tupleAt (eqU x) pl (fun w hw=>U1 rx fx r fs w (by simpa using hw)) ⟨.bl _,H,I,rfl,?_⟩
   rw[show its.toArray.any (eqU x)=its.any (eqU x) by simp,a0Z r fs]
   exact q
theorem N4:OpR X (compareOp .NotIn) (rIn X.K true):=by
 intro pins s σ H x y v u Q I rx ry h;obtain⟨p,xs,rfl,hq,fx,fs,q⟩:=h;cases ry
 rcases hq with hq|hq
 · obtain⟨its,r,pl,hz⟩:=I.list hq;refine SeqAt.notIn_listAt (eqU x) pl.isList (fun w hw=>U1 rx fx r fs w (by simpa using hw)) ⟨.bl _,H,I,rfl,?_⟩
   rw[show its.toArray.any (eqU x)=its.any (eqU x) by simp,a0Z r fs]
   exact q
 · obtain⟨its,r,pl,hz⟩:=I.tuple hq;refine SeqAt.notIn_tupleAt (eqU x) pl (fun w hw=>U1 rx fx r fs w (by simpa using hw)) ⟨.bl _,H,I,rfl,?_⟩
   rw[show its.toArray.any (eqU x)=its.any (eqU x) by simp,a0Z r fs]
   exact q
theorem a3X:OpR X (compareOp .NotIn) (fun x y H Q=>∃i j,x=.str i/\y=.str j/\Q (.bl (!(!(Builtin.Str.occurrences j i 0 j.length 1).isEmpty))) H):=by
 intro pins s σ H x y v u Q I rx ry h;obtain⟨i,j,rfl,rfl,q⟩:=h;obtain⟨t,rfl⟩:=rx;obtain⟨t',rfl⟩:=ry;exact notIn_str ⟨.bl _,H,I,rfl,q⟩
theorem a0Y:D1 X (.builtin "len") (fun xs H Q=>∃p ys,xs=[.ref p]/\(SqL X.K H p ys∨SqT X.K H p ys)/\Q (.int ys.length) H):=by
 intro pins s σ H xs us Q I r h;obtain⟨p,ys,rfl,hq,q⟩:=h;obtain⟨u,rfl,rx⟩:=O8 r;cases rx;have hn:=a0y
 rcases hq with hq|hq
 · obtain⟨its,r',pl,hz⟩:=I.list hq;have hlen:=r'.length;exact Calls.call_len_list pl.isList (by simp only[List.size_toArray]<;>omega) ⟨.int ys.length,H,I.tok _,⟨s.toks+1,by rw[List.size_toArray,hlen]⟩,q⟩
 · obtain⟨its,r',pl,hz⟩:=I.tuple hq;have hlen:=r'.length;exact len_tuple pl (by simp only[List.size_toArray]<;>omega) ⟨.int ys.length,H,I.tok _,⟨s.toks+1,by rw[List.size_toArray,hlen]⟩,q⟩
theorem a4G:D1 X (.builtin "len") (fun xs H Q=>∃z,xs=[.str z]/\z.length<=sizeLine/\Q (.int z.length) H):=by
 intro pins s σ H xs us Q I r h;obtain⟨z,rfl,hz,q⟩:=h;obtain⟨u,rfl,t,rfl⟩:=O8 r;have hn:=a0y;exact len_str (by omega) ⟨.int z.length,H,I.tok _,⟨_,rfl⟩,q⟩
theorem a0X:D1 X (.type "list") (fun xs H Q=>∃p ys,xs=[.ref p]/\(SqL X.K H p ys∨SqT X.K H p ys)/\∀l,H l=none->Q (.ref l) (upd H l (.lst ys))):=by
 intro pins s σ H xs us Q I r h;obtain⟨p,ys,rfl,hq,q⟩:=h;obtain⟨u,rfl,rx⟩:=O8 r;cases rx
 have fin:∀(its:List Value),n8 ys its->ys.length<=sizeLine->∀(h':Heap) (c':Nat),(∀b o',s.heap.get? b=some o'->h'.get? b=some o')→
  h'.get? s.heap.objs.size=some {cls:=.type "list",dict:=none,data:=.seq its.toArray c',slots:= #[]}->EP X pins σ Q (.ref s.heap.objs.size) {s with heap:=h'}:=fun its r' hz h' c' kp e=>
  ⟨.ref s.heap.objs.size,_,I.laid (t':=s.toks) kp (Nat.le_refl _) (show x3 X.prog X.w _ h' _ (.lst ys) from⟨hz,its,c',r',e⟩),rfl,q _ (I.hok.fresh (Nat.le_refl _))⟩
 rcases hq with hq|hq
 · obtain⟨its,r',pl,hz⟩:=I.list hq;have hlen:=r'.length;obtain⟨o,ho,hc,n,hd⟩:=pl.isList;exact call_list_seq p (.inl rfl) ho hc hd (fun h' c' kp e=>fin its r' hz h' c' kp e) (by simp only[List.size_toArray]<;>omega)
 · obtain⟨its,r',pl,hz⟩:=I.tuple hq;have hlen:=r'.length;obtain⟨o,ho,hc,n,hd⟩:=pl;exact call_list_seq p (.inr rfl) ho hc hd (fun h' c' kp e=>fin its r' hz h' c' kp e) (by simp only[List.size_toArray]<;>omega)
theorem a0o:D1 X (.type "tuple") (fun xs H Q=>∃p ys,xs=[.ref p]/\((SqL X.K H p ys/\∀l,H l=none->Q (.ref l) (upd H l (.tup ys)))∨(SqT X.K H p ys/\Q (.ref p) H))):=by
 intro pins s σ H xs us Q I r h;obtain⟨p,ys,rfl,h⟩:=h;obtain⟨u,rfl,rx⟩:=O8 r;cases rx
 rcases h with⟨hq,q⟩|⟨hq,q⟩
 · obtain⟨its,r',pl,hz⟩:=I.list hq;have hlen:=r'.length;refine call_tuple_list pl.isList (fun h' kp=>?_) (by simp only[List.size_toArray]<;>omega)
   have I1:Inv X pins σ H {s with heap:=h'}:=I.kept (t':=s.toks) kp
   have I2:Inv X pins σ (upd H h'.objs.size (.tup ys)) {s with heap:=h'.push {cls:=.type "tuple",data:=.seq its.toArray}}:=
    I1.laid (t':=s.toks) (fun b o e=>Heap.get?_push_of_some _ e) (Nat.le_refl _) (show x3 X.prog X.w _ _ _ (.tup ys) from⟨hz,its,r',a0G.new _ _⟩)
   exact⟨.ref h'.objs.size,_,I2,rfl,q _ (I1.hok.fresh (Nat.le_refl _))⟩
 · obtain⟨its,r',pl,hz⟩:=I.tuple hq;exact call_tuple_same pl ⟨.ref p,H,I,rfl,q⟩
def tyV(K:PySem.W.Frag)(T:String)(x:V)(H:Hp):Prop:=match x with
 |.str _=>T="str"
 |.int _=>T="int"
 |.ref p=>(T="list"/\∃xs,SqL K H p xs)∨(T="tuple"/\∃o,K.lookup p=some o/\o.cls=.type "tuple"/\o.dict=none)∨
  (T="dict"/\((∃kvs,H p=some (.dK kvs))∨∃kvs,H p=some (.dT kvs)))∨(T="set"/\∃S n,H p=some (.set S n))
 |_=>False
theorem b3H{pins:List (Addr×Obj)}{σ:St}{H:Hp}{s:Shared}{T:String}{x:V}{v:Value}(I:Inv X pins σ H s)(r:n4 x v)(ty:tyV X.K T x H):
 s.TypeIs v T/\∀a,v=.ref a->∃ob,s.heap.get? a=some ob/\ob.dict=none:=by
 cases x with
 |str z=>
  obtain⟨t,rfl⟩:=r
  cases (show T="str" from ty)
  exact⟨typeIs_str s z t,fun _ e=>nomatch e⟩
 |int i=>
  obtain⟨t,rfl⟩:=r
  cases (show T="int" from ty)
  exact⟨typeIs_int s i t,fun _ e=>nomatch e⟩
 |ref p=>
  cases r
  rcases ty with⟨rfl,xs,hq⟩|⟨rfl,o,hk,hc,hd⟩|⟨rfl,hk⟩|⟨rfl,S,n,hk⟩
  · obtain⟨its,_,pl,_⟩:=I.list hq;refine⟨pl.isList.typeIs,fun a e=>?_⟩
    cases e;obtain⟨o,n,e,c,hd,_⟩:=pl;exact⟨o,e,hd⟩
  · refine⟨⟨o,I.kIn p o hk,hc⟩,fun a e=>?_⟩
    cases e;exact⟨o,I.kIn _ o hk,hd⟩
  · have z:∃o,s.heap.get? p=some o/\o.ExactDict:=by
     rcases hk with⟨kvs,hk⟩|⟨kvs,hk⟩
     · obtain⟨_,_,_,_,o,_,_,e,ex,_⟩:=I.hok p _ hk;exact⟨o,e,ex⟩
     · obtain⟨_,_,_,_,o,_,_,e,ex,_⟩:=I.hok p _ hk;exact⟨o,e,ex⟩
    obtain⟨o,e,ex⟩:=z;refine⟨⟨o,e,ex.1⟩,fun a e2=>?_⟩
    cases e2;exact⟨o,e,ex.2.1⟩
  · obtain⟨o,_,_,_,e,ex,_⟩:=I.hok p _ hk;refine⟨⟨o,e,ex.1⟩,fun a e2=>?_⟩
    cases e2;exact⟨o,e,ex.2.1⟩
 |_=>exact False.elim ty
def tBM(K:PySem.W.Frag)(T:String)(r:V->List V->Hp->VK->Prop)(to:TE)(t:TA):TE:=fun σ H Q=>to σ H fun x H1=>tyV K T x H1/\t σ H1 fun xs H2=>r x xs H2 Q
variable{o e:Expr}{es:List Expr}{to:TE}{t:TA}{name:Str}{apos cpos:Pos}{T id:String}{r:V->List V->Hp->VK->Prop}
theorem a6U(pa:PlainAttrs T)(slot:Slot T name id)(hty:typeOf (.builtin id)=pure (.type "method_descriptor"))(hm:MtR X id r)(ho:PE X o to)(ha:PA X (e::es) t)
 (hbase:attributeBase o name X.env (eval o X.env)=eval o X.env:=by rfl)
 (hfew:((backTo cpos (starEach (e::es) X.env)).all (fun x=>!x.1)&&(backToKw cpos (keywordEach [] X.env)).all (fun x=>x.1.isSome)
  &&decide ((e::es).length+([]:List Keyword).length+(if([]:List Keyword).isEmpty then 0 else 1)<30))=true:=by rfl)
 (hline:(apos.endLine==cpos.line)=true:=by rfl) (hs:starEach (e::es) X.env=(false,eval e X.env)::starEach es X.env:=by rfl) (hplain:(backTo cpos (starEach es X.env)).any (·.1)=false:=by rfl):
 PE X (.Call (.Attribute o name apos) (e::es) [] cpos) (tBM X.K T r to t):=by
 intro pins s σ H Q I h;refine wpAny_Call_method_late hbase hfew hline rfl (thn (ho pins s σ H _ I h) fun v s1 ⟨x,H1,I1,r1,ty,q1⟩=>?_)
 obtain⟨h1,h2⟩:=b3H I1 r1 ty;refine⟨T,id,pa,slot,hty,h1,h2,?_⟩
 have hA:=ha cpos pins s1 σ H1 _ I1 q1;rw[hs] at hA⊢;refine Calls.callWith_builtin (by show(false||(backTo cpos (starEach es X.env)).any (·.1))=false;rw[hplain]<;>rfl) (Calls.evalArgs_plain ?_)
 exact thn hA fun us s2 ⟨vs,H2,I2,r2,q2⟩=>hm pins s2 σ H2 x vs v us Q I2 r1 r2 q2
end
end L2
namespace L2
open PySem PySem.Spec PyProof.Rows
def MtM(X:Cx)(id:String)(r:V->List V->Hp->VK->Prop):Prop:=
 ∀(pins:List (Addr×Obj)) (s:Shared) (σ:St) (H:Hp) (x:V) (xs:List V) (v:Value) (us:List Value) (Q:VK),Inv X pins σ H s->n4 x v->n8 xs us->r x xs H Q→
  wpAny (model X.prog X.w) X.A (call (.builtin id) (v::us)) (EP X pins σ Q) X.xe s
theorem n8.one:∀{x:V} {us:List Value},n8 [x] us->∃u,us=[u]/\n4 x u
 |_,_,.cons r .nil=>⟨_,rfl,r⟩
theorem n8.rep{xs:List V}{us:List Value}(h:n8 xs us):∀k:Nat,n8 (List.replicate k xs).flatten (List.replicate k us).flatten
 |0=>.nil
 |k+1=>by
  rw[List.replicate_succ,List.replicate_succ,List.flatten_cons,List.flatten_cons];exact n8.append h (n8.rep h k)
theorem a3p(its:List Value):∀(k:Nat) (acc:List Value),
 List.foldl (fun x1 x2=>x1++x2) acc.toArray (List.replicate k its.toArray)=(acc++(List.replicate k its).flatten).toArray
 |0,acc=>by simp
 | k+1,acc=>by
  have e:acc.toArray++its.toArray=(acc++its).toArray:=by simp
  have e2:(acc++its)++(List.replicate k its).flatten=acc++(List.replicate (k+1) its).flatten:=by
   rw[List.replicate_succ,List.flatten_cons,List.append_assoc]
  rw[←e2,←a3p its k (acc++its),←e,List.replicate_succ,List.foldl_cons]
section
variable{X:Cx}{pins:List (Addr×Obj)}{σ:St}{H:Hp}{s:Shared}{l b:Addr}{xs ys zs:List V}
theorem Inv.lset{its its':List Value}{n:Nat}{f:Array Value->Array Value}{t':Nat}(I:Inv X pins σ H s)(hH:H l=some (.lst xs))
 (e:s.heap.get? l=some {cls:=.type "list",data:=.seq its.toArray n}) (hf:f its.toArray=its'.toArray) (hv:n8 ys its') (hz:ys.length<=sizeLine):
 Inv X pins σ (upd H l (.lst ys)) {s with heap:=s.heap.update l (Obj.mapSeq f),toks:=t'}:=by
 have q:=PySem.IsL.update e f;rw[hf] at q;refine I.write (x:=l) (e:=l) (by rw[hH];exact trivial) (.inl rfl) (fun b' u hb hu=>(Heap.get?_update_other s.heap (Obj.mapSeq f) (Ne.symm hb)).trans hu) ⟨_,q⟩ ?_
 exact⟨hz,its',_,hv,q⟩
theorem Inv.lnew{its:List Value}{t':Nat}(I:Inv X pins σ H s)(hv:n8 ys its)(hz:ys.length<=sizeLine):
 Inv X pins σ (upd H s.heap.objs.size (.lst ys)) {s with heap:=s.heap.push {cls:=.type "list",data:=.seq its.toArray},toks:=t'}:=
 I.laid (fun _ _ q=>Heap.get?_push_of_some _ q) (Nat.le_refl _) ⟨hz,its,0,hv,Heap.get?_push_size _ rfl⟩
theorem Inv.fresh(I:Inv X pins σ H s):H s.heap.objs.size=none:=I.hok.fresh (Nat.le_refl _)
theorem Inv.lstM(I:Inv X pins σ H s)(hH:H l=some (.lst xs)):xs.length<=sizeLine/\∃(its:List Value) (n:Nat),n8 xs its/\xs.length=its.length/\s.heap.get? l=some {cls:=.type "list",data:=.seq its.toArray n}:=by
 obtain⟨z,its,n,r,e⟩:=I.hok l _ hH;exact⟨z,its,n,r,r.length,e⟩
theorem a9x{n:Nat}(h:n<=sizeLine):Builtin.List.listTooLong n=false:=by
 unfold Builtin.List.listTooLong;exact decide_eq_false (by omega)
end
section
variable{X:Cx}
def b1R:V->List V->Hp->VK->Prop:=fun x vs H Q=>∃l xs y,x=.ref l/\vs=[y]/\H l=some (.lst xs)/\xs.length<sizeLine/\Q .non (upd H l (.lst (xs++[y])))
theorem a3j:MtM X "list.append" b1R:=by
 intro pins s σ H x vs v us Q I rx rv h;obtain⟨l,xs,y,rfl,rfl,hH,hz,q⟩:=h;cases rx;obtain⟨u,rfl,ru⟩:=rv.one;obtain⟨z,its,n,r,hl,e⟩:=I.lstM hH;refine call_meets F.slot_list_append ⟨_,e,rfl⟩ F.entry_list_append (F.args_list_append_2 _ _) (PySem.list_append l its.toArray n u (by rw[List.size_toArray];omega)) ⟨e,?_⟩
 refine⟨.non,_,I.lset (its':=its++[u]) hH e (by simp) (r.append (.cons ru .nil)) ?_,rfl,q⟩
 rw[List.length_append,List.length_singleton];omega
def b9n:R2:=fun x y H Q=>∃l b xs zs,x=.ref l/\y=.ref b/\H l=some (.lst xs)/\H b=some (.lst zs)/\xs.length+zs.length<=sizeLine/\∀p,H p=none->Q (.ref p) (upd H p (.lst (xs++zs)))
theorem b4G:OpR X (binaryOp .Add) b9n:=by
 intro pins s σ H x y v u Q I rx ry h;obtain⟨l,b,xs,zs,rfl,rfl,hH,hB,hz,q⟩:=h;cases rx;cases ry;obtain⟨z,its,n,r,hl,e⟩:=I.lstM hH;obtain⟨z2,its2,n2,r2,hl2,e2⟩:=I.lstM hB;refine PySem.P.add_list e e2 ?_ (by rw[List.size_toArray,List.size_toArray];omega)
 have ea:its.toArray++its2.toArray=(its++its2).toArray:=by simp
 rw[ea];exact⟨.ref _,_,I.lnew (t':=s.toks) (r.append r2) (by rw[List.length_append];omega),rfl,q _ I.fresh⟩
def b9i:R2:=fun x y H Q=>∃l k xs,x=.ref l/\y=.int k/\H l=some (.lst xs)/\ -(2^63)<=k/\k<2^63/\xs.length*k.toNat<=sizeLine∧
 ∀p,H p=none->Q (.ref p) (upd H p (.lst (List.replicate k.toNat xs).flatten))
theorem b2u{α:Type}(xs:List α)(k:Nat):(List.replicate k xs).flatten.length=k*xs.length:=by
 induction k with
 |zero=>simp
 |succ k ih=>rw[List.replicate_succ,List.flatten_cons,List.length_append,ih,Nat.succ_mul,Nat.add_comm]
theorem b4y:OpR X (binaryOp .Mult) b9i:=by
 intro pins s σ H x y v u Q I rx ry h;obtain⟨l,k,xs,rfl,rfl,hH,h1,h2,hz,q⟩:=h;cases rx;obtain⟨t,rfl⟩:=ry;obtain⟨z,its,n,r,hl,e⟩:=I.lstM hH
 have hlen:its.toArray.size*k.toNat<=sizeLine:=by rw[List.size_toArray,←hl];exact hz
 have hcap:¬its.toArray.size*k.toNat>(2^63-1)/8:=by
  have:(sizeLine:Nat)<=(2^63-1)/8:=by decide
  omega
 have hfit:¬(!Builtin.List.listFitsIndex k)=true:=by
  rw[fitsIndex_both h1 h2];exact Bool.false_ne_true
 have hlong:¬Builtin.List.listTooLong (its.toArray.size*k.toNat)=true:=by
  rw[a9x hlen];exact Bool.false_ne_true
 have hnew:List.foldl (fun x1 x2=>x1++x2) #[] (List.replicate (if its.toArray.isEmpty=true then 0 else k.toNat) its.toArray)=(List.replicate k.toNat its).flatten.toArray:=by
  have f0:∀m:Nat,List.foldl (fun x1 x2=>x1++x2) #[] (List.replicate m its.toArray)=(List.replicate m its).flatten.toArray:=fun m=>by
   have:=a3p its m []
   rw[List.nil_append] at this;exact this
  rw[f0]
  cases its with
  |nil=>simp
  |cons a r'=>rw[if_neg (by simp)]
 refine wpAny_binaryOp_repeat_ref (T:="list") (U:="int") (by decide) ⟨_,e,rfl⟩ (fun s'=>typeIs_int s' k t) noFill_list_mul F.fills_int_mul F.slot_int_rmul repeat_list F.slot_int_index.lookup
  (call_meets F.slot_int_rmul (typeIs_int s k t) F.entry_int_rmul (F.args_int_rmul_2 _ _) (int___rmul___int_list k t l its.toArray n)
   ⟨e,rfl,⟨_,e,rfl⟩,call_meets F.slot_list_mul ⟨_,e,rfl⟩ F.entry_list_mul (F.args_list_mul_2 _ _) (AutoListH.list___mul___list_int_3 l its.toArray n k t hfit hcap hlong) ⟨e,?_⟩⟩)
 rw[hnew];exact⟨.ref _,_,I.lnew (t':=s.toks) (r.rep k.toNat) (by rw[b2u,Nat.mul_comm];exact hz),rfl,q _ I.fresh⟩
end
end L2
namespace L2
open PySem PySem.Spec PyProof.Rows
section
variable{κ:Type}[DecidableEq κ]
def T7(kvs:List (κ×V))(k:κ):Option V:=(kvs.find? fun kv=>decide (kv.1=k)).map (·.2)
def M8(kvs:List (κ×V))(k:κ)(v:V):List (κ×V):=
 if(kvs.any fun kv=>decide (kv.1=k))=true then kvs.map (fun kv=>if kv.1=k then(kv.1,v) else kv) else kvs++[(k,v)]
theorem W4{p:κ×V}{r:List (κ×V)}{k:κ}(e:p.1=k):T7 (p::r) k=some p.2:=by simp[T7,List.find?_cons,e]
theorem W5{p:κ×V}{r:List (κ×V)}{k:κ}(e:¬p.1=k):T7 (p::r) k=T7 r k:=by simp[T7,List.find?_cons,e]
theorem a4T(k:κ):∀kvs:List (κ×V),(kvs.any fun kv=>decide (kv.1=k))=(T7 kvs k).isSome
 |[]=>rfl
 |p::r=>by
  rw[List.any_cons]
  by_cases e:p.1=k
  · simp only[W4 e,decide_eq_true e,Bool.true_or,Option.isSome_some]
  · rw[W5 e,decide_eq_false e,Bool.false_or];exact a4T k r
theorem X3(kvs:List (κ×V))(k:κ)(v:V):(M8 kvs k v).length<=kvs.length+1:=by
 unfold M8
 split
 · rw[List.length_map];omega
 · rw[List.length_append,List.length_cons,List.length_nil];omega
theorem a0h.isSome_eq{o:Option V}{u:Option Value}(r:a0h o u):o.isSome=u.isSome:=by
 cases o with
 |none=>cases u with
  |none=>rfl
  |some _=>exact(show False from r).elim
 |some _=>cases u with
  |none=>exact(show False from r).elim
  |some _=>rfl
theorem a0h.getD{o:Option V}{u:Option Value}{d:V}{d':Value}(r:a0h o u)(rd:n4 d d'):n4 (o.getD d) (u.getD d'):=by
 cases o with
 |none=>cases u with
  |none=>exact rd
  |some _=>exact(show False from r).elim
 |some _=>cases u with
  |none=>exact(show False from r).elim
  |some _=>exact r
theorem KV.val{kvs:List (κ×V)}{vs:List (κ×Value)}(r:KV kvs vs)(k:κ):a0h (T7 kvs k) (valueAt vs k):=by
 unfold KV at r
 induction r with
 |nil=>exact True.intro
 | @cons p q ps qs h t ih=>
  obtain⟨h1,h2⟩:=h
  by_cases e:p.1=k
  · have e':q.1=k:=h1.symm.trans e
    have b:valueAt (q::qs) k=some q.2:=by simp[valueAt,List.find?_cons,e']
    rw[W4 e,b];exact h2
  · have e':¬q.1=k:=fun z=>e (h1.trans z)
    have b:valueAt (q::qs) k=valueAt qs k:=by simp[valueAt,List.find?_cons,e']
    rw[W5 e,b];exact ih
theorem KV.any{kvs:List (κ×V)}{vs:List (κ×Value)}(r:KV kvs vs)(k:κ):(kvs.any fun kv=>decide (kv.1=k))=vs.any fun kv=>decide (kv.1=k):=by
 unfold KV at r
 induction r with
 |nil=>rfl
 |cons h t ih=>rw[List.any_cons,List.any_cons,ih,h.1]
theorem KV.repl{kvs:List (κ×V)}{vs:List (κ×Value)}(r:KV kvs vs)(k:κ){y:V}{u:Value}(ry:n4 y u):
 KV (kvs.map fun kv=>if kv.1=k then(kv.1,y) else kv) (vs.map fun kv=>if kv.1=k then(kv.1,u) else kv):=by
 unfold KV at r⊢
 induction r with
 |nil=>exact .nil
 | @cons p q ps qs h t ih=>
  rw[List.map_cons,List.map_cons];refine .cons ?_ ih
  obtain⟨h1,h2⟩:=h
  by_cases e:p.1=k
  · rw[if_pos e,if_pos (h1.symm.trans e)];exact⟨h1,ry⟩
  · rw[if_neg e,if_neg (fun z=>e (h1.trans z))];exact⟨h1,h2⟩
theorem KV.put{kvs:List (κ×V)}{vs:List (κ×Value)}(r:KV kvs vs)(k:κ){y:V}{u:Value}(ry:n4 y u):KV (M8 kvs k y) (stored vs k u):=by
 unfold M8 stored;rw[r.any k]
 by_cases e:(vs.any fun kv=>decide (kv.1=k))=true
 · rw[if_pos e,if_pos e];exact r.repl k ry
 · rw[if_neg e,if_neg e];exact Paired.snoc r ⟨rfl,ry⟩
theorem KV.length{kvs:List (κ×V)}{vs:List (κ×Value)}(r:KV kvs vs):kvs.length=vs.length:=Paired.length r
end
theorem X5{P:Program}{w:World}{k:Key}{u:Value}(r:n4 (kV k) u):(u5 P w).is k u=true:=by
 cases k with
 |inl i=>obtain⟨t,e⟩:=(show∃t,u=Value.int i t from r);subst e;exact a5o P w i t
 |inr x=>obtain⟨t,e⟩:=(show∃t,u=Value.str x t from r);subst e;exact a5n P w x t
theorem a3m{P:Program}{w:World}:∀{ks:List Key} {us:List Value},n8 (ks.map kV) us->ItemsAre (u5 P w) ks us
 |[],_,r=>by rw[List.map_nil] at r;cases r;exact .nil
 |k::ks,_,r=>by
  rw[List.map_cons] at r
  cases r with
  |cons h t=>exact .cons (X5 h) (a3m t)
abbrev KT(H:Hp):List (List Key×V)->List (List Key×Addr×Value)->Prop:=Paired fun p q=>p.1=q.1/\H q.2.1=some (.tup (p.1.map kV))/\n4 p.2 q.2.2
theorem KT.val{H:Hp}{kvs:List (List Key×V)}{xs:List (List Key×Addr×Value)}(r:KT H kvs xs)(k:List Key):a0h (T7 kvs k) ((atKey xs k).map (·.2)):=by
 induction r with
 |nil=>exact True.intro
 | @cons p q ps qs h t ih=>
  obtain⟨h1,_,h2⟩:=h
  by_cases e:p.1=k
  · have e':q.1=k:=h1.symm.trans e
    have b:atKey (q::qs) k=some q.2:=by simp[atKey,List.find?_cons,e']
    rw[W4 e,b];exact h2
  · have e':¬q.1=k:=fun z=>e (h1.trans z)
    have b:atKey (q::qs) k=atKey qs k:=by simp[atKey,List.find?_cons,e']
    rw[W5 e,b];exact ih
theorem KT.repl{H:Hp}{kvs:List (List Key×V)}{xs:List (List Key×Addr×Value)}(r:KT H kvs xs)(k:List Key){y:V}{u:Value}(ry:n4 y u):
 KT H (kvs.map fun kv=>if kv.1=k then(kv.1,y) else kv) (xs.map (putAt k u)):=by
 induction r with
 |nil=>exact .nil
 | @cons p q ps qs h t ih=>
  rw[List.map_cons,List.map_cons];refine .cons ?_ ih
  obtain⟨h1,h2,h3⟩:=h;unfold putAt
  by_cases e:p.1=k
  · rw[if_pos e,if_pos (h1.symm.trans e)];exact⟨h1,h2,ry⟩
  · rw[if_neg e,if_neg (fun z=>e (h1.trans z))];exact⟨h1,h2,h3⟩
theorem KT.put{H:Hp}{kvs:List (List Key×V)}{xs:List (List Key×Addr×Value)}(r:KT H kvs xs)(k:List Key){b:Addr}{y:V}{u:Value}(hb:H b=some (.tup (k.map kV)))(ry:n4 y u):
 KT H (M8 kvs k y) (storedH xs k b u):=by
 have e:(kvs.any fun kv=>decide (kv.1=k))=(atKey xs k).isSome:=by
  rw[a4T,(r.val k).isSome_eq,Option.isSome_map]
 unfold M8 storedH;rw[e]
 by_cases q:(atKey xs k).isSome=true
 · rw[if_pos q,if_pos q];exact r.repl k ry
 · rw[if_neg q,if_neg q];exact Paired.snoc r ⟨rfl,hb,ry⟩
theorem KT.keeps{H H':Hp}{kvs:List (List Key×V)}{xs:List (List Key×Addr×Value)}(r:KT H kvs xs)(ht:∀b ys,H b=some (.tup ys)->H' b=some (.tup ys)):KT H' kvs xs:=
 Paired.mapP r fun _ _ z=>⟨z.1,ht _ _ z.2.1,z.2.2⟩
section
variable{P:Program}{w:World}{H:Hp}{h:Heap}{a:Addr}
theorem b3u{u:HO}(ok:HOk P w H h)(e:Rd H a u):x3 P w H h a u:=e.ok ok
theorem a1x{kvs:List (Key×V)}(ok:HOk P w H h)(e:Rd H a (.dK kvs)):kvs.length<=sizeLine/\(a==sysModules)=false/\∃vs,KV kvs vs/\h.DictOf (u5 P w) a vs:=
 show x3 P w H h a (.dK kvs) from b3u ok e
theorem b3A{kvs:List (Key×V)}(ok:HOk P w H h)(e:H a=some (.dK kvs)):kvs.length<=sizeLine/\(a==sysModules)=false/\∃vs,KV kvs vs/\h.DictOf (u5 P w) a vs:=a1x ok (.inl e)
theorem a1h{ks:List Key}(ok:HOk P w H h)(e:H a=some (.tup (ks.map kV))):(tupleKind (u5 P w)).is h ks a:=by
 obtain⟨_,its,r,o,h1,h2,_,n,h3⟩:=(show x3 P w H h a (.tup (ks.map kV)) from ok a _ e);exact⟨o,its.toArray,n,h1,h2,h3,by simpa using a3m r⟩
theorem a2B{kvs:List (List Key×V)}(ok:HOk P w H h)(e:Rd H a (.dT kvs)):kvs.length<=sizeLine/\(a==sysModules)=false∧
 ∃xs,KT H kvs xs/\h.DictOfH (tupleKind (u5 P w)) a xs:=by
 obtain⟨z,y,xs,r,o,es,ep,h1,h2,h3,h4,h5⟩:=(show x3 P w H h a (.dT kvs) from b3u ok e);refine⟨z,y,xs,r,o,es,ep,h1,h2,h3,h4,fun x hx=>?_,h5⟩
 have all:∀{l:List (List Key×V)} {m:List (List Key×Addr×Value)},KT H l m->∀x∈m,(tupleKind (u5 P w)).is h x.1 x.2.1:=by
  intro l m q
  induction q with
  |nil=>intro x hx;exact nomatch hx
  | @cons p q ps qs hq t ih=>
   intro x hx
   rcases List.mem_cons.mp hx with e|hx
   · subst e;exact a1h ok (by rw[←hq.1];exact hq.2.1)
   · exact ih x hx
 exact all r x hx
theorem b8a{kvs:List (List Key×V)}(ok:HOk P w H h)(e:H a=some (.dT kvs)):kvs.length<=sizeLine/\(a==sysModules)=false∧
 ∃xs,KT H kvs xs/\h.DictOfH (tupleKind (u5 P w)) a xs:=a2B ok (.inl e)
end
def a6H(H:Hp)(a:Addr)(y:V)(r:Option V):Prop:=
 (∃kvs k,Rd H a (.dK kvs)/\y=kV k/\r=T7 kvs k)∨∃kvs k b,Rd H a (.dT kvs)/\y=.ref b/\H b=some (.tup (k.map kV))/\r=T7 kvs k
def b9X(H:Hp)(a:Addr)(y v:V)(H':Hp):Prop:=
 (∃kvs k,H a=some (.dK kvs)/\y=kV k/\kvs.length<sizeLine/\H'=upd H a (.dK (M8 kvs k v)))∨
 ∃kvs k b,H a=some (.dT kvs)/\y=.ref b/\H b=some (.tup (k.map kV))/\kvs.length<sizeLine/\H'=upd H a (.dT (M8 kvs k v))
section
variable{X:Cx}{pins:List (Addr×Obj)}{σ:St}{H:Hp}{s:Shared}{a:Addr}{y v:V}{u r:Value}{o:Option V}{A:Around}{E:Value->Shared->Prop}
theorem Inv.big(I:Inv X pins σ H s):sysModules<s.heap.objs.size:=by
 have h:mainGlobals<s.heap.objs.size:=(I.mod.glob.keeps I.bk).lt
 exact Nat.lt_trans (by decide) h
theorem a8n{Q:Value->Shared->Prop}(hu:A.units+1<cLine)(I:Inv X pins σ H s)(g:a6H H a y (some v))(ry:n4 y u)(h:∀w' s',Inv X pins σ H s'->n4 v w'->Q w' s'):
 wpAny (model X.prog X.w) A (getItem (.ref a) u) Q E s:=by
 rcases g with⟨kvs,k,e,ey,l⟩|⟨kvs,k,b,e,ey,eb,l⟩
 · subst ey;obtain⟨z,hd,vs,rel,dd⟩:=a1x I.hok e;obtain⟨w',hw,rw'⟩:=a0h.some_of (v:=v) (o:=valueAt vs k) (by rw[l];exact rel.val k)
   exact wpAny_getItem_of (X5 ry) dd.mapOf hw (h w' _ (I.tok _) rw')
 · subst ey
   cases (show u=Value.ref b from ry)
   obtain⟨z,hd,xs,rel,dd⟩:=a2B I.hok e;obtain⟨w',hw,rw'⟩:=a0h.some_of (v:=v) (o:=(atKey xs k).map (·.2)) (by rw[l];exact rel.val k)
   obtain⟨p,hp,hp2⟩:=Option.map_eq_some_iff.mp hw;refine wpAny_getItem_heap (tupleKind_room_in1 hu) (a1h I.hok eb) dd hp ?_
   rw[hp2];exact h w' _ (I.tok _) rw'
theorem b9G{Q:Value->Shared->Prop}(hu:A.units+1<cLine)(I:Inv X pins σ H s)(g:a6H H a y o)(ry:n4 y u)(h:∀s',Inv X pins σ H s'->Q (.bool o.isSome) s'):
 wpAny (model X.prog X.w) A (compareOp .In u (.ref a)) Q E s:=by
 rcases g with⟨kvs,k,e,ey,l⟩|⟨kvs,k,b,e,ey,eb,l⟩
 · subst ey;obtain⟨z,hd,vs,rel,dd⟩:=a1x I.hok e;refine wpAny_in_of (X5 ry) hd dd.mapOf ?_
   rw[←(rel.val k).isSome_eq,←l];exact h _ (I.tok _)
 · subst ey
   cases (show u=Value.ref b from ry)
   obtain⟨z,hd,xs,rel,dd⟩:=a2B I.hok e;refine wpAny_in_heap (tupleKind_room_in1 hu) (a1h I.hok eb) hd dd ?_
   have q:=(rel.val k).isSome_eq;rw[Option.isSome_map] at q;rw[←q,←l];exact h _ (I.tok _)
theorem b3c{Q:Value->Shared->Prop}(hu:A.units+1<cLine)(I:Inv X pins σ H s)(g:a6H H a y o)(ry:n4 y u)(h:∀s',Inv X pins σ H s'->Q (.bool (!o.isSome)) s'):
 wpAny (model X.prog X.w) A (compareOp .NotIn u (.ref a)) Q E s:=by
 rcases g with⟨kvs,k,e,ey,l⟩|⟨kvs,k,b,e,ey,eb,l⟩
 · subst ey;obtain⟨z,hd,vs,rel,dd⟩:=a1x I.hok e;refine wpAny_notIn_of (X5 ry) hd dd.mapOf ?_
   rw[←(rel.val k).isSome_eq,←l];exact h _ (I.tok _)
 · subst ey
   cases (show u=Value.ref b from ry)
   obtain⟨z,hd,xs,rel,dd⟩:=a2B I.hok e;refine wpAny_notIn_heap (tupleKind_room_in1 hu) (a1h I.hok eb) hd dd ?_
   have q:=(rel.val k).isSome_eq;rw[Option.isSome_map] at q;rw[←q,←l];exact h _ (I.tok _)
theorem a4B{h':Heap}{t':Nat}{ob:HO}(I:Inv X pins σ H s)(mu:Mut (H a))(hs:Heap.SameBut a s.heap h')(he:∃q,h'.get? a=some q)(new:x3 X.prog X.w (upd H a ob) h' a ob):
 Inv X pins σ (upd H a ob) {s with heap:=h',toks:=t'}:=
 I.write (x:=a) (e:=a) mu (.inl rfl) (fun b q hb z=>(hs.2 b hb).trans z) he new
theorem a6y{P:Program}{w:World}{H':Hp}{h':Heap}{kvs:List (Key×V)}{vs:List (Key×Value)}(z:kvs.length<=sizeLine)(hd:(a==sysModules)=false)(rel:KV kvs vs)(dd:h'.DictOf (u5 P w) a vs):
 x3 P w H' h' a (.dK kvs):=⟨z,hd,vs,rel,dd⟩
theorem a3w{H':Hp}{Q:Unit->Shared->Prop}(hu:A.units+1<cLine)(I:Inv X pins σ H s)(g:b9X H a y v H')(ry:n4 y u)(rv:n4 v r)(h:∀s',Inv X pins σ H' s'->Q () s'):
 wpAny (model X.prog X.w) A (setItem (.ref a) u r) Q E s:=by
 rcases g with⟨kvs,k,e,ey,l,eH⟩|⟨kvs,k,b,e,ey,eb,l,eH⟩
 · subst ey eH;obtain⟨z,hd,vs,rel,dd⟩:=b3A I.hok e
   have hz:vs.length<=sizeLine:=by rw[←rel.length];exact z
   have hl:(M8 kvs k v).length<=sizeLine:=by have:=X3 kvs k v;omega
   refine wpAny_setItem_pairs (hsz:=hz) (X5 ry) dd fun h' dd' hs=>h _ ?_
   have he:∃q,h'.get? a=some q:=let⟨q,_,_,hq,_⟩:=dd';⟨q,hq⟩
   exact a4B I (by rw[e];exact True.intro) hs he (a6y hl hd (rel.put k rv) dd')
 · subst ey eH
   cases (show u=Value.ref b from ry)
   obtain⟨z,hd,xs,rel,dd⟩:=b8a I.hok e
   have hz:xs.length<=sizeLine:=by rw[←Paired.length rel];exact z
   have hl:(M8 kvs k v).length<=sizeLine:=by have:=X3 kvs k v;omega
   refine wpAny_setItem_heap (hsz:=hz) (tupleKind_room_in1 hu) (a1h I.hok eb) dd fun h' dd' hs=>h _ ?_
   obtain⟨q,es,ep,hq,h2,h3,h4,_,h5⟩:=dd';refine a4B I (by rw[e];exact True.intro) hs ⟨q,hq⟩ ⟨hl,hd,_,(rel.put k eb rv).keeps fun c ys ec=>?_,q,es,ep,hq,h2,h3,h4,h5⟩
   rw[l8 (b7g ec e (fun z=>nomatch z))]
   exact ec
end
section
variable{X:Cx}{pins:List (Addr×Obj)}{σ:St}{H:Hp}{s:Shared}{a:Addr}{kvs:List (Key×V)}{k:Key}{u:Value}{A:Around}{E:Value->Shared->Prop}
theorem b8d{Q:Value->Shared->Prop}(I:Inv X pins σ H s)(e:Rd H a (.dK kvs))(h:∀t s',Inv X pins σ H s'->Q (.int kvs.length t) s'):wpAny (model X.prog X.w) A (call (.builtin "len") [.ref a]) Q E s:=by
 obtain⟨z,hd,vs,rel,dd⟩:=a1x I.hok e;refine call_len_dict hd dd (by rw[←rel.length];rw[sizeLine_eq] at z;omega) ?_
 rw[←rel.length];exact h _ _ (I.tok _)
end
theorem a5H{X:Cx}{pins:List (Addr×Obj)}{σ:St}{H:Hp}{s:Shared}{a:Addr}{y:V}{o:Option V}(I:Inv X pins σ H s)(g:a6H H a y o):s.TypeIs (.ref a) "dict":=by
 rcases g with⟨kvs,k,e,_,_⟩|⟨kvs,k,b,e,_,_,_⟩
 · obtain⟨_,_,vs,_,dd⟩:=a1x I.hok e;exact dd.typeIs
 · obtain⟨_,_,xs,_,dd⟩:=a2B I.hok e;exact dd.typeIs
theorem a5G{P:Program}{w:World}{H:Hp}(h:Heap)(hb:sysModules<h.objs.size):x3 P w H (h.push {cls:=.type "dict",data:=.dict #[]}) h.objs.size (.dK []):=
 ⟨Nat.zero_le _,beq_eq_false_iff_ne.mpr (Ne.symm (Nat.ne_of_lt hb)),[],.nil,Heap.DictOf.new h⟩
def b3O:TE:=fun _ H Q=>∀p,H p=none->Q (.ref p) (upd H p (.dK []))
section
variable{X:Cx}{pos:Pos}
theorem a9q:PE X (.Dict [] [] pos) b3O:=fun pins s σ H Q I h=>
 wpAny_Dict_empty ⟨.ref s.heap.objs.size,_,I.laid (a:=s.heap.objs.size) (o:=.dK []) (t':=s.toks) (fun _ _ q=>Heap.get?_push_of_some _ q) (Nat.le_refl _) (a5G s.heap I.big),rfl,h _ (I.hok.fresh (Nat.le_refl _))⟩
end
def a3J:List (TE×TE)->St->Hp->(List (V×V)->Hp->Prop)->Prop
 |[],_,H,Q=>Q [] H
 |(tk,tv)::r,σ,H,Q=>tk σ H fun x H1=>tv σ H1 fun y H2=>a3J r σ H2 fun ps H3=>Q ((x,y)::ps) H3
abbrev VV:List (V×V)->List (Value×Value)->Prop:=Paired fun p q=>n4 p.1 q.1/\n4 p.2 q.2
def PPs(X:Cx)(pos:Pos)(keys:List (Option Expr))(values:List Expr)(trs:List (TE×TE)):Prop:=
 ∀(pins:List (Addr×Obj)) (s:Shared) (σ:St) (H:Hp) (Q:List (V×V)->Hp->Prop),Inv X pins σ H s->a3J trs σ H Q→
  wpAny (model X.prog X.w) X.A (evalPairs (pairTrees keys values X.env pos)) (fun vs s'=>∃ps H',Inv X pins σ H' s'/\VV ps vs/\Q ps H') X.xe s
theorem b1W{X:Cx}{pos:Pos}:PPs X pos [] [] []:=fun pins s σ H Q I h=>pairTrees_nil_walk ⟨[],H,I,.nil,h⟩
theorem a9k{X:Cx}{pos:Pos}{k v:Expr}{ks:List (Option Expr)}{vs:List Expr}{tk tv:TE}{trs:List (TE×TE)}(hk:PE X k tk)(hv:PE X v tv)(hr:PPs X pos ks vs trs):
 PPs X pos (some k::ks) (v::vs) ((tk,tv)::trs):=fun pins s σ H Q I h=>
 pairTrees_cons_walk (thn (hk pins s σ H _ I h) fun u s1 ⟨x,H1,I1,rx,q1⟩=>thn (hv pins s1 σ H1 _ I1 q1) fun w2 s2 ⟨y,H2,I2,ry,q2⟩=>
  thn (hr pins s2 σ H2 _ I2 q2) fun ws s3 ⟨ps,H3,I3,rel,q3⟩=>⟨(x,y)::ps,H3,I3,.cons ⟨rx,ry⟩ rel,q3⟩)
def V0(kvs more:List (Key×V)):List (Key×V):=more.foldl (fun acc kv=>M8 acc kv.1 kv.2) kvs
theorem KV.merge:∀{more:List (Key×V)} {rs:List (Key×Value)} {kvs:List (Key×V)} {vs:List (Key×Value)},KV more rs->KV kvs vs->KV (V0 kvs more) (merged vs rs):=by
 intro more rs kvs vs r;unfold KV at r
 induction r generalizing kvs vs with
 |nil=>intro q;exact q
 | @cons p q ps qs h t ih=>
  intro r0
  have e:KV (M8 kvs p.1 p.2) (stored vs q.1 q.2):=by
   have:=r0.put p.1 h.2
   rw[←h.1];exact this
  exact ih e
theorem T2:∀(more kvs:List (Key×V)),(V0 kvs more).length<=kvs.length+more.length
 |[],kvs=>by show kvs.length<=kvs.length+0;omega
 |p::r,kvs=>by
  have h1:=T2 r (M8 kvs p.1 p.2);have h2:=X3 kvs p.1 p.2
  show(V0 (M8 kvs p.1 p.2) r).length<=_
  rw[List.length_cons];omega
theorem a2D{P:Program}{w:World}:∀{kvs:List (Key×V)} {ws:List (Value×Value)},VV (kvs.map fun kv=>(kV kv.1,kv.2)) ws->∃rs,Carries (u5 P w) ws rs/\KV kvs rs
 |[],_,r=>by rw[List.map_nil] at r;cases r;exact⟨[],True.intro,.nil⟩
 | p::kvs,_,r=>by
  rw[List.map_cons] at r
  cases r with
  | @cons a b as bs h t=>
   obtain⟨rs,c,q⟩:=a2D (P:=P) (w:=w) t;obtain⟨b1,b2⟩:=b;exact⟨(p.1,b2)::rs,⟨X5 h.1,rfl,c⟩,.cons ⟨rfl,h.2⟩ q⟩
def b6y(trs:List (TE×TE)):TE:=fun σ H Q=>∀p,H p=none->a3J trs σ (upd H p (.dK [])) fun ps H2=>H2 p=some (.dK [])/\∃kvs:List (Key×V),ps=kvs.map (fun kv=>(kV kv.1,kv.2))/\kvs.length<=15/\Q (.ref p) (upd H2 p (.dK (V0 [] kvs)))
theorem b2f{X:Cx}{pos:Pos}{keys:List (Option Expr)}{values:List Expr}{trs:List (TE×TE)}(h:PPs X pos keys values trs)(hall:keys.all (·.isSome)=true)(hl:keys.length=values.length)(h0:keys≠[])
 (h15:keys.length<=15):PE X (.Dict keys values pos) (b6y trs):=by
 intro pins s σ H Q I q;have hn:=I.hok.fresh (Nat.le_refl s.heap.objs.size);have I1:=I.laid (a:=s.heap.objs.size) (o:=.dK []) (h':=s.heap.push {cls:=.type "dict",data:=.dict #[]}) (t':=s.toks) (fun _ _ q=>Heap.get?_push_of_some _ q) (Nat.le_refl _) (a5G s.heap I.big)
 refine wpAny_Dict_walk (knd:=u5 X.prog X.w) hall hl h0 h15 (thn (h pins _ σ _ _ I1 (q _ hn)) fun ws s2 ⟨ps,H2,I2,rel,e,kvs,ep,lk,q2⟩=>?_)
 subst ep;obtain⟨rs,c,rk⟩:=a2D (P:=X.prog) (w:=X.w) rel;obtain⟨z,hd,vs0,r0,dd⟩:=b3A I2.hok e;cases r0;refine⟨rs,c,dd,fun h' dd' hs=>⟨.ref s.heap.objs.size,_,?_,rfl,q2⟩⟩
 have hz:(V0 [] kvs).length<=sizeLine:=by
  have h1:=T2 kvs [];rw[List.length_nil] at h1;rw[sizeLine_eq];omega
 have he:∃q,h'.get? s.heap.objs.size=some q:=let⟨q,_,_,hq,_⟩:=dd';⟨q,hq⟩
 exact a4B I2 (by rw[e];exact True.intro) hs he (a6y hz hd (rk.merge .nil) dd')
structure M1(X:Cx)(o:Expr)(m:Str)(apos:Pos)(e:Expr)(cpos:Pos):Prop where
 base:attributeBase o m X.env (eval o X.env)=eval o X.env
 few:((backTo cpos (starEach [e] X.env)).all (fun x=>!x.1)&&(backToKw cpos (keywordEach [] X.env)).all (fun x=>x.1.isSome)
  &&decide (([e]:List Expr).length+([]:List Keyword).length+(if([]:List Keyword).isEmpty then 0 else 1)<30))=true
 line:(apos.endLine==cpos.line)=true
 trees:backTo cpos (starEach [e] X.env)=[(false,eval e X.env)]
structure M2(X:Cx)(o:Expr)(m:Str)(apos:Pos)(e f:Expr)(cpos:Pos):Prop where
 base:attributeBase o m X.env (eval o X.env)=eval o X.env
 few:((backTo cpos (starEach [e,f] X.env)).all (fun x=>!x.1)&&(backToKw cpos (keywordEach [] X.env)).all (fun x=>x.1.isSome)
  &&decide (([e,f]:List Expr).length+([]:List Keyword).length+(if([]:List Keyword).isEmpty then 0 else 1)<30))=true
 line:(apos.endLine==cpos.line)=true
 trees:backTo cpos (starEach [e,f] X.env)=[(false,eval e X.env),(false,eval f X.env)]
def IsD(H:Hp)(a:Addr):Prop:=(∃kvs,Rd H a (.dK kvs))∨∃kvs,Rd H a (.dT kvs)
theorem b5d{X:Cx}{pins:List (Addr×Obj)}{σ:St}{H:Hp}{s:Shared}{a:Addr}(I:Inv X pins σ H s)(d:IsD H a):
 s.TypeIs (.ref a) "dict"/\(∀b,Value.ref a=.ref b->∃ob,s.heap.get? b=some ob/\ob.dict=none)/\(a==sysModules)=false:=by
 rcases d with⟨kvs,e⟩|⟨kvs,e⟩
 · obtain⟨_,hd,vs,_,dd⟩:=a1x I.hok e;refine⟨dd.typeIs,fun b q=>?_,hd⟩
   cases q;obtain⟨ob,_,_,h1,h2,_⟩:=dd;exact⟨ob,h1,h2.2.1⟩
 · obtain⟨_,hd,xs,_,dd⟩:=a2B I.hok e;refine⟨dd.typeIs,fun b q=>?_,hd⟩
   cases q;obtain⟨ob,_,_,h1,h2,_⟩:=dd;exact⟨ob,h1,h2.2.1⟩
section
variable{X:Cx}{pins:List (Addr×Obj)}{σ:St}{H:Hp}{s:Shared}{a:Addr}{y d:V}{u r:Value}{o:Option V}{A:Around}{E:Value->Shared->Prop}
theorem b5D{Q:Value->Shared->Prop}(hu:A.units+1<cLine)(I:Inv X pins σ H s)(g:a6H H a y o)(ry:n4 y u)(rd:n4 d r)(h:∀w' s',Inv X pins σ H s'->n4 (o.getD d) w'->Q w' s'):
 wpAny (model X.prog X.w) A (call (.builtin "dict.get") [.ref a,u,r]) Q E s:=by
 rcases g with⟨kvs,k,e,ey,l⟩|⟨kvs,k,b,e,ey,eb,l⟩
 · subst ey;obtain⟨z,hd,vs,rel,dd⟩:=a1x I.hok e;refine call_meetsIn PySem.F.slot_dict_get dd.typeIs PySem.F.entry_dict_get (PySem.F.args_dict_get_3 _ _ _) (meets_dict_get_default (u5 X.prog X.w) a (X5 ry) hd r) ⟨_,dd.mapOf,h _ _ (I.tok _) ?_⟩
   rw[l];exact(rel.val k).getD rd
 · subst ey
   cases (show u=Value.ref b from ry)
   obtain⟨z,hd,xs,rel,dd⟩:=a2B I.hok e;refine call_meetsIn PySem.F.slot_dict_get dd.typeIs PySem.F.entry_dict_get (PySem.F.args_dict_get_3 _ _ _) (meetsH_dict_get_default (tupleKind (u5 X.prog X.w)) a b hd r) ⟨tupleKind_room_in1 hu,k,xs,a1h I.hok eb,dd,h _ _ (I.tok _) ?_⟩
   rw[l];exact(rel.val k).getD rd
end
def b3P(td ty tx:TE):TE:=fun σ H Q=>td σ H fun x H1=>∃a,x=.ref a/\IsD H1 a/\ty σ H1 fun y H2=>tx σ H2 fun z H3=>∃o,a6H H3 a y o/\Q (o.getD z) H3
section
variable{X:Cx}{o e f:Expr}{apos cpos:Pos}{td ty tx:TE}
theorem a9r(hu:X.A.units+1<cLine)(ho:PE X o td)(he:PE X e ty)(hf:PE X f tx)(m:M2 X o "get" apos e f cpos):PE X (.Call (.Attribute o "get" apos) [e,f] [] cpos) (b3P td ty tx):=by
 intro pins s σ H Q I h;refine wpAny_Call_method m.base m.few m.line PySem.F.plainAttrs_dict PySem.F.slot_dict_get PySem.F.type_dict_get (thn (ho pins s σ H _ I h) fun u s1 ⟨x,H1,I1,rx,a,ex,d,q1⟩=>?_)
 subst ex;obtain rfl:u=Value.ref a:=rx;obtain⟨t1,t2,_⟩:=b5d I1 d;refine⟨t1,t2,?_⟩
 rw[m.trees]
 refine Calls.callWith_builtin rfl (Calls.evalArgs_plain (Calls.spliced_cons (thn (he pins s1 σ H1 _ I1 q1) fun iv s2 ⟨y,H2,I2,ry,q2⟩=>
  Calls.spliced_cons (thn (hf pins s2 σ H2 _ I2 q2) fun fv s3 ⟨z,H3,I3,rz,ov,g,q3⟩=>Calls.spliced_nil ?_))))
 exact b5D hu I3 g ry rz fun w' s4 I4 rw'=>⟨_,H3,I4,rw',q3⟩
end
end L2
namespace Att
open PySem PySem.W PySem.Calls PyProof.Rows
theorem a1C{P:Params}{h:Heap}:∀(ns:List Int) (vs:List Value),WellAll P h vs (ns.map WData.int)->IntsAre vs ns:=by
 intro ns
 induction ns with
 |nil=>
  intro vs w;rw[List.map_nil] at w;cases w;exact .nil
 | cons n ns ih=>
  intro vs w;rw[List.map_cons] at w
  cases w with
  |cons a b=>
   cases a;exact .cons _ _ (ih _ b)
theorem a7J{l:OpenLaw}{n:Nat}(hn:l.most=some n){P:Params}{h:Heap}{args:List WData}{vals:List Value}
 (hpre:l.row.toRowW.claim.pre args=true) (hwl:WellAll P h vals args):
 ∃a vs ns,vals=[Value.ref a]/\args=[WData.list (ns.map WData.int)]/\h.get? a=some {cls:=.type "list",data:=.seq vs.toArray}/\IntsAre vs ns/\ns.length<=n:=by
 have hsh:WShape.hasAll [] args [.list .int]=true:=(pre_splitW hpre).1
 have hc:l.pre.holds [] {args:=args}=true:=(pre_splitW hpre).2
 obtain⟨d,r,rfl,h1,h2⟩:=hasAllW_cons hsh;obtain rfl:=hasAllW_nil h2;obtain⟨xs,rfl,h3⟩:=hasW_list h1;obtain⟨ns,rfl⟩:=items_int h3
 have hlen:ns.length<=n:=by
  unfold OpenLaw.pre at hc
  have h4:(WTm.not (.lt (.lit (.int (n:Int))) (.len (.arg 0)))).holds [] {args:=[.list (ns.map .int)]}=true:=by
   have h4:=(holds_andW hc).1;rw[hn] at h4;exact h4
  have h5:=condW_of h4 (w_not (w_lt w_lit (w_len_list (w_arg rfl))));rw[List.length_map] at h5;refine Nat.le_of_not_lt fun q=>?_
  have q':(n:Int)<((ns.length:Nat):Int):=by omega
  first
   |(rw[decide_eq_true q'] at h5;exact absurd h5 (by decide))
   |(simp at h5;omega)
 cases hwl with
 |cons w1 w2=>
  cases w2
  cases w1 with
  |list ho hall=>exact⟨_,_,ns,rfl,rfl,ho,a1C ns _ hall,hlen⟩
theorem a7P(l:OpenLaw)(args:List WData):l.row.toRowW.claim.post args (.bool true) args=true:=
 postW_of (r:=l.row.toRowW) (X:=(true==true))
  (show WShape.has [] (.bool true) .bool=true by first|rfl|decide|simp[WShape.has,WShape.arms,WShape.armsAll])
  (show(WTm.eq .res (.lit (.bool true))).value [] {args:=args,res:=some (.bool true),after:=args}=some (.bool (true==true)) from w_eq_bool (w_res rfl) w_lit) rfl
theorem a5R{l:OpenLaw}{n:Nat}{q:Program}{loose:List Str}{XP:(Str->Option Value)->Heap->Prop}{YP:World->Heap->Prop}{d:DefRec}
 (hn:l.most=some n) (hdf:d.params.defaults=[])
 (call:∀(w:World) (s₀ s₁:Shared) (mg mb:Str->Option Value) (fa:Addr) (o:Obj) (pm cd doc:Value) (a:Addr) (vs:List Value) (ns:List Int),
  Ground q loose [] XP w s₀ mg mb s₁.heap->YP w s₁.heap→
  s₁.heap.get? fa=some o->o.data=.func (docDef d.name d.params d.body d.scope pm cd doc)->s₁.heap.CodeRec cd d.name->mg d.name=some (.ref fa)→
  s₁.heap.get? a=some {cls:=.type "list",data:=.seq vs.toArray}->IntsAre vs ns->ns.length<=n->s₁.gens= #[]→
  codeAny (model l.prog w) callerA (.call (.ref fa) ⟨[.ref a],[]⟩) (fun r s'=>r=.ok (.ret (.bool true))/\OldK s₁.heap s'.heap/\s'.os=s₁.os/\AllBare s'.gens) s₁):
 WalkO q loose XP YP l.row.toRowW d [] (fun f vs=>PySem.call f vs):=by
 intro w s₀ s₁ mg mb G Y fa o pm cd doc dV kV ho hd hcd hD hmg hg args vals as hpre hlay hrd hwl hlo;obtain rfl:dV=.none:=Dflts.none hD hdf;obtain rfl:kV=.none:=Dflts.noKw hD;obtain⟨a,vs,ns,rfl,rfl,hobj,hints,hlen⟩:=a7J hn hpre hwl;refine enter_call (codeAny_mono (call w s₀ s₁ mg mb fa o pm cd doc a vs ns G Y ho (fd_plain hd) hcd hmg hobj hints hlen hg) fun r s' hq=>?_)
 obtain⟨rfl,h2,h3,h4⟩:=hq;exact⟨.inl ⟨.bool true,.bool true,[],rfl,fun _=>rfl,.bool true,a7P l _,fun _=>⟨List.Pairwise.nil,fun _ hm=>(nomatch hm)⟩⟩,h2,h3,h4⟩
end Att
namespace L2
open PySem PySem.Spec PyProof.Rows
theorem a2W:∀{vs:List Value} {ns:List Int},IntsAre vs ns->n8 (ns.map V.int) vs
 |_,_,.nil=>.nil
 |_,_,.cons n t h=>.cons ⟨t,rfl⟩ (a2W h)
def b1k(H:Hp):Prop:=∀b,H b=none∨∃o xs,H b=some (.frz o (.lst xs))
theorem a9J{P:Program}{w:World}{K:PySem.W.Frag}{mg mb:Str->Option Value}{CX:CXT}{k:Nat}{fa a:Addr}{fd:FuncData}{x:Str}{sp:Sp}{s₁:Shared}{vs:List Value}{ns:List Int}
 (KX:K.In s₁.heap) (hns:s₁.heap.Ns mainGlobals mg) (hb:s₁.heap.Ns builtinsNs mb) (hbb:∀x:Str,x≠"__name__"->mb x=bootBuiltins x) (hlim:s₁.heap.NoLimit) (hg:s₁.gens= #[])
 (ha:s₁.heap.get? a=some {cls:=.type "list",data:=.seq vs.toArray}) (hi:IntsAre vs ns) (hl:ns.length<=sizeLine) (hr:Room k callerA)
 (F:∀base:Heap,K.In base->base.Ns mainGlobals mg->FnOk P w K mg base CX k fa fd [x] sp) (hbind:∀(s:Shared) (u:Value),BindsTo s fd ⟨[u],[]⟩ [(x,u)])
 (hsp:∀H:Hp,b1k H->SqL K H a (ns.map V.int)->sp [.ref a] H (fun v _=>v=.bl true) fun _ _ _=>False)
 (hCX:∀H e s',CX [] H s₁ (fun _ _ _=>False) e s'->False):
 codeAny (model P w) callerA (.call (.ref fa) ⟨[.ref a],[]⟩) (fun r s'=>r=.ok (.ret (.bool true))/\OldK s₁.heap s'.heap/\s'.os=s₁.os/\AllBare s'.gens) s₁:=by
 have rv:=a2W hi;have lenV:=hi.length
 -- from an abstract heap in which nothing but the script may be tracked
 have core:∀H:Hp,b1k H->SqL K H a (ns.map V.int)->HOk P w H s₁.heap->(∀b,H b≠none->b=a)->(H a≠none->K.lookup a=none)→
  codeAny (model P w) callerA (.call (.ref fa) ⟨[.ref a],[]⟩) (fun r s'=>r=.ok (.ret (.bool true))/\OldK s₁.heap s'.heap/\s'.os=s₁.os/\AllBare s'.gens) s₁:=by
  intro H hO hS hok hA hK
  have base_of:∀{b:Addr} {o:Obj},s₁.heap.get? b=some o->H b=none->(a4o s₁.heap H).get? b=some o:=fun e n=>a9U e n
  have noA:∀{b:Addr} {o:Obj} {es:Array DictEntry} {ep:Nat},s₁.heap.get? b=some o->o.data=.dict es ep->H b=none:=fun{b o es ep} e d=>by
   cases q:H b with
   |none=>rfl
   |some u=>
    have e':b=a:=hA b (by rw[q];simp)
    subst e';rw[ha] at e;cases e
    have d':Data.seq vs.toArray _=Data.dict es ep:=d
    cases d'
  have nsK:∀{b:Addr} {m:Str->Option Value},s₁.heap.Ns b m->(a4o s₁.heap H).Ns b m:=fun{b m} ⟨o,es,ep,e,d,r⟩=>⟨o,es,ep,base_of e (noA e d),d,r⟩
  have hKb:K.In (a4o s₁.heap H):=fun b o e=>base_of (KX b o e) (by
   cases q:H b with
   |none=>rfl
   |some u=>
    have e':b=a:=hA b (by rw[q];simp)
    subst e';rw[hK (by rw[q];simp)] at e;cases e)
  have hM:Mod K mg (a4o s₁.heap H):=⟨hKb,nsK hns,⟨mb,nsK hb,hbb⟩,let⟨mc,h1,h2⟩:=hlim;⟨mc,nsK h1,h2⟩⟩
  have e0:Env0 P w K mg (a4o s₁.heap H) callerA [] s₁ H:=⟨rfl,hM,fun b o e=>b2o e,Nat.le_of_eq (a8h _ _),trivial,fun b hb=>absurd (show b∈([]:List Addr) from hb) (by simp),hok,.of_eq hg⟩
  refine codeAny_mono ((F _ hKb (nsK hns)).run callerA [] s₁ H ⟨[.ref a],[]⟩ [.ref a] [.ref a] _ _ hr e0 (hbind s₁ (.ref a)) (.cons rfl .nil) (hsp H hO hS)) fun r s' h=>?_
  cases r with
  |error e=>exact(hCX H e s' h).elim
  | ok fl=>
   cases fl with
   |next=>exact False.elim h
   |brk=>exact False.elim h
   |cont=>exact False.elim h
   | ret u=>
    obtain⟨v,H',os,bare,un,hok',r',q⟩:=h
    have q':v=.bl true:=q
    subst q';obtain rfl:u=Value.bool true:=r';refine⟨rfl,OldK.of_keep fun b o e=>?_,os,bare⟩
    cases q:H b with
    |none=>exact un.keep b o e q (by intro z;exact absurd (show b∈([]:List Addr) from z) (by simp)) (by simp)
    |some u=>
     rcases hO b with z|⟨ob,xs,z⟩
     · rw[q] at z;cases z
     · have z2:=un.frzs b ob _ z;obtain⟨e1,_⟩:=hok b _ z;obtain⟨e2,_⟩:=hok' b _ z2;rw[e] at e1;cases e1
       exact e2
 cases hk:K.lookup a with
 |some o=>
  -- the script is one of the module's own objects
  have e:=KX a o hk;rw[ha] at e;cases e;refine core (fun _=>none) (fun _=>.inl rfl) (.inr ⟨_,vs.toArray,_,hk,rfl,rfl,rfl,by rw[List.size_toArray,lenV];exact hl,by simpa using rv⟩) (fun b u z=>by have z':(none:Option HO)=some u:=z;cases z') (fun b z=>absurd rfl z) fun z=>absurd rfl z
 |none=>
  refine core (fun b=>if b=a then some (.frz {cls:=.type "list",data:=.seq vs.toArray} (.lst (ns.map V.int))) else none) (fun b=>?_) (.inl (.inr ⟨{cls:=.type "list",data:=.seq vs.toArray},if_pos rfl⟩)) (fun b u z=>?_) (fun b z=>?_) fun _=>hk
  · by_cases hb:b=a
    · exact .inr ⟨_,_,if_pos hb⟩
    · exact .inl (if_neg hb)
  · by_cases hb:b=a
    · have z':=(if_pos hb).symm.trans z
      cases z';subst hb;exact⟨ha,by rw[List.length_map];exact hl,vs,_,rv,ha⟩
    · have z':=(if_neg hb).symm.trans z
      cases z'
  · by_cases hb:b=a
    · exact hb
    · exact absurd (if_neg hb) z
end L2
namespace L2
open PySem PySem.Spec PyProof.Rows
abbrev KOf{K:PySem.W.Frag}{h:Heap}(_:K.In h):PySem.W.Frag:=K
theorem b1n{l:PySem.W.OpenLaw}{n k:Nat}{q:Program}{loose:List Str}{XP:(Str->Option Value)->Heap->Prop}{YP:World->Heap->Prop}{d:DefRec}{K:Params->PySem.W.Frag}{CX:World->CXT}{sp:World->Sp}{x:Str}
 (hn:l.most=some n) (hn2:n<=sizeLine) (hdf:d.params.defaults=[]) (hr:Room k callerA)
 (hY:∀(w:World) (h:Heap),YP w h->(K w.params).In h)
 (F:∀(w:World) (mg:Str->Option Value) (fa:Addr) (h:Heap),(K w.params).In h->h.Ns mainGlobals mg->mg d.name=some (.ref fa)→
  ∃fd:FuncData,(∀(s:Shared) (u:Value),BindsTo s fd ⟨[u],[]⟩ [(x,u)])∧
   ∀base:Heap,(K w.params).In base->base.Ns mainGlobals mg->FnOk l.prog w (K w.params) mg base (CX w) k fa fd [x] (sp w))
 (hsp:∀(w:World) (H:Hp) (a:Addr) (ns:List Int),ns.length<=n->b1k H->SqL (K w.params) H a (ns.map V.int)->sp w [.ref a] H (fun v _=>v=.bl true) fun _ _ _=>False)
 (hCX:∀(w:World) (H:Hp) (s:Shared) (e:Value) (s':Shared),CX w [] H s (fun _ _ _=>False) e s'->False):
 PySem.W.WalkO q loose XP YP l.row.toRowW d [] (fun f vs=>PySem.call f vs):=by
 refine Att.a5R hn hdf fun w s₀ s₁ mg mb fa o pm cd doc a vs ns G Y ho hd hcd hmg hobj hints hlen hg=>?_
 have KX:=hY w _ Y;obtain⟨fd,hb,hF⟩:=F w mg fa _ KX G.T.g hmg;exact a9J KX G.T.g G.T.b G.T.builtins G.T.nolimit hg hobj hints (Nat.le_trans hlen hn2) hr hF hb (fun H hO hS=>hsp w H a ns hlen hO hS) fun H e s'=>hCX w H s₁ e s'
end L2
namespace L2
open PySem PySem.Spec PyProof.Rows
def b2y(s:Stmt)(j:Nat):Stmt:=match s with
 |.ClassDef _ _ _ body _ _ _ _ _ _ _=>body.getD j (.Pass ⟨0,0,0,0⟩)
 |_=>.Pass ⟨0,0,0,0⟩
def V7(s:Stmt):Arguments:=match s with
 |.FunctionDef _ a _ _ _ _ _ _ _ _=>a
 |_=>{posonlyargs:=[],args:=[],vararg:=none,kwonlyargs:=[],kw_defaults:=[],kwarg:=none,defaults:=[]}
def c9(s:Stmt):List Stmt:=match s with
 |.FunctionDef _ _ b _ _ _ _ _ _ _=>b
 |_=>[]
def b5(s:Stmt):Scope:=match s with
 |.FunctionDef _ _ _ _ _ _ sc _ _ _=>sc
 |_=>{kind:=.function,names:=[],isGenerator:=false,isCoroutine:=false}
abbrev CX0:CXT:=fun _ _ _ _ _ _=>False
abbrev E0:XK:=fun _ _ _=>False
theorem b3w{X:Cx}:a2M CX0 X E0:=fun _ _ _ _ _ _ _ h=>h.elim
structure Fun(K:PySem.W.Frag)(x qual:Str)(st:Stmt)(f:Addr)(fd:FuncData):Prop where
 ex:∃(oc:Value) (od:Option Addr) (kV doc pm:Value) (an:Option Addr) (cdv ct:Value) (osl:Array (Option Value)),
  fd=PySem.W.fnOf x qual (V7 st) (c9 st) (b5 st) .none kV doc pm an cdv ct/\K.lookup f=some ⟨oc,od,.func fd,osl⟩/\PySem.W.codeIn K cdv qual=true
 kp:PySem.W.keepIn K (.ref f)=true
section
variable{P:Program}{w:World}{K:PySem.W.Frag}{mg:Str->Option Value}{base:Heap}
theorem Fun.binds{x qual:Str}{st:Stmt}{f:Addr}{fd:FuncData}{ps:List Str}(F:Fun K x qual st f fd)
 (h:∀(kV doc pm:Value) (an:Option Addr) (cdv ct:Value) (us:List Value),us.length=ps.length->bindArgs (PySem.W.fnOf x qual (V7 st) (c9 st) (b5 st) .none kV doc pm an cdv ct) ⟨us,[]⟩=pure (ps.zip us)):R7 K fd ps []:=by
 obtain⟨oc,od,kV,doc,pm,an,cdv,ct,osl,rfl,lk,hcd⟩:=F.ex;exact .all (h kV doc pm an cdv ct)
theorem b0f{x qual:Str}{st:Stmt}{f:Addr}{oc:Value}{od an:Option Addr}{osl:Array (Option Value)}{kV doc pm cdv ct:Value}(l:K.lookup f=some ⟨oc,od,.func (PySem.W.fnOf x qual (V7 st) (c9 st) (b5 st) .none kV doc pm an cdv ct),osl⟩)
 (c:PySem.W.codeIn K cdv qual=true) (k:PySem.W.keepIn K (.ref f)=true):Fun K x qual st f (PySem.W.fnOf x qual (V7 st) (c9 st) (b5 st) .none kV doc pm an cdv ct):=⟨⟨oc,od,kV,doc,pm,an,cdv,ct,osl,rfl,l,c⟩,k⟩
end
theorem b7l{A B:Prop}(h:B):if false=true then A else B:=by
 rw[if_neg Bool.false_ne_true];exact h
theorem b7k{A B:Prop}(h:A):if true=true then A else B:=by
 rw[if_pos rfl];exact h
def b9V(H H':Hp):Prop:=∀b o,H b=some o->H' b=some o
end L2
namespace L2
open PySem PySem.Spec PyProof.Rows
def J9(cells:List (Str×Addr)):List (Str×NameKind)->List (Str×Addr)->List (Str×Addr)
 |[],acc=>acc
 |(n,k)::r,acc=>if k=NameKind.free then(match cells.lookup n with|some c=>J9 cells r ((n,c)::acc)|none=>J9 cells r acc) else J9 cells r acc
theorem U2{cells:List (Str×Addr)}{x:Str}{c:Addr}:∀{l:List (Str×NameKind)} {acc:List (Str×Addr)},(x,c)∈J9 cells l acc->(x,c)∈acc∨((x,NameKind.free)∈l/\cells.lookup x=some c)
 |[],_,h=>.inl h
 | (n, k)::r,acc,h=>by
  unfold J9 at h
  by_cases hk:k=NameKind.free
  · rw [if_pos hk] at h
    cases e:cells.lookup n with
    |none=>
     rw[e] at h
     rcases U2 h with q|⟨q,z⟩
     · exact .inl q
     · exact .inr ⟨List.mem_cons_of_mem _ q,z⟩
    |some d=>
     rw[e] at h
     rcases U2 h with q|⟨q,z⟩
     · rcases List.mem_cons.mp q with q|q
       · cases q;exact .inr ⟨by rw[hk];exact List.mem_cons_self,e⟩
       · exact .inl q
     · exact .inr ⟨List.mem_cons_of_mem _ q,z⟩
  · rw[if_neg hk] at h
    rcases U2 h with q|⟨q,z⟩
    · exact .inl q
    · exact .inr ⟨List.mem_cons_of_mem _ q,z⟩
theorem a0f{cells:List (Str×Addr)}{p:Str×Addr}:∀{l:List (Str×NameKind)} {acc:List (Str×Addr)},p∈acc->p∈J9 cells l acc
 |[],_,h=>h
 | (n,k)::r,acc,h=>by
  unfold J9
  by_cases hk:k=NameKind.free
  · rw[if_pos hk]
    cases e:cells.lookup n with
    |none=>exact a0f h
    |some d=>exact a0f (List.mem_cons_of_mem _ h)
  · rw[if_neg hk];exact a0f h
theorem a0R{cells:List (Str×Addr)}{x:Str}{c:Addr}(hc:cells.lookup x=some c):∀{l:List (Str×NameKind)} {acc:List (Str×Addr)},(x,NameKind.free)∈l->(x,c)∈J9 cells l acc
 | (n,k)::r,acc,h=>by
  unfold J9
  rcases List.mem_cons.mp h with q|q
  · cases q;rw[if_pos rfl,hc];exact a0f List.mem_cons_self
  · by_cases hk:k=NameKind.free
    · rw[if_pos hk]
      cases e:cells.lookup n with
      |none=>exact a0R hc q
      |some d=>exact a0R hc q
    · rw[if_neg hk];exact a0R hc q
theorem a2R{cl:List (Str×Addr)}{x:Str}{c:Addr}:(∀d,(x,d)∈cl->d=c)->(x,c)∈cl->cl.lookup x=some c:=by
 induction cl with
 |nil=>intro _ h;cases h
 |cons p r ih=>
  intro ha h;obtain⟨n,d⟩:=p;rw[List.lookup_cons]
  by_cases e:x=n
  · subst e;rw[beq_self_eq_true];rw[ha d List.mem_cons_self]
  · rw[show(x==n)=false from beq_eq_false_iff_ne.mpr e];refine ih (fun d' hd'=>ha d' (List.mem_cons_of_mem _ hd')) ?_
    rcases List.mem_cons.mp h with q|q
    · cases q;exact absurd rfl e
    · exact q
theorem a0Q{cells:List (Str×Addr)}{x:Str}{c:Addr}{l:List (Str×NameKind)}(hl:(x,NameKind.free)∈l)(hc:cells.lookup x=some c):(J9 cells l []).lookup x=some c:=
 a2R (fun d hd=>by
  rcases U2 hd with q|⟨_,z⟩
  · cases q
  · rw[hc] at z;exact(Option.some.inj z).symm) (a0R hc hl)
theorem O4{cells:List (Str×Addr)}{x:Str}{c:Addr}{l:List (Str×NameKind)}(h:(J9 cells l []).lookup x=some c):cells.lookup x=some c:=by
 rcases U2 (PySem.mem_of_lookup h) with q|⟨_,z⟩
 · cases q
 · exact z
theorem a0z{env:Env}{f:Str×NameKind->List (Str×Addr)->Sem (ForInStep (List (Str×Addr)))}
 (hf:∀n k r,f (n,k) r=if(k==NameKind.free)=true then(cellOf env n>>=fun a=>pure (ForInStep.yield ((n,a)::r))) else pure (ForInStep.yield r)):
 ∀(l:List (Str×NameKind)) (acc:List (Str×Addr)),(∀y∈l,y.2=NameKind.free->∃c,env.cells.lookup y.1=some c)->(forIn l acc f:Sem (List (Str×Addr)))=pure (J9 env.cells l acc)
 |[],acc,_=>rfl
 | (n,k)::r,acc,h=>by
  rw[List.forIn_cons,hf];unfold J9
  by_cases hk:k=NameKind.free
  · subst hk;obtain⟨c,hc⟩:=h (n,.free) List.mem_cons_self rfl
    have hc':env.cells.lookup n=some c:=hc
    have e1:cellOf env n=pure c:=by unfold cellOf;rw[hc']
    rw[if_pos (beq_self_eq_true _),if_pos rfl,e1,hc'];simp only[pure_bind];exact a0z hf r _ fun y hy=>h y (List.mem_cons_of_mem _ hy)
  · have hb:¬(k==NameKind.free)=true:=fun z=>hk (by simpa using z)
    rw[if_neg hb,if_neg hk];simp only[pure_bind];exact a0z hf r _ fun y hy=>h y (List.mem_cons_of_mem _ hy)
theorem a0n{scope:Scope}{env:Env}(h:∀y∈scope.names,y.2=NameKind.free->∃c,env.cells.lookup y.1=some c):closureFor scope env=pure (J9 env.cells scope.names []):=by
 unfold closureFor
 dsimp only
 rw[a0z (env:=env) (fun n k r=>by rfl) scope.names [] h]
 rfl
theorem a1q{scope:Scope}{env:Env}{x:Str}{k:NameKind}(h:(relabel scope env).names.lookup x=some k):(x,k)∈scope.names∨((x,NameKind.free)∈scope.names/\k=.cell):=by
 obtain⟨⟨n,k'⟩,hm,e⟩:=List.mem_map.mp (PySem.mem_of_lookup h)
 dsimp only at e
 split at e
 · rename_i hc;cases e
   have hk:k'=NameKind.free:=by simp only[Bool.and_eq_true,beq_iff_eq] at hc;exact hc.1.1
   exact .inr ⟨hk▸hm,rfl⟩
 · cases e;exact .inl hm
theorem a0M{env:Env}:∀{names:List (Str×NameKind)} {x:Str},names.lookup x=some .free→
 (names.map fun(n,k)=>if(k==NameKind.free&&env.scope.kind==.function&&env.kindOf n==some .cell) then(n,NameKind.cell) else(n,k)).lookup x=some .cell∨
 (names.map fun(n,k)=>if(k==NameKind.free&&env.scope.kind==.function&&env.kindOf n==some .cell) then(n,NameKind.cell) else(n,k)).lookup x=some .free
 |[],_,h=>by simp at h
 | (n,k)::r,x,h=>by
  have ih:= @a0M env r x;rw[List.map_cons]
  cases hx:x==n with
  |true=>
   simp only[List.lookup_cons,hx] at h;cases h
   by_cases hc:(NameKind.free==NameKind.free&&env.scope.kind==.function&&env.kindOf n==some .cell)=true
   · refine .inl ?_;simp only[if_pos hc,List.lookup_cons,hx]
   · refine .inr ?_;simp only[if_neg hc,List.lookup_cons,hx]
  |false=>
   simp only[List.lookup_cons,hx] at h
   by_cases hc:(k==NameKind.free&&env.scope.kind==.function&&env.kindOf n==some .cell)=true
   · simp only[if_pos hc,List.lookup_cons,hx];exact ih h
   · simp only[if_neg hc,List.lookup_cons,hx];exact ih h
structure CompScope(sc scope:Scope)(own frees:List Str):Prop where
 kind:scope.kind=.function
 nocell:∀y∈scope.names,y.2≠.cell
 locs:∀y∈scope.names,y.2=.local->scope.names.lookup y.1=some .local
 out:∀y∈scope.names,y.2=.free->sc.names.lookup y.1=some .cell
 nd:(own++frees).Nodup
 ownL:∀x∈own,scope.names.lookup x=some .local
 fr:∀x∈frees,scope.names.lookup x=some .free
def t8(X:Cx)(own frees:List Str)(scope:Scope)(C:Addr)(s₀:Shared)(H₀:Hp)(ex:List Addr):Cx:=
 { prog:=X.prog,w:=X.w,K:=X.K,mg:=X.mg,base:=X.base,A:=X.A,N:=own++frees,s₀:=s₀,H₀:=H₀,env:=compEnvC scope (J9 X.env.cells scope.names []) C X.env,
   outer:=X.stack,stack:=X.stack,ex:=ex,fn:=fun _=>false,calm:=X.calm,pn:=[],xe:=fun _ _=>False}
def D8(own:List Str)(js:List Nat)(σ:St):St:=own.map (fun _=>none)++js.map (fun j=>(σ[j]?).join)
def Wk(σ σ':St):Prop:=σ.length=σ'.length/\∀(i:Nat) (v:V),σ[i]? =some (some v)->σ'[i]? =some (some v)
def a5S(X:Cx)(ifs:List Expr)(t:TT):Prop:=
 ∀(pins:List (Addr×Obj)) (s:Shared) (σ:St) (H:Hp) (Q:Bool->Hp->Prop),Inv X pins σ H s->t σ H Q→
  wpAny (model X.prog X.w) X.A (forIn ifs true fun c r=>if r=true then do let ok←isTrue c X.env (eval c X.env);pure (ForInStep.yield ok) else pure (ForInStep.yield r)) (TP X pins σ Q) X.xe s
theorem b2a{X:Cx}:a5S X [] (fun _ H Q=>Q true H):=fun _ _ _ H _ I h=>wpAny_tests_nil ⟨H,I,h⟩
theorem b1Z{X:Cx}{c:Expr}{t:TT}(h:PT X c t):a5S X [c] t:=fun pins s σ H Q I q=>wpAny_tests_one (h pins s σ H Q I q)
section
variable{prog:Program}{w:World}{A:Around}{R:Result->Shared->Prop}{s:Shared}
theorem a4C{elt target iter:Expr}{ifs:List Expr}{scope:Scope}{pos:Pos}{it acc:Value}{env:Env}(I:Nat->Shared->Prop)
 (turn:∀n s,I n s->wpAny (model prog w) A (pyNext it) (fun r s₁=>match r with
  |none=>R (.ok .next) s₁
  | some v=>wpAny (model prog w) A (letOwnedTupleGo target it v) (fun _ s₁'=>wpAny (model prog w) A (assign target env v) (fun _ s₂=>
   wpAny (model prog w) A (forIn ifs true fun c r=>if r=true then do let ok←isTrue c env (eval c env);pure (ForInStep.yield ok) else pure (ForInStep.yield r)) (fun ok s₃=>
    if ok=true then wpAny (model prog w) A (eval elt env) (fun x s₄=>
     wpAny (model prog w) A (call (.builtin "list.append") [acc,x]) (fun _ s₅=>∃m,m<n/\I m s₅) (fun _ _=>False) s₄) (fun _ _=>False) s₃
    else∃m,m<n/\I m s₃) (fun _ _=>False) s₂) (fun _ _=>False) s₁') (fun _ _=>False) s₁) (fun _ _=>False) s)
 (n:Nat) (h:I n s):codeAny (model prog w) A (.compLoop (.ListComp elt [⟨target,iter,ifs,0⟩] scope pos) 0 it acc env) R s:=by
 have no:∀{α:Type} {t:Sem α} {Q:α->Shared->Prop} {E:Value->Shared->Prop} {s:Shared},wpAny (model prog w) A t Q (fun _ _=>False) s->wpAny (model prog w) A t Q E s:=
  fun h=>wpAny_mono h (fun _ _ q=>q) fun _ _ z=>z.elim
 refine codeAny_loop rfl I (fun n s hI=>?_) n h
 show wpAny _ A ((compTurn (.ListComp elt [⟨target,iter,ifs,0⟩] scope pos) 0 it acc env).onRaise (fun x=>do noteFrame x env;theTreesLotGoes x)) _ _ s
 refine wpAny_noted ?_
 rw[compTurn_list];refine wpAny_bind (wpAny_standAt (wpAny_bind (no (wpAny_mono (turn n s hI) (fun r s₁ h₁=>?_) fun _ _ h'=>h'))))
 cases r with
 |none=>exact wpAny_pure h₁
 | some v=>
  refine wpAny_bind (no (wpAny_mono h₁ (fun _ s₁' h₁'=>?_) fun _ _ h'=>h'))
  refine wpAny_bind (no (wpAny_mono h₁' (fun _ s₂ h₂=>wpAny_bind (no (wpAny_mono h₂ (fun ok s₃ h₃=>?_) fun _ _ h'=>h'))) fun _ _ h'=>h'))
  cases ok with
  |false=>exact wpAny_pure ⟨rfl,h₃⟩
  |true=>
   exact wpAny_bind (wpAny_bind (no (wpAny_mono h₃ (fun x s₄ h₄=>wpAny_bind (no (wpAny_mono h₄ (fun _ s₅ h₅=>wpAny_pure (wpAny_pure ⟨rfl,h₅⟩)) fun _ _ h'=>h'))) fun _ _ h'=>h')))
end
def a6J(own:List Str)(js:List Nat)(wi:TI)(g:TG)(tc:TT)(te:TE):TE:=fun σ H Q=>wi σ H fun J H1=>∀D,H1 D=none→
 ∃ W:Nat->Nat->List V->Hp->Prop,(∃m,W 0 m [] (upd H1 D (.lst [])))/\∀i m ys H2,W i m ys H2→
  (J.stop i H2/\Q (.ref D) H2)∨(J.go i H2/\∀x H3,J.yld i H2 x H3->g x (D8 own js σ) H3 fun σ4 H4=>Wk (D8 own js σ) σ4/\tc σ4 H4 fun b H5=>
   if b=true then te σ4 H5 fun y H6=>H6 D=some (.lst ys)/\ys.length<sizeLine/\∃m',m'<m/\W (i+1) m' (ys++[y]) (upd H6 D (.lst (ys++[y])))
   else∃m',m'<m/\W (i+1) m' ys H5)
section
variable{X:Cx}{elt iter tg:Expr}{ifs:List Expr}{scope:Scope}{pos:Pos}{own frees:List Str}{js:List Nat}{wi:TI}{g:TG}{tc:TT}{te:TE}
theorem b3f{pins:List (Addr×Obj)}{σ:St}{H:Hp}{s:Shared}{C:Addr}{fp:List Addr}(I:Inv X pins σ H s)(S:CompScope X.env.scope scope own frees)(hC:s.heap.objs.size<=C)
 (hf:∀b∈fp,a1E X pins H b) (ho:∀b∈fp,∃o,s.heap.get? b=some o):(t8 X own frees scope C s H fp).Ok:=by
 have cellX:∀x c,(J9 X.env.cells scope.names []).lookup x=some c->X.env.cells.lookup x=some c:=fun x c e=>O4 e
 refine⟨I.ok.mod,S.kind,I.ok.glob,I.ok.blt,hC,fun x y c h1 h2=>I.ok.inj x y c (cellX x c h1) (cellX y c h2),fun x hx=>?_,fun x c h=>(Bool.false_ne_true h).elim,I.ok.hd,I.ok.frames,.inl rfl,fun b hb=>⟨?_,fun x c e=>(hf b hb).2.2.2.2.1 x c (cellX x c e)⟩,
  I.bs,Nat.le_trans I.ok.bsz I.sz,fun b o e hb=>?_,fun b hb hm=>?_,I.stack,I.stkFree⟩
 · have hx':(relabel scope X.env).names.lookup x=some .cell∨(relabel scope X.env).names.lookup x=some .free:=hx
   have hm:(x,NameKind.free)∈scope.names:=by
    rcases hx' with q|q
    · rcases a1q q with z|z
      · exact absurd rfl (S.nocell _ z)
      · exact z.1
    · rcases a1q q with z|z
      · exact z
      · exact z.1
   obtain⟨c,hc⟩:=I.ok.has x (.inl (S.out _ hm rfl));exact⟨c,a0Q hm hc⟩
 · intro e;obtain⟨o,q⟩:=ho b hb
   have e':b=C:=e
   have:=Heap.lt_size q
   rw[e'] at this;exact absurd (Nat.lt_of_lt_of_le this hC) (Nat.lt_irrefl _)
 · rcases(hf b hb).2.2.2.1 with z|z
   · exact I.ok.noex b o e z
   · exact absurd (Nat.lt_of_lt_of_le (Nat.lt_of_lt_of_le (Heap.lt_size e) I.ok.bsz) z) (Nat.lt_irrefl _)
 · rcases List.mem_cons.mp (I.stkSub b hm) with z|z
   · exact(hf b hb).2.1 z
   · exact(hf b hb).2.2.1 z
theorem b0C {pins:List (Addr×Obj)} {σ:St} {H H':Hp} {s s':Shared} {C:Addr} {fp:List Addr} {m:Str->Option Value} (I:Inv X pins σ H s) (S:CompScope X.env.scope scope own frees) (hj:frees.map some=js.map (X.N[·]?)) (hC:s.heap.objs.size<=C)
 (hf:∀b∈fp,a1E X pins H b) (ho:∀b∈fp,∃o,s.heap.get? b=some o) (os:s'.os=s.os) (bare:AllBare s'.gens) (k:∀b o,s.heap.get? b=some o->s'.heap.get? b=some o) (un:Un (frs X.stack) fp H H' s.heap s'.heap)
 (hn:s'.heap.Ns C m) (hCn:H' C=none) (hok:HOk X.prog X.w H' s'.heap) (hcl:∀x c,X.env.cells.lookup x=some c->H' c=none):
 Inv (t8 X own frees scope C s H fp) [] (D8 own js σ) H' s':=by
 have hlen:frees.length=js.length:=by have:=congrArg List.length hj;simpa using this
 refine⟨b3f I S hC hf ho,os,bare,un,⟨m,hn,fun i x v h1 h2 h3=>?_⟩,fun x c e=>?_,hCn,fun x c e=>hcl x c (O4 e),fun p hp=>absurd (show p∈([]:List (Addr×Obj)) from hp) (by simp),hok,?_⟩
 · have h1':(own++frees)[i]? =some x:=h1
   unfold D8 at h2
   by_cases hi:i<own.length
   · rw[List.getElem?_append_left (by simpa using hi),List.getElem?_map] at h2
     cases q:own[i]? with
     |none=>rw[q] at h2;cases h2
     |some z=>rw[q] at h2;cases h2
   · have hi':own.length<=i:=Nat.le_of_not_lt hi
     rw[List.getElem?_append_right hi'] at h1'
     rw[List.getElem?_append_right (by simpa using hi'),List.length_map,List.getElem?_map] at h2
     cases q:js[i-own.length]? with
     |none=>rw[q] at h2;cases h2
     | some j=>
      rw[q] at h2
      have h2':(σ[j]?).join=some v:=Option.some.inj h2
      have hσ:σ[j]? =some (some v):=by
       cases z:σ[j]? with
       |none=>rw[z] at h2';cases h2'
       |some w'=>rw[z] at h2';exact congrArg some h2'
      have hX:X.N[j]? =some x:=by
       have e:=congrArg (fun l=>l[i-own.length]?) hj
       rw[List.getElem?_map,List.getElem?_map,h1',q] at e
       exact(Option.some.inj e).symm
      have hm:(x,NameKind.free)∈scope.names:=PySem.mem_of_lookup (S.fr x (List.mem_of_getElem? h1'))
      have ho':=S.out _ hm rfl
      obtain⟨m0,hn0,hl0⟩:=I.loc;obtain⟨u,ru,l⟩:=hl0 j x v hX hσ (.inr (.inl ho'));refine⟨u,ru,?_⟩
      rcases l with⟨q1,_⟩|⟨_,c,e,z⟩
      · have q1':X.env.scope.names.lookup x=some .local:=q1
        rw[ho'] at q1';cases q1'
      · refine .inr ⟨a0M (S.fr x (List.mem_of_getElem? h1')),c,a0Q hm e,?_⟩
        obtain⟨o,eo,d⟩:=z;exact⟨o,k c o eo,d⟩
 · obtain⟨v,o,eo,d⟩:=I.cell x c (O4 e);exact⟨v,o,k c o eo,d⟩
 · show(D8 own js σ).length=(own++frees).length
   unfold D8;rw[List.length_append,List.length_map,List.length_map,List.length_append,hlen]
end
end L2
namespace L2
open PySem PySem.Spec PyProof.Rows
section
variable{X:Cx}
def b9g:V->Option Int->Option Int->Hp->VK->Prop:=fun x lo hi H Q=>∃z,x=.str z/\z.length<=sizeLine/\Q (.str (Txt.slice z lo hi)) H
theorem b3S:SlR X b9g:=by
 intro pins s σ H x v vl vu lo hi sl Q I rx hs pl pu h;obtain⟨z,rfl,hz,q⟩:=h;obtain⟨t,rfl⟩:=rx
 have fin:∀(t':Tok) (k:Nat),EP X pins σ Q (.str (Txt.slice z lo hi) t') {s with toks:=k}:=fun t' k=>⟨.str _,H,I.tok _,⟨_,rfl⟩,q⟩
 refine⟨"str",_,PySem.F.slot_str_getitem.lookup,typeIs_str _ _ _,?_⟩
 obtain⟨o,e1,e2,e3⟩:=hs
 cases pl with
 |none=>
  cases pu with
  |none=>exact wpAny_getItem_str_slice (l:=none) (u:=none) (st:=none) ⟨o,e1,e2,e3⟩ rfl (post_val_or_str ⟨Nat.le_trans (Txt.slice_le z _ _) hz,fun t' k=>fin t' k⟩)
  |int j uj=>exact wpAny_getItem_str_slice (l:=none) (u:=some (j,uj)) (st:=none) ⟨o,e1,e2,e3⟩ rfl (post_val_or_str ⟨Nat.le_trans (Txt.slice_le z _ _) hz,fun t' k=>fin t' k⟩)
 |int i ui=>
  cases pu with
  |none=>exact wpAny_getItem_str_slice (l:=some (i,ui)) (u:=none) (st:=none) ⟨o,e1,e2,e3⟩ rfl (post_val_or_str ⟨Nat.le_trans (Txt.slice_le z _ _) hz,fun t' k=>fin t' k⟩)
  |int j uj=>exact wpAny_getItem_str_slice (l:=some (i,ui)) (u:=some (j,uj)) (st:=none) ⟨o,e1,e2,e3⟩ rfl (post_val_or_str ⟨Nat.le_trans (Txt.slice_le z _ _) hz,fun t' k=>fin t' k⟩)
theorem a2V:∀l:List (Str×Tok),n8 ((l.map (·.1)).map V.str) (strValues l)
 |[]=>.nil
 |(x,t)::r=>.cons ⟨t,rfl⟩ (a2V r)
theorem a2X:∀{xs:List Str} {us:List Value},n8 (xs.map V.str) us->∃l:List (Str×Tok),us=strValues l/\l.map (·.1)=xs
 |[],us,r=>by
  rw[List.map_nil] at r;cases r;exact⟨[],rfl,rfl⟩
 | x::xs,us,r=>by
  rw[List.map_cons] at r
  cases r with
  |cons r1 r2=>
   obtain⟨t,rfl⟩:=r1;obtain⟨l,rfl,rfl⟩:=a2X r2;exact⟨(x,t)::l,rfl,rfl⟩
def b3X:V->List V->Hp->VK->Prop:=fun x vs H Q=>∃z y,x=.str z/\vs=[.str y]/\0<y.length/\z.length+2<=sizeLine/\∀p,H p=none->Q (.ref p) (upd H p (.lst ((Txt.split z y).map V.str)))
theorem a9B:MtR X "str.split" b3X:=by
 intro pins s σ H x vs v us Q I rx rv h;obtain⟨z,y,rfl,rfl,hy0,hz,q⟩:=h;obtain⟨t,rfl⟩:=rx;obtain⟨u,rfl,tu,rfl⟩:=rv.one
 have hy:(y.length==0)=false:=by
  rw[beq_eq_false_iff_ne];omega
 have fin:∀(l:List (Str×Tok)) (k:Nat),l.map (·.1)=Txt.split z y->EP X pins σ Q (.ref s.heap.objs.size) {s with toks:=k,heap:=s.heap.push {cls:=.type "list",data:=.seq (strValues l).toArray}}:=fun l k e=>by
  refine⟨.ref s.heap.objs.size,upd H s.heap.objs.size (.lst ((Txt.split z y).map V.str)),?_,rfl,q _ (I.hok.fresh (Nat.le_refl _))⟩
  refine I.laid (t':=k) (fun b o e=>Heap.get?_push_of_some _ e) (Nat.le_refl _) ⟨?_,strValues l,0,?_,Heap.get?_push_size _ rfl⟩
  · rw[List.length_map];exact Nat.le_trans (split_le z y) hz
  · rw[←e];exact a2V l
 cases h1:(decide (z.length<y.length)||decide (Builtin.Str.strKind z<Builtin.Str.strKind y))
 · cases hf:(Builtin.Str.occurrences z y 0 z.length (z.length+1)).isEmpty
   · have es:Txt.split z y=Builtin.Str.partsBetween z (Builtin.Str.occurrences z y 0 z.length (z.length+1)) y.length:=(if_neg (ne_true_of_eq_false h1)).trans (if_neg (ne_true_of_eq_false hf))
     refine call_meets PySem.F.slot_str_split (typeIs_str _ _ _) PySem.F.entry_str_split (PySem.F.args_str_split_2 _ _) (meets_str_split_sep z y t tu h1 hy hf (by omega) (by rw[←es];exact Nat.le_trans (split_le z y) hz)) ?_
     show wants _ _ _ {s with toks:=_,heap:=s.heap.push {cls:=.type "list",data:=.seq (strsFrom s.toks (Builtin.Str.partsBetween z (Builtin.Str.occurrences z y 0 z.length (z.length+1)) y.length)).toArray}}
     rw[strsFrom_eq];exact fin (numbered s.toks _) _ ((numbered_texts _ _).trans es.symm)
   · exact call_meets PySem.F.slot_str_split (typeIs_str _ _ _) PySem.F.entry_str_split (PySem.F.args_str_split_2 _ _) (meets_str_split_not_found z y t tu h1 hy hf)
      (fin [(z,t)] s.toks ((if_neg (ne_true_of_eq_false h1)).trans (if_pos hf)).symm)
 · exact call_meets PySem.F.slot_str_split (typeIs_str _ _ _) PySem.F.entry_str_split (PySem.F.args_str_split_2 _ _) (meets_str_split_cannot_occur z y t tu h1)
    (fin [(z,t)] s.toks (if_pos h1).symm)
def b1Q:V->List V->Hp->VK->Prop:=fun x vs H Q=>∃z y,x=.str z/\vs=[.str y]/\Q (.bl (Txt.startswith z y)) H
theorem a7Y:MtR X "str.startswith" b1Q:=by
 intro pins s σ H x vs v us Q I rx rv h;obtain⟨z,y,rfl,rfl,q⟩:=h;obtain⟨t,rfl⟩:=rx;obtain⟨u,rfl,tu,rfl⟩:=rv.one;exact call_gives PySem.F.slot_str_startswith (typeIs_str _ _ _) PySem.F.entry_str_startswith (PySem.F.args_str_startswith_2 _ _) (gives_str_startswith z y t tu) ⟨.bl _,H,I,rfl,q⟩
def b6P(K:PySem.W.Frag):V->List V->Hp->VK->Prop:=fun x vs H Q=>∃z p ts,x=.str z/\vs=[.ref p]/\SqL K H p (ts.map V.str)/\JoinOk z ts=true/\Q (.str (Txt.join z ts)) H
theorem b2r:MtR X "str.join" (b6P X.K):=by
 intro pins s σ H x vs v us Q I rx rv h;obtain⟨z,p,ts,rfl,rfl,hp,hok,q⟩:=h;obtain⟨t,rfl⟩:=rx;obtain⟨u,rfl,ru⟩:=rv.one;cases ru;obtain⟨its,r,pl,hz⟩:=I.list hp;obtain⟨l,rfl,e⟩:=a2X r;exact SC.join pl.isList e hok fun t' k=>⟨.str _,H,I.tok _,⟨_,rfl⟩,q⟩
theorem a5P:∀{bs:List Bool} {us:List Value},n8 (bs.map V.bl) us->us=bs.map Value.bool
 |[],us,r=>by
  rw[List.map_nil] at r;cases r;rfl
 | b::bs,us,r=>by
  rw[List.map_cons] at r
  cases r with
  |cons r1 r2=>
   cases r1;rw[a5P r2];rfl
theorem a7N(bs:List Bool)(p:Bool->Bool):(List.range bs.length).all (fun i=>p (bs.getD i true))=bs.all p:=by
 induction bs with
 |nil=>rfl
 |cons b r ih=>
  rw[List.length_cons,List.range_succ_eq_map,List.all_cons,List.all_map,List.all_cons,←ih];rfl
theorem a7M(bs:List Bool)(p:Bool->Bool):(List.range bs.length).any (fun i=>p (bs.getD i true))=bs.any p:=by
 induction bs with
 |nil=>rfl
 |cons b r ih=>
  rw[List.length_cons,List.range_succ_eq_map,List.any_cons,List.any_map,List.any_cons,←ih];rfl
theorem a3B{pins:List (Addr×Obj)}{σ:St}{H:Hp}{s:Shared}{p:Addr}{bs:List Bool}(hc:X.calm=true)(I:Inv X pins σ H s)(hp:SqL X.K H p (bs.map V.bl)){E:Value->Shared->Prop}{Q:Value->Shared->Prop}{f:(Nat->Bool)->Bool}
 (hq:∀s',Inv X pins σ H s'->Q (.bool (f fun i=>bs.getD i true)) s'):
 wpAny (model X.prog X.w) X.A.in1 (pyIter (.ref p)) (fun it s₂=>∃I fp wr n P St tr,it=.ref I/\Walks X.prog X.w X.A.in1 I fp wr n P St/\St 0 s₂.heap/\TruthOf X.prog X.w X.A.in1 P tr/\n=bs.length∧
  ∀h' tk,(∀b o,b∉wr->s₂.heap.get? b=some o->h'.get? b=some o)->Q (.bool (f tr)) {s₂ with heap:=h',toks:=tk}) E s:=by
 obtain⟨its,r,pl,hz⟩:=I.list hp;have e:=a5P r;subst e
 have hne:p≠s.heap.objs.size:=by
  obtain⟨o,n,e,_⟩:=pl;exact Nat.ne_of_lt (Heap.lt_size e)
 refine wpAny_pyIter_list pl.isList ⟨s.heap.objs.size,_,_,_,_,_,fun i=>bs.getD i true,rfl,Walks.list (A:=X.A.in1) (I.ok.hd hc) s.heap.objs.size p hne (bs.map Value.bool).toArray,⟨⟨_,Heap.get?_push_size _ rfl,rfl,rfl⟩,?_⟩,?_,?_,?_⟩
 · exact pl.isList.at fun o e=>Heap.get?_push_of_some _ e
 · intro i v s' Q' E' hP hQ
   have hP':(bs.map Value.bool).toArray[i]? =some v:=hP
   rw[List.getElem?_toArray,List.getElem?_map] at hP'
   cases q:bs[i]? with
   |none=>rw[q] at hP';cases hP'
   |some b=>
    rw[q] at hP';cases hP'
    have:bs.getD i true=b:=by rw[List.getD_eq_getElem?_getD,q];rfl
    have hQ':Q' b s':=this▸hQ
    exact wpAny_truthy_bool hQ'
 · simp
 · intro h' tk k
   exact hq _ (I.kept fun b o e=>k b o (by
    have:=Nat.ne_of_lt (Heap.lt_size e)
    simpa using this) (Heap.get?_push_of_some _ e))
theorem b0K(hc:X.calm=true):D1 X (.builtin "all") (fun xs H Q=>∃(p:Addr) (bs:List Bool),xs=[.ref p]/\SqL X.K H p (bs.map V.bl)/\Q (.bl (bs.all id)) H):=by
 intro pins s σ H xs us Q I r h;obtain⟨p,bs,rfl,hp,q⟩:=h;obtain⟨u,rfl,ru⟩:=O8 r;cases ru;refine call_all_walk (thn (a3B (f:=fun tr=>(List.range bs.length).all tr) (Q:=EP X pins σ Q) hc I hp fun s' I'=>⟨.bl (bs.all id),H,I',?_,q⟩) fun it s2 ⟨i,fp,wr,n,P,St,tr,e1,e2,e3,e4,e5,e6⟩=>⟨i,fp,wr,n,P,St,tr,e1,e2,e3,e4,?_⟩)
 · show Value.bool _=Value.bool _
   exact congrArg Value.bool (a7N bs id)
 · subst e5;exact e6
theorem b0J(hc:X.calm=true):D1 X (.builtin "any") (fun xs H Q=>∃(p:Addr) (bs:List Bool),xs=[.ref p]/\SqL X.K H p (bs.map V.bl)/\Q (.bl (bs.any id)) H):=by
 intro pins s σ H xs us Q I r h;obtain⟨p,bs,rfl,hp,q⟩:=h;obtain⟨u,rfl,ru⟩:=O8 r;cases ru;refine call_any_walk (thn (a3B (f:=fun tr=>(List.range bs.length).any tr) (Q:=EP X pins σ Q) hc I hp fun s' I'=>⟨.bl (bs.any id),H,I',?_,q⟩) fun it s2 ⟨i,fp,wr,n,P,St,tr,e1,e2,e3,e4,e5,e6⟩=>⟨i,fp,wr,n,P,St,tr,e1,e2,e3,e4,?_⟩)
 · show Value.bool _=Value.bool _
   exact congrArg Value.bool (a7M bs id)
 · subst e5;exact e6
theorem a4H:D1 X (.type "int") (fun xs H Q=>∃z n,xs=[.str z]/\z.length<=640/\PySem.intText? z=some n/\Q (.int n) H):=by
 intro pins s σ H xs us Q I r h;obtain⟨z,n,rfl,hz,hn,q⟩:=h;obtain⟨u,rfl,t,rfl⟩:=O8 r;exact PySem.W.KIN.call_text hn hz ⟨.int n,H,I.tok _,⟨_,rfl⟩,q⟩
end
section
variable{X:Cx}{pins:List (Addr×Obj)}{σ:St}{H:Hp}{s:Shared}{h':Heap}{fp:List Addr}
theorem Inv.turnedF{t':Nat}(I:Inv X pins σ H s)(hf:∀b∈fp,a1E X pins H b)(k:∀b u,b∉fp->s.heap.get? b=some u->h'.get? b=some u):Inv X pins σ H {s with heap:=h',toks:=t'}:=by
 have nit:∀b u,H b=some u->b∉fp:=fun b u e z=>by rw[(hf b z).1] at e;cases e
 refine I.step (g':=s.gens) (d':=s.drawn) (ch:=fp) (fun b hb=>⟨(hf b hb).2.2.2.1,(hf b hb).2.1,(hf b hb).2.2.2.2.1,(hf b hb).2.2.2.2.2⟩) (fun b o _ _ hc e _=>k b o hc e) (fun b o _ _ hc e _=>⟨o.slots,k b o hc e⟩) (fun _ _ _ _ n=>n)
  (fun b o hc e=>⟨o,k b o hc e⟩) (fun _ _ e=>e) (fun _ _ _ e=>e) (fun b ps e=>⟨#[],by rw[e];simp⟩) (fun m hm=>?_) (fun b u e=>?_) I.bare
 · obtain⟨o,es,ep,ho,r⟩:=hm;exact⟨o,es,ep,k _ o (fun z=>(hf _ z).2.1 rfl) ho,r⟩
 · refine(I.hok b u e).stay (fun c v hc q=>k c v ?_ q) (fun _ q=>q) fun _ _ q=>q
   rcases hc with z|z
   · rw[z];exact nit b u e
   · exact nit c _ z
theorem Inv.turnedN{t':Nat}{T:Addr}{o:HO}(I:Inv X pins σ H s)(hf:∀b∈fp,a1E X pins H b)(k:∀b u,b∉fp->s.heap.get? b=some u->h'.get? b=some u)(hT:s.heap.objs.size<=T)(new:x3 X.prog X.w (upd H T o) h' T o):
 Inv X pins σ (upd H T o) {s with heap:=h',toks:=t'}:=by
 have hn:H T=none:=I.hok.fresh hT
 have nit:∀b u,H b=some u->b∉fp:=fun b u e z=>by rw[(hf b z).1] at e;cases e
 have ne:∀b u,s.heap.get? b=some u->b≠T:=fun b u e=>Nat.ne_of_lt (Nat.lt_of_lt_of_le (Heap.lt_size e) hT)
 have up:∀b u,H b=some u->upd H T o b=some u:=fun b u e=>by rw[l8 (u0 e hn)];exact e
 refine I.step (g':=s.gens) (d':=s.drawn) (ch:=fp) (fun b hb=>⟨(hf b hb).2.2.2.1,(hf b hb).2.1,(hf b hb).2.2.2.2.1,(hf b hb).2.2.2.2.2⟩) (fun b u _ _ hc e _=>k b u hc e) (fun b u _ _ hc e _=>⟨u.slots,k b u hc e⟩) (fun b u _ e n=>by rw[l8 (ne b u e)];exact n)
  (fun b u hc e=>⟨u,k b u hc e⟩) (fun b xs e=>up b _ e) (fun b u xs e=>up b _ e) (fun b ps e=>⟨#[],by rw[up b _ e];simp⟩) (fun m hm=>?_) (fun b u e=>?_) I.bare
 · obtain⟨u,es,ep,ho,r⟩:=hm;exact⟨u,es,ep,k _ u (fun z=>(hf _ z).2.1 rfl) ho,r⟩
 · by_cases hb:b=T
   · subst hb;rw[g9] at e;cases e;exact new
   · rw[l8 hb] at e;refine(I.hok b u e).stay (fun c v hc q=>k c v ?_ q) (fun c q=>up c _ q) fun c xs q=>up c _ q
     rcases hc with z|z
     · rw[z];exact nit b u e
     · exact nit c _ z
end
def Its(x:Str):It:=⟨fun i _=>i<x.cps.size,fun i H v H'=>H'=H/\∃c,x.cps[i]? =some c/\v=.str ⟨#[c]⟩,fun i _=>i=x.cps.size⟩
theorem a4U{P:Program}{w:World}{K:PySem.W.Frag}{tg:Expr}{ty:String}(x:Str)(t:Tok)(it:Addr)(hty:["enumerate","zip","dict_itemiterator","dict_reverseitemiterator","odict_iterator","itertools.zip_longest","itertools.pairwise"].contains ty=false)
 (W:∀A:Around,A.handled=none->Walks P w A it [it] [it] x.cps.size (SignAt x) (fun i h=>h.IsStrIter it ty x t i))
 (Sf:∀(A:Around) (i:Nat) (s:Shared) (Q:Value->Shared->Prop) (E:Value->Shared->Prop),s.heap.IsStrIter it ty x t i->Q (.ref it) s->wpAny (model P w) A (pyIter (.ref it)) Q E s):Turn P w K tg (Its x) [it] it (fun i h=>h.IsStrIter it ty x t i) where
 mem:=by simp
 obj:=fun i h st b hb=>by
  have e:b=it:=by simpa using hb
  subst e;obtain⟨o,e,c,d⟩:=st;exact⟨o,e,fun v z=>by rw[d] at z;cases z⟩
 keep:=fun i h h' st k=>let⟨o,e,r⟩:=st;⟨o,k it (by simp) o e,r⟩
 item:=by
  intro X hP hw hK hc i pins s σ H E I hf st hg;subst hP hw hK;refine(W X.A (I.ok.hd hc)).item i s _ _ hg st fun v h' tk hv st' kk=>?_
  obtain⟨c,u,hcx,rfl⟩:=hv
  have I1:Inv X pins σ H {s with heap:=h',toks:=tk}:=I.turnedF hf fun b o hb e=>kk b o hb e
  obtain⟨o,e,hcl,d⟩:=id st';exact⟨_,rfl,a7l (s:={s with heap:=h',toks:=tk}) e hcl d hty ⟨.str ⟨#[c]⟩,H,I1,⟨u,rfl⟩,⟨rfl,c,hcx,rfl⟩,st',fun b hb=>(hf b hb).1⟩⟩
 done:=by
  intro X hP hw hK hc i pins s σ H E I hf st hg;subst hP hw hK
  have hg':i=x.cps.size:=hg
  subst hg';exact(W X.A (I.ok.hd hc)).done s _ _ st fun h' tk k=>⟨rfl,I.turnedF (t':=tk) hf fun b o hb e=>k b o hb e⟩
 self:=fun A i s Q E st h=>Sf A i s Q E st h
section
variable{X:Cx}{tg:Expr}
def b9v(tl:TE):TI:=fun σ H R=>tl σ H fun x H1=>∃z,x=.str z/\R (Its z) H1
theorem b4l{l:Expr}{tl:TE}(hl:PE X l tl):PI X tg l (b9v tl):=by
 intro pins s σ H R I h;refine thn (hl pins s σ H _ I h) fun v s1 ⟨x,H1,I1,r1,z,e,q⟩=>?_
 subst e;obtain⟨t,rfl⟩:=r1
 have fp:∀b∈[s1.heap.objs.size],a1E X pins H1 b:=fun b hb=>by
  have e:b=s1.heap.objs.size:=by simpa using hb
  subst e;exact I1.fpOk (Nat.le_refl _) (I1.hok.fresh (Nat.le_refl _))
 cases ha:z.cps.all (· <128)
 · exact wpAny_pyIter_wide ha ⟨s1.heap.objs.size,[s1.heap.objs.size],_,_,H1,rfl,I1.kept (t':=s1.toks) fun b o e=>Heap.get?_push_of_some _ e,a4U (ty:="str_iterator") z t _ (by decide) (fun A hA=>Walks.strWide hA _ z t) (fun A i s Q E st h=>wpAny_pyIter_striter_wide st h),
    ⟨_,Heap.get?_push_size _ rfl,rfl,rfl⟩,fp,q⟩
 · exact wpAny_pyIter_ascii ha ⟨s1.heap.objs.size,[s1.heap.objs.size],_,_,H1,rfl,I1.kept (t':=s1.toks) fun b o e=>Heap.get?_push_of_some _ e,a4U (ty:="str_ascii_iterator") z t _ (by decide) (fun A hA=>Walks.strAscii hA _ z t) (fun A i s Q E st h=>wpAny_pyIter_striter_ascii st h),
    ⟨_,Heap.get?_push_size _ rfl,rfl,rfl⟩,fp,q⟩
end
def Ite(K:PySem.W.Frag)(l:Addr):It:=⟨fun i H=>∃xs x,SqL K H l xs/\xs[i]? =some x,fun i H v H'=>∃T x,H T=none/\v=.ref T/\(∀xs,SqL K H l xs->xs[i]? =some x)/\H'=upd H T (.tup [.int i,x]),fun i H=>∃xs,SqL K H l xs/\xs.length<=i⟩
theorem a7C{P:Program}{w:World}{K:PySem.W.Frag}{elts:List Expr}{k:Nat}{pos:Pos}(e it l:Addr)(hei:e≠it):
 Turn P w K (.Tuple elts k pos) (Ite K l) [e,it] e (fun i h=>(∃old,IsEnum h e it i old)/\h.IsListIter it l i) where
 mem:=by simp
 obj :=fun i h st b hb=>by
  obtain⟨⟨old,he⟩,o,e1,c,d⟩:=st
  rcases List.mem_cons.mp hb with z|z
  · subst z
    exact⟨_,he,fun v z=>by
     have z':Data.fields _=Data.cell v:=z
     cases z'⟩
  · have z':b=it:=by simpa using z
    subst z';exact⟨o,e1,fun v z=>by rw[d] at z;cases z⟩
 keep:=fun i h h' st k=>by
  obtain⟨⟨old,he⟩,hit⟩:=st;exact⟨⟨old,k e (by simp) _ he⟩,hit.at fun o x=>k it (by simp) o x⟩
 item:=by
  intro X hP hw hK hc i pins s σ H E I hf st hg;subst hP hw hK;obtain⟨⟨old,he⟩,hit⟩:=st;obtain⟨xs,x,hq,hx⟩:=hg;obtain⟨its,rv,p,hz⟩:=I.list hq;obtain⟨u,hu,ru⟩:=rv.get hx
  have helt:e<s.heap.objs.size:=Heap.lt_size he
  refine wpAny_pyNext_enum_item he hit p.isList (x:=u) (by simpa using hu) hei fun h' ho hit' hT hsz hk=>?_
  refine⟨_,rfl,wpAny_letOwnedTupleGo_enum ho fun h2 he2 hs2=>?_⟩
  have kk:∀b o,b∉[e,it]->s.heap.get? b=some o->h2.get? b=some o:=fun b o hb q=>by
   have h1:b≠e:=fun z=>hb (by simp[z])
   have h2':b≠it:=fun z=>hb (by simp[z])
   exact(hs2.2 b h1).trans (hk b o h1 h2' q)
  have hT2:h2.get? s.heap.objs.size=some {cls:=.type "tuple",data:=.seq #[.int i s.toks,u]}:=(hs2.2 _ (Nat.ne_of_gt helt)).trans hT
  have I1:Inv X pins σ (upd H s.heap.objs.size (.tup [.int i,x])) {s with heap:=h2,toks:=s.toks+1}:=
   I.turnedN (fp:=[e,it]) hf kk (Nat.le_refl _) ⟨by show 2<=sizeLine;decide,[.int i s.toks,u],.cons ⟨_,rfl⟩ (.cons ru .nil),_,hT2,rfl,rfl,_,rfl⟩
  refine⟨.ref s.heap.objs.size,_,I1,rfl,⟨s.heap.objs.size,x,I.hok.fresh (Nat.le_refl _),rfl,fun ys hy=>by rw[I.list_inj hy hq];exact hx,rfl⟩,⟨⟨_,by simpa using he2⟩,hit'.at fun o x=>(hs2.2 it (Ne.symm hei)).trans x⟩,fun b hb=>?_⟩
  have hbs:b<s.heap.objs.size:=by
   rcases List.mem_cons.mp hb with z|z
   · rw[z];exact helt
   · have z':b=it:=by simpa using z
     rw[z'];obtain⟨o,e1,_⟩:=hit;exact Heap.lt_size e1
  rw[l8 (Nat.ne_of_lt hbs)];exact(hf b hb).1
 done:=by
  intro X hP hw hK hc i pins s σ H E I hf st hg;subst hP hw hK;obtain⟨⟨old,he⟩,hit⟩:=st;obtain⟨xs,hq,hx⟩:=hg;obtain⟨its,rv,p,hz⟩:=I.list hq;have hl:=rv.length;exact wpAny_pyNext_enum_end (I.ok.hd hc) he hit p.isList (by simp;omega) fun h' eb=>⟨rfl,I.turnedF (t':=s.toks) hf fun b o hb q=>eb b o (fun z=>hb (by simp[z])) q⟩
 self:=fun A i s Q E st h=>by
  obtain⟨⟨old,he⟩,_⟩:=st;exact wpAny_pyIter_enum he h
section
variable{X:Cx}{elts:List Expr}{k:Nat}{tpos:Pos}
def b7s(K:PySem.W.Frag)(ta:TA):TI:=fun σ H R=>ta σ H fun vs H1=>∃l xs,vs=[.ref l]/\SqL K H1 l xs/\R (Ite K l) H1
theorem b2c{a:Expr}{ta:TA}{p pos:Pos}(hg:Gl X "enumerate")(hm:X.mg "enumerate"=none)(ha:PA X [a] ta)(hs:starEach [a] X.env=[(false,eval a X.env)]:=by rfl):
 PI X (.Tuple elts k tpos) (.Call (.Name "enumerate" p) [a] [] pos) (b7s X.K ta):=by
 intro pins s σ H R I h;refine Call_ (a1e I hg hm boot_enumerate (PyProof.Rows.callWith_type1 (thn (ha pos pins s σ H _ I h) fun us s1 ⟨vs,H1,I1,r1,q1⟩=>?_) hs rfl))
 obtain⟨l,xs,e,hq,q⟩:=q1;subst e;obtain⟨u,rfl,ru⟩:=O8 r1;cases ru;obtain⟨its,rv,pl,hz⟩:=I1.list hq;refine call_enumerate_list pl.isList fun h' he hit hsz hk=>?_
 have I2:Inv X pins σ H1 {s1 with heap:=h'}:=I1.kept (t':=s1.toks) hk
 refine wpAny_pyIter_enum he ⟨s1.heap.objs.size+1,[s1.heap.objs.size+1,s1.heap.objs.size],_,_,H1,rfl,I2,a7C (s1.heap.objs.size+1) s1.heap.objs.size l (Nat.ne_of_gt (Nat.lt_succ_self _)),⟨⟨_,he⟩,hit⟩,fun b hb=>?_,q⟩
 have hb':s1.heap.objs.size<=b:=by
  rcases List.mem_cons.mp hb with z|z
  · rw[z];exact Nat.le_succ _
  · have z':b=s1.heap.objs.size:=by simpa using z
    rw[z'];exact Nat.le_refl _
 exact I1.fpOk hb' (I1.hok.fresh hb')
end
end L2
namespace L2
open PySem PySem.Spec PyProof.Rows
section
variable{X:Cx}
def b9m(K:PySem.W.Frag):List V->Hp->VK->Prop:=fun xs H Q=>∃x T t b,xs=[x,.ty T]/\TyOf K H x t/\PySem.W.kitOne K t (.type T)=some b/\Q (.bl b) H
theorem b0I:D1 X (.builtin "isinstance") (b9m X.K):=by
 intro pins s σ H xs us Q I r h;obtain⟨x,T,t,b,rfl,ty,e,q⟩:=h;obtain⟨u1,u2,rfl,ru1,ru2⟩:=a4S r;cases ru2;exact a8f I ru1 ty e fun tk=>⟨.bl b,H,I.tok _,rfl,q⟩
end
end L2
namespace L2
open PySem PySem.Spec PyProof.Rows
def b6q:TT:=fun _ H Q=>Q true H
theorem b4i{X:Cx}:a5S X [] b6q:=b2a
end L2
namespace L2
open PySem PySem.Spec PyProof.Rows
def b5H(sc scope:Scope)(own frees:List Str):Bool:=
 decide (scope.kind=.function)&&scope.names.all (fun y=>decide (y.2≠.cell))&&scope.names.all (fun y=>decide (y.2=.local->scope.names.lookup y.1=some .local))&&
 scope.names.all (fun y=>decide (y.2=.free->sc.names.lookup y.1=some .cell))&&decide ((own++frees).Nodup)&&own.all (fun x=>decide (scope.names.lookup x=some .local))&&frees.all (fun x=>decide (scope.names.lookup x=some .free))
theorem b8e{sc scope:Scope}{own frees:List Str}(h:b5H sc scope own frees=true):CompScope sc scope own frees:=by
 unfold b5H at h;simp only[Bool.and_eq_true,decide_eq_true_eq,List.all_eq_true] at h;obtain⟨⟨⟨⟨⟨⟨a,b⟩,c⟩,d⟩,e⟩,f⟩,g⟩:=h;exact⟨a,b,c,d,e,f,g⟩
end L2
namespace L2
open PySem PySem.Spec PyProof.Rows
section
variable{X:Cx}{elt iter tg:Expr}{ifs:List Expr}{scope:Scope}{pos:Pos}{own frees:List Str}{js:List Nat}{wi:TI}{g:TG}{tc:TT}{te:TE}
theorem a3y{pins:List (Addr×Obj)}{σ:St}{H:Hp}{s:Shared}{Q:VK}{RR:Value->Addr->Result->Shared->Prop}(hcalm:X.calm=true)(hi:PI X tg iter wi)(S:CompScope X.env.scope scope own frees)(hj:frees.map some=js.map (X.N[·]?))
 (hg:∀C s₀ H₀ ex,PG (t8 X own frees scope C s₀ H₀ ex) tg g) (hc:∀C s₀ H₀ ex,a5S (t8 X own frees scope C s₀ H₀ ex) ifs tc) (he:∀C s₀ H₀ ex,PE (t8 X own frees scope C s₀ H₀ ex) elt te)
 (I:Inv X pins σ H s) (h:a6J own js wi g tc te σ H Q)
 (fin:∀D C s5 H4 m5,Inv X pins σ H4 s5->s5.heap.Ns C m5->H4 C=none->X.s₀.heap.objs.size<=C->C≠X.env.locals->(∀x c,X.env.cells.lookup x=some c->c≠C)->(∀p∈X.pn++pins,p.1≠C)->Q (.ref D) H4->RR (.ref D) C (.ok .next) s5):
 wpAny (model X.prog X.w) X.A (eval iter X.env) (fun v s1=>wpAny (model X.prog X.w) X.A (pyIter v) (fun it s2=>wpAny (model X.prog X.w) X.A (newList []) (fun acc s3=>
  wpAny (model X.prog X.w) X.A (newFunctionEnv scope X.env.globals (J9 X.env.cells scope.names []) [] X.env.qual none .none (some X.env)) (fun cenv s4=>
   codeAny (model X.prog X.w) X.A (.compStart (.ListComp elt [⟨tg,iter,ifs,0⟩] scope pos) 0 it acc {cenv with scope:=relabel scope X.env}) (RR acc cenv.locals) s4) X.xe s3) X.xe s2) X.xe s1) X.xe s:=by
 refine thn (hi pins s σ H _ I h) fun v s1 h1=>thn h1 fun itv s2 h2=>?_
 obtain⟨it,fp,tn,J,H2,e,I2,T,st2,f2,R2⟩:=h2;subst e
 have hD:H2 s2.heap.objs.size=none:=I2.hok.fresh (Nat.le_refl _)
 obtain⟨W,⟨m0,w0⟩,turn⟩:=R2 s2.heap.objs.size hD
 have hcells:∀x c,X.env.cells.lookup x=some c->c<s2.heap.objs.size:=fun x c e=>by obtain⟨v,z⟩:=I2.cell x c e;exact z.lt
 refine wpAny_newObj_type (wpAny_newFunctionEnv S.nocell (by intro y hy;simp at hy) (fun h₁ hns₁ hsb₁=>?_) S.kind)
 dsimp only at hns₁ hsb₁⊢
 generalize hHH:s2.heap.push {cls:=.type "list",dict:=none,data:=.seq ([]:List Value).toArray}=HH at hns₁ hsb₁⊢
 have hC:HH.objs.size=s2.heap.objs.size+1:=by rw[←hHH,Heap.size_push]
 have hCle:s2.heap.objs.size<=HH.objs.size:=by rw[hC];exact Nat.le_succ _
 have hDC:s2.heap.objs.size≠HH.objs.size:=by rw[hC];exact Nat.ne_of_lt (Nat.lt_succ_self _)
 have neC:∀b,b<s2.heap.objs.size->b≠HH.objs.size:=fun b hb=>by rw[hC];exact Nat.ne_of_lt (Nat.lt_succ_of_lt hb)
 have old:∀b o,s2.heap.get? b=some o->h₁.get? b=some o:=fun b o e=>hsb₁.extBut b o (neC b (Heap.lt_size e)) (Heap.get?_push_of_some _ (hHH▸Heap.get?_push_of_some _ e))
 have accAt:h₁.get? s2.heap.objs.size=some {cls:=.type "list",dict:=none,data:=.seq ([]:List Value).toArray}:=hsb₁.extBut _ _ hDC (Heap.get?_push_of_some _ (hHH▸Heap.get?_push_size _ rfl))
 have hfo:∀b∈fp,∃o,s2.heap.get? b=some o:=fun b hb=>let⟨o,e,_⟩:=T.obj _ _ st2 b hb;⟨o,e⟩
 have hnD:∀b,b<s2.heap.objs.size->upd H2 s2.heap.objs.size (.lst []) b=H2 b:=fun b hb=>l8 (Nat.ne_of_lt hb)
 have hok1:HOk X.prog X.w (upd H2 s2.heap.objs.size (.lst [])) h₁:=I2.hok.laid old (Nat.le_refl _) ⟨Nat.zero_le _,[],0,.nil,accAt⟩
 have I3:∀s3:Shared,s3={s2 with heap:=h₁,toks:=s2.toks+([]:List (Str×Value)).length}->Inv (t8 X own frees scope HH.objs.size s2 H2 fp) [] (D8 own js σ) (upd H2 s2.heap.objs.size (.lst [])) s3:=by
  rintro s3 rfl;refine b0C I2 S hj hCle f2 hfo rfl I2.bare old (Un.laid old (Nat.le_refl _) hD) hns₁ ?_ hok1 (fun x c e=>?_)
  · rw[l8 (Ne.symm hDC)];exact I2.hok.fresh hCle
  · rw[hnD c (hcells x c e)];exact I2.freeC x c e
 -- what stays true of the iterator's objects
 have stat:∀{H':Hp},(∀b∈fp,H' b=none)->∀b∈fp,a1E (t8 X own frees scope HH.objs.size s2 H2 fp) [] H' b:=fun{H'} hn b hb=>by
  obtain⟨o,q⟩:=hfo b hb;refine⟨hn b hb,neC b (Heap.lt_size q),fun hm=>?_,.inl hb,fun x c e=>(f2 b hb).2.2.2.2.1 x c (O4 e),fun p hp=>absurd (show p∈([]:List (Addr×Obj)) from hp) (by simp)⟩
  rcases List.mem_cons.mp (I2.stkSub b hm) with z|z
  · exact(f2 b hb).2.1 z
  · exact(f2 b hb).2.2.1 z
 have loop:∀s3:Shared,s3={s2 with heap:=h₁,toks:=s2.toks+([]:List (Str×Value)).length}→
  codeAny (model X.prog X.w) X.A (.compLoop (.ListComp elt [⟨tg,iter,ifs,0⟩] scope pos) 0 (.ref it) (.ref s2.heap.objs.size) (compEnvC scope (J9 X.env.cells scope.names []) HH.objs.size X.env))
   (RR (.ref s2.heap.objs.size) HH.objs.size) s3:=by
  intro s3 hs3
  refine a4C (fun n s'=>∃i ys H',Inv (t8 X own frees scope HH.objs.size s2 H2 fp) [] (D8 own js σ) H' s'/\tn i s'.heap/\(∀b∈fp,H' b=none)/\W i n ys H') ?_ m0
   ⟨0,[],_,I3 s3 hs3,T.keep _ _ _ st2 (fun b hb o e=>by rw[hs3];exact old b o e),fun b hb=>by obtain⟨o,q⟩:=hfo b hb;rw[hnD b (Heap.lt_size q)];exact(f2 b hb).1,w0⟩
  rintro n s4 ⟨i,ys,H4,I4,st4,fr4,w4⟩
  rcases turn i n ys H4 w4 with⟨stop,qn⟩|⟨go,step⟩
  · refine thn (T.done (t8 X own frees scope HH.objs.size s2 H2 fp) rfl rfl rfl hcalm i [] s4 (D8 own js σ) H4 _ I4 (stat fr4) st4 stop) fun r s5 ⟨hr,I5⟩=>?_
    subst hr;obtain⟨m5,hn5,_⟩:=I5.loc
    have ub:Un (frs X.stack) fp H2 H4 s2.heap s5.heap:=I5.base
    refine fin _ _ s5 H4 m5 (I2.call' (ch:=fp) I5.os ub I5.hok I5.bare fun b hb=>⟨(f2 b hb).2.2.2.1,(f2 b hb).2.1,(f2 b hb).2.2.2.2.1,(f2 b hb).2.2.2.2.2⟩) hn5 I5.free (Nat.le_trans I2.sz hCle) ?_ ?_ ?_ qn
    · exact Ne.symm (neC _ I2.lt)
    · exact fun x c e=>neC c (hcells x c e)
    · exact fun p hp=>neC _ (Heap.lt_size (I2.pin p hp).1)
  · refine thn (T.item (t8 X own frees scope HH.objs.size s2 H2 fp) rfl rfl rfl hcalm i [] s4 (D8 own js σ) H4 _ I4 (stat fr4) st4 go) fun r s5 ⟨u,hr,h5⟩=>?_
    subst hr;refine thn h5 fun _ s6 ⟨x,H6,I6,r6,y6,st6,fr6⟩=>?_
    have I6':=I6.pinned (stat fr6) (T.obj _ _ st6)
    refine thn (hg _ _ _ _ _ s6 _ H6 x u _ I6' r6 (step x H6 y6)) fun _ s7 ⟨σ7,H7,I7,wk7,q7⟩=>?_
    refine thn (hc _ _ _ _ _ s7 σ7 H7 _ I7 q7) fun b s8 ⟨H8,I8,q8⟩=>?_
    have again:∀{s9:Shared} {H9:Hp} {zs:List V},Inv (t8 X own frees scope HH.objs.size s2 H2 fp) ([]++a2i fp s6.heap) σ7 H9 s9->(∃m',m'<n/\W (i+1) m' zs H9)→
     ∃m,m<n/\∃i ys H',Inv (t8 X own frees scope HH.objs.size s2 H2 fp) [] (D8 own js σ) H' s9/\tn i s9.heap/\(∀b∈fp,H' b=none)/\W i m ys H':=fun{s9 H9 zs} I9 ⟨m',hm,w9⟩=>by
     refine⟨m',hm,i+1,zs,H9,(I9.weak wk7.1 wk7.2).unpinned,T.keep _ _ _ st6 fun b hb o e=>(I9.pin (b,o) (List.mem_append_right _ (List.mem_append_right _ (V1 hb e)))).1,fun b hb=>?_,w9⟩
     obtain⟨o,e,d⟩:=T.obj _ _ st6 b hb;exact(I9.pin (b,o) (List.mem_append_right _ (List.mem_append_right _ (V1 hb e)))).2.1
    cases b with
    |false=>
     rw[if_neg Bool.false_ne_true] at q8⊢;exact again I8 q8
    | true=>
     rw[if_pos rfl] at q8⊢;refine thn (he _ _ _ _ _ s8 σ7 H8 _ I8 q8) fun y s9 ⟨v9,H9,I9,r9,hD9,hz9,q9⟩=>?_
     refine thn (a3j (X:=t8 X own frees scope HH.objs.size s2 H2 fp) _ s9 σ7 H9 (.ref s2.heap.objs.size) [v9] (.ref s2.heap.objs.size) [y] (fun _ H'=>∃m',m'<n/\W (i+1) m' (ys++[v9]) H') I9 rfl (.cons r9 .nil)
      ⟨_,ys,v9,rfl,rfl,hD9,hz9,q9⟩) fun _ s10 ⟨_,H10,I10,_,q10⟩=>?_
     exact again I10 q10
 exact codeAny_compStart_list (loop _ rfl) (T.self _ 0 _ _ _ (T.keep _ _ _ st2 fun b hb o e=>old b o e) (loop _ rfl))
theorem a5i(hcalm:X.calm=true)(hi:PI X tg iter wi)(S:CompScope X.env.scope scope own frees)(hj:frees.map some=js.map (X.N[·]?))
 (hg:∀C s₀ H₀ ex,PG (t8 X own frees scope C s₀ H₀ ex) tg g) (hc:∀C s₀ H₀ ex,a5S (t8 X own frees scope C s₀ H₀ ex) ifs tc) (he:∀C s₀ H₀ ex,PE (t8 X own frees scope C s₀ H₀ ex) elt te)
 (hs:∀x,foldedSetIterable iter X.env x=pure x):PE X (.ListComp elt [⟨tg,iter,ifs,0⟩] scope pos) (a6J own js wi g tc te):=by
 intro pins s σ H Q I h;rw[eval_ListComp]
 have hcl:closureFor scope X.env=pure (J9 X.env.cells scope.names []):=a0n fun y hy e=>I.ok.has y.1 (.inl (S.out y hy e))
 refine wpAny_comprehension_free (use:=none) rfl hs hcl S.kind S.locs (a3y hcalm hi S hj hg hc he I h fun D C s5 H4 m5 I5 hn5 c1 c2 c3 c4 c5 q=>?_)
 exact⟨m5,hn5,fun h' hs'=>⟨.ref D,H4,I5.turned (t':=s5.toks) (fun b o hb e=>(hs'.2 b hb).trans e) c1 (Ne.symm (Ne.symm c3)) (.inr c2) c4 c5,rfl,q⟩⟩
theorem b1V{i:Nat}{x:Str}{pos' spos:Pos}(hcalm:X.calm=true)(hi:PI X tg iter wi)(S:CompScope X.env.scope scope own frees)(hj:frees.map some=js.map (X.N[·]?))
 (hg:∀C s₀ H₀ ex,PG (t8 X own frees scope C s₀ H₀ ex) tg g) (hc:∀C s₀ H₀ ex,a5S (t8 X own frees scope C s₀ H₀ ex) ifs tc) (he:∀C s₀ H₀ ex,PE (t8 X own frees scope C s₀ H₀ ex) elt te)
 (hs:∀x,foldedSetIterable iter X.env x=pure x) (hN:X.N.Nodup) (hix:X.N[i]? =some x) (hx:Loc X.env.scope x) (hf:X.fn x=true∨X.env.scope.names.lookup x=some .local):
 PS X (.Assign [.Name x pos'] (.ListComp elt [⟨tg,iter,ifs,0⟩] scope pos) spos) (b3Q (a6J own js wi g tc te) (b0e i)):=by
 obtain⟨b,hb⟩:∃b,swapsWith (.ListComp elt [⟨tg,iter,ifs,0⟩] scope pos) (some (.Name x pos')) spos.line X.env=pure b:=⟨_,rfl⟩
 cases b with
 |false=>exact a9g hN hix hx (a5i hcalm hi S hj hg hc he hs) hb hf
 | true=>
  intro pins s σ H Dn I h;rw[exec_Assign_Name_used _ _ _ _ hb]
  have hcl:closureFor scope X.env=pure (J9 X.env.cells scope.names []):=a0n fun y hy e=>I.ok.has y.1 (.inl (S.out y hy e))
  refine wpAny_bind (wpAny_standAt (wpAny_bind ?_))
  show wpAny _ X.A (do let _←comprehension (.ListComp elt [⟨tg,iter,ifs,0⟩] scope pos) scope X.env _ (newList []) false (eval iter X.env) (some (assign (.Name x pos') X.env))) _ _ s
  refine wpAny_bind (wpAny_mono (wpAny_comprehension_free (use:=some (assign (.Name x pos') X.env)) (Q:=fun _ s'=>SP X pins Dn .next s') rfl hs hcl S.kind S.locs
   (a3y hcalm hi S hj hg hc he I h fun D C s5 H4 m5 I5 hn5 c1 c2 c3 c4 c5 q=>?_)) (fun _ s' hq=>wpAny_pure (wpAny_pure hq)) fun _ _ e=>e)
  show wpAny _ X.A (assign (.Name x pos') X.env (.ref D)) _ _ s5
  refine wpAny_assign_Name (a2Y (v:=.ref D) I5 hN hix hx rfl (fun s6 I6 ⟨a,sb,ea⟩=>?_) hf)
  have hCa:C≠a:=fun z=>by
   rcases ea with y|y
   · exact c3 (z.trans y)
   · exact c4 x a y z.symm
  exact⟨m5,hn5.sameBut sb hCa,fun h' hs'=>⟨_,H4,I6.turned (t':=s6.toks) (fun b o hb e=>(hs'.2 b hb).trans e) c1 c3 (.inr c2) c4 c5,q⟩⟩
end
end L2
namespace L2
open PySem PySem.Spec PyProof.Rows
def Itz(K:PySem.W.Frag)(l1 l2:Addr):It:=⟨fun i H=>∃xs ys x y,SqL K H l1 xs/\SqL K H l2 ys/\xs[i]? =some x/\ys[i]? =some y,
 fun i H v H'=>∃T x y,H T=none/\v=.ref T/\(∀xs,SqL K H l1 xs->xs[i]? =some x)/\(∀ys,SqL K H l2 ys->ys[i]? =some y)/\H'=upd H T (.tup [x,y]),
 fun i H=>∃xs ys,SqL K H l1 xs/\SqL K H l2 ys/\(xs.length<=i∨ys.length<=i)⟩
theorem a8z{P:Program}{w:World}{K:PySem.W.Frag}{elts:List Expr}{k:Nat}{pos:Pos}(z TI TO i1 i2 l1 l2:Addr)(D:ZipApart z TI TO i1 i2 l1 l2):
 Turn P w K (.Tuple elts k pos) (Itz K l1 l2) [z,TI,TO,i1,i2] z (fun i h=>IsZip h z TI TO .none/\IsPair h TI (.ref i1) (.ref i2)/\(∃a b,IsPair h TO a b)/\h.IsListIter i1 l1 i/\h.IsListIter i2 l2 i) where
 mem:=by simp
 obj:=fun i h st b hb=>by
  obtain⟨hz,hTI,⟨a,c,hTO⟩,⟨o1,e1,c1,d1⟩,⟨o2,e2,c2,d2⟩⟩:=st;simp only[List.mem_cons,List.not_mem_nil,or_false] at hb
  rcases hb with rfl|rfl|rfl|rfl|rfl
  · exact⟨_,hz,fun v q=>by have q':Data.fields _=Data.cell v:=q;cases q'⟩
  · exact⟨_,hTI,fun v q=>by have q':Data.seq _ _=Data.cell v:=q;cases q'⟩
  · exact⟨_,hTO,fun v q=>by have q':Data.seq _ _=Data.cell v:=q;cases q'⟩
  · exact⟨o1,e1,fun v q=>by rw[d1] at q;cases q⟩
  · exact⟨o2,e2,fun v q=>by rw[d2] at q;cases q⟩
 keep:=fun i h h' st k=>by
  obtain⟨hz,hTI,⟨a,c,hTO⟩,h1,h2⟩:=st;exact⟨k z (by simp) _ hz,k TI (by simp) _ hTI,⟨a,c,k TO (by simp) _ hTO⟩,h1.at fun o x=>k i1 (by simp) o x,h2.at fun o x=>k i2 (by simp) o x⟩
 item:=by
  intro X hP hw hK hc i pins s σ H E I hf st hg;subst hP hw hK;obtain⟨hz,hTI,⟨a,c,hTO⟩,h1,h2⟩:=st;obtain⟨xs,ys,x,y,hq1,hq2,hx,hy⟩:=hg;obtain⟨its,rv,p,hz1⟩:=I.list hq1;obtain⟨its',rv',p',hz2⟩:=I.list hq2;obtain⟨u,hu,ru⟩:=rv.get hx;obtain⟨u',hu',ru'⟩:=rv'.get hy
  have hzlt:z<s.heap.objs.size:=Heap.lt_size hz
  refine wpAny_pyNext_zip_item D hz hTI hTO h1 h2 p.isList p'.isList (x:=u) (y:=u') (by simpa using hu) (by simpa using hu') fun h' a1 a2 a3 a4 a5 a6 hk=>?_
  refine⟨_,rfl,wpAny_letOwnedTupleGo_zip a1 fun h3 hz3 hs3=>?_⟩
  have kk:∀b o,b∉[z,TI,TO,i1,i2]->s.heap.get? b=some o->h3.get? b=some o:=fun b o hb q=>by
   have n1:b≠z:=fun w=>hb (by simp[w])
   exact(hs3.2 b n1).trans (hk b o n1 (fun w=>hb (by simp[w])) (fun w=>hb (by simp[w])) (fun w=>hb (by simp[w])) q)
  have hT3:h3.get? s.heap.objs.size=some {cls:=.type "tuple",data:=.seq #[u,u']}:=(hs3.2 _ (Nat.ne_of_gt hzlt)).trans a5
  have I1:Inv X pins σ (upd H s.heap.objs.size (.tup [x,y])) {s with heap:=h3,toks:=s.toks}:=
   I.turnedN (fp:=[z,TI,TO,i1,i2]) hf kk (Nat.le_refl _) ⟨by show 2<=sizeLine;decide,[u,u'],.cons ru (.cons ru' .nil),_,hT3,rfl,rfl,_,rfl⟩
  refine⟨.ref s.heap.objs.size,_,I1,rfl,⟨s.heap.objs.size,x,y,I.hok.fresh (Nat.le_refl _),rfl,fun zs hy=>by rw[I.list_inj hy hq1];exact hx,fun zs hy'=>by rw[I.list_inj hy' hq2];exact hy,rfl⟩,
   ⟨hz3,(hs3.2 _ D.TIz).trans (hk _ _ D.TIz D.TITO D.TIi1 D.TIi2 hTI),⟨_,_,(hs3.2 _ D.TOz).trans a2⟩,a3.at fun o x=>(hs3.2 _ D.i1z).trans x,a4.at fun o x=>(hs3.2 _ D.i2z).trans x⟩,fun b hb=>?_⟩
  have hbs:b<s.heap.objs.size:=by
   obtain⟨o1,e1,_⟩:=h1;obtain⟨o2,e2,_⟩:=h2;simp only[List.mem_cons,List.not_mem_nil,or_false] at hb
   rcases hb with rfl|rfl|rfl|rfl|rfl
   · exact hzlt
   · exact Heap.lt_size hTI
   · exact Heap.lt_size hTO
   · exact Heap.lt_size e1
   · exact Heap.lt_size e2
  rw[l8 (Nat.ne_of_lt hbs)];exact(hf b hb).1
 done:=by
  intro X hP hw hK hc i pins s σ H E I hf st hg;subst hP hw hK;obtain⟨hz,hTI,⟨a,c,hTO⟩,h1,h2⟩:=st;obtain⟨xs,ys,hq1,hq2,hx⟩:=hg;obtain⟨its,rv,p,hz1⟩:=I.list hq1;obtain⟨its',rv',p',hz2⟩:=I.list hq2;have hl:=rv.length
  have hl':=rv'.length
  refine wpAny_pyNext_zip_end (I.ok.hd hc) D hz hTI hTO h1 h2 p.isList p'.isList ?_ fun h' eb=>⟨rfl,I.turnedF (t':=s.toks) hf fun b o hb q=>eb b o (fun z=>hb (by simp[z])) (fun z=>hb (by simp[z])) (fun z=>hb (by simp[z])) (fun z=>hb (by simp[z])) q⟩
  rcases hx with hx|hx
  · exact .inl (by simp;omega)
  · exact .inr (by simp;omega)
 self:=fun A i s Q E st h=>wpAny_pyIter_zip st.1 h
section
variable{X:Cx}{elts:List Expr}{k:Nat}{tpos:Pos}
def b9t(K:PySem.W.Frag)(ta:TA):TI:=fun σ H R=>ta σ H fun vs H1=>∃l1 l2 xs ys,vs=[.ref l1,.ref l2]/\SqL K H1 l1 xs/\SqL K H1 l2 ys/\R (Itz K l1 l2) H1
theorem b4j{a b:Expr}{ta:TA}{p pos:Pos}(hg:Gl X "zip")(hm:X.mg "zip"=none)(ha:PA X [a,b] ta)(hs:starEach [a,b] X.env=(false,eval a X.env)::starEach [b] X.env)(hp:(backTo pos (starEach [b] X.env)).any (·.1)=false):
 PI X (.Tuple elts k tpos) (.Call (.Name "zip" p) [a,b] [] pos) (b9t X.K ta):=by
 intro pins s σ H R I h;refine Call_ (a1e I hg hm boot_zip (PyProof.Rows.callWith_type1 (thn (ha pos pins s σ H _ I h) fun us s1 ⟨vs,H1,I1,r1,q1⟩=>?_) hs hp))
 obtain⟨l1,l2,xs,ys,e,hq1,hq2,q⟩:=q1;subst e;obtain⟨u,u',rfl,ru,ru'⟩:=a4S r1;cases ru;cases ru';obtain⟨its,rv,pl,hz⟩:=I1.list hq1;obtain⟨its',rv',pl',hz'⟩:=I1.list hq2;refine call_zip_2 pl.isList pl'.isList fun h' a1 a2 a3 a4 a5 a6 hk=>?_
 have I2:Inv X pins σ H1 {s1 with heap:=h'}:=I1.kept (t':=s1.toks) hk
 have lt1:l1<s1.heap.objs.size:=by obtain⟨o,e,_⟩:=pl.isList;exact Heap.lt_size e
 have lt2:l2<s1.heap.objs.size:=by obtain⟨o,e,_⟩:=pl'.isList;exact Heap.lt_size e
 refine wpAny_pyIter_zip a1 ⟨s1.heap.objs.size+4,[s1.heap.objs.size+4,s1.heap.objs.size+2,s1.heap.objs.size+3,s1.heap.objs.size,s1.heap.objs.size+1],_,_,H1,rfl,I2,a8z _ _ _ _ _ l1 l2 (zipApart_new lt1 lt2),⟨a1,a2,⟨_,_,a3⟩,a4,a5⟩,fun b hb=>?_,q⟩
 have hb':s1.heap.objs.size<=b:=by
  simp only[List.mem_cons,List.not_mem_nil,or_false] at hb
  rcases hb with rfl|rfl|rfl|rfl|rfl
  · exact Nat.le_add_right _ _
  · exact Nat.le_add_right _ _
  · exact Nat.le_add_right _ _
  · exact Nat.le_refl _
  · exact Nat.le_add_right _ _
 exact I1.fpOk hb' (I1.hok.fresh hb')
end
end L2
namespace L2
open PySem PySem.Spec PyProof.Rows
def E4(n:Nat)(x:Str):Str:=⟨(List.replicate n x.cps).foldl (· ++ ·) #[]⟩
theorem a3q(x:Array Nat):∀(n:Nat) (a:Array Nat),((List.replicate n x).foldl (· ++ ·) a).toList=a.toList++(List.replicate n x.toList).flatten
 |0,a=>by simp
 |n+1,a=>by rw[List.replicate_succ,List.foldl_cons,a3q x n,List.replicate_succ,List.flatten_cons];simp
theorem a4Y(n:Nat)(x:Str):(E4 n x).cps.toList=(List.replicate n x.cps.toList).flatten:=by
 unfold E4;rw[a3q];simp
theorem a1Y(n:Nat)(x:Str):(E4 n x).length=x.length*n:=by
 show(E4 n x).cps.size=x.cps.size*n
 rw[←Array.length_toList,a4Y];simp[List.length_flatten,Nat.mul_comm]
theorem a5Z(x:Str):E4 1 x=x:=by
 unfold E4;simp
theorem a6a(n:Nat)(x:Str)(h:x.length=0):E4 n x=x:=by
 have h1:(E4 n x).cps.size=0:=by
  have:=a1Y n x
  rw[h,Nat.zero_mul] at this;exact this
 have h2:x.cps.size=0:=h
 have e1:=Array.eq_empty_of_size_eq_zero h1;have e2:=Array.eq_empty_of_size_eq_zero h2;cases x
 simp only at e2
 subst e2;generalize hq:E4 n ⟨#[]⟩=q at e1;cases q
 simp only at e1
 rw[e1]
section
variable{X:Cx}
def b6O:R2:=fun x y H Q=>∃t k,x=.str t/\y=.int k/\ -(2^63)<=k/\k<2^63/\t.length*k.toNat<=sizeLine/\Q (.str (E4 k.toNat t)) H
theorem b2k:OpR X (binaryOp .Mult) b6O:=by
 intro pins s σ H x y v u Q I rx ry h;obtain⟨t,k,rfl,rfl,h1,h2,h3,q⟩:=h;obtain⟨a,rfl⟩:=rx;obtain⟨b,rfl⟩:=ry;refine P.mul_str ?_ ?_ ?_ ?_
 · rw[decide_eq_false (by omega),decide_eq_false (by omega)];rfl
 · intro h4 h5 h6
   have hk:0<k:=by omega
   have h8:(t.length:Int)*k<=2^62:=by
    have h9:((t.length*k.toNat:Nat):Int)<=((sizeLine:Nat):Int):=Int.ofNat_le.mpr h3
    rw[Int.natCast_mul,Int.toNat_of_nonneg (by omega),sizeLine_eq] at h9
    exact Int.le_trans h9 (by decide)
   have h7:(t.length:Int)<=(2^63-1)/k:=by
    rw[Int.le_ediv_iff_mul_le hk];omega
   omega
 · intro h4 h5;simp only[Builtin.Str.tooLong,decide_eq_false_iff_not];omega
 · by_cases c1:k<1
   · rw[if_pos c1]
     have:k.toNat=0:=by omega
     rw[this] at q;exact⟨Nat.zero_le _,.str _,H,I.tok _,⟨_,rfl⟩,q⟩
   · rw [if_neg c1]
     by_cases c2:(k==1||t.length==0)=true
     · rw [if_pos c2]
       have e:E4 k.toNat t=t:=by
        rw[Bool.or_eq_true] at c2
        rcases c2 with c|c
        · have:k=1:=by simpa using c
          subst this;exact a5Z t
        · exact a6a _ _ (by simpa using c)
       rw[e] at q;exact⟨.str _,H,I,⟨_,rfl⟩,q⟩
     · rw[if_neg c2];refine⟨?_,.str _,H,I.tok _,⟨_,rfl⟩,q⟩
       show(E4 k.toNat t).length<=sizeLine
       rw[a1Y];exact h3
def a0A:List V->List V->Bool
 |[],[]=>true
 |x::xs,y::ys=>eqV x y&&a0A xs ys
 |_,_=>false
def a0l(xs ys:List V)(j:Nat):Bool:=match xs[j]?,ys[j]? with
 |some x,some y=>eqV x y
 |_,_=>false
theorem a2L:∀(xs ys:List V),xs.length=ys.length->(List.range xs.length).all (a0l xs ys)=a0A xs ys
 |[],[],_=>rfl
 |[],_::_,h=>by simp at h
 |_::_,[],h=>by simp at h
 | x::xs,y::ys,h=>by
  rw[List.length_cons,List.range_succ_eq_map,List.all_cons,List.all_map];have ih:=a2L xs ys (by simpa using h)
  have e:a0l (x::xs) (y::ys)∘Nat.succ=a0l xs ys:=by
   funext j
   simp[a0l]
  rw[e,ih];simp[a0l,a0A]
theorem a2A:∀{xs ys:List V},xs.length≠ys.length->a0A xs ys=false
 |[],[],h=>absurd rfl h
 |[],_::_,h=>rfl
 |_::_,[],h=>rfl
 |x::xs,y::ys,h=>by
  rw[a0A,a2A (fun e=>h (by simp[e])),Bool.and_false]
theorem a6Y{A:Around}{s:Shared}{xs ys:List V}{us vs:List Value}(r:n8 xs us)(r':n8 ys vs)(f:xs.all K6=true)(f':ys.all K6=true)(j:Nat)(h1:j<us.toArray.size)(h2:j<vs.toArray.size):SeqAt.EqAt A s us.toArray[j] vs.toArray[j] (a0l xs ys j):=by
 have l1:=r.length;have l2:=r'.length
 have j1:j<xs.length:=by simp at h1;omega
 have j2:j<ys.length:=by simp at h2;omega
 obtain⟨u,hu,ru⟩:=r.get (List.getElem?_eq_getElem j1)
 obtain⟨v,hv,rv⟩:=r'.get (List.getElem?_eq_getElem j2)
 have e1:us.toArray[j]=u:=by
  have:=(List.getElem?_eq_some_iff.mp hu).2
  simpa using this
 have e2:vs.toArray[j]=v:=by
  have:=(List.getElem?_eq_some_iff.mp hv).2
  simpa using this
 rw[e1,e2]
 have e3:a0l xs ys j=eqV xs[j] ys[j]:=by
  unfold a0l;rw[List.getElem?_eq_getElem j1,List.getElem?_eq_getElem j2]
 rw[e3];exact a6x ru rv (List.all_eq_true.mp f _ (List.getElem_mem j1)) (List.all_eq_true.mp f' _ (List.getElem_mem j2))
def b6Q(K:PySem.W.Frag)(neg:Bool):R2:=fun x y H Q=>∃a b xs ys,x=.ref a/\y=.ref b/\SqL K H a xs/\SqL K H b ys/\xs.all K6=true/\ys.all K6=true/\Q (.bl (a0A xs ys !=neg)) H
theorem b4z(hu:X.A.units<cLine):OpR X (compareOp .NotEq) (b6Q X.K true):=by
 intro pins s σ H x y v u Q I rx ry h;obtain⟨a,b,xs,ys,rfl,rfl,q1,q2,f1,f2,q⟩:=h;cases rx;cases ry;obtain⟨its,r,pl,hz⟩:=I.list q1;obtain⟨its',r',pl',hz'⟩:=I.list q2;have l1:=r.length;have l2:=r'.length
 by_cases hl:xs.length=ys.length
 · refine SeqAt.RcNeAt.lists (e:=a0l xs ys) pl.isList pl'.isList (by simp;omega) hu (fun j h1 h2=>a6Y r r' f1 f2 j h1 h2) X.prog X.w _ _ ⟨.bl _,H,I,rfl,?_⟩
   have e:its.toArray.size=xs.length:=by simp;omega
   rw[e,a2L xs ys hl];rw[show(a0A xs ys !=true)=!a0A xs ys by cases a0A xs ys<;>rfl] at q
   exact q
 · refine SeqAt.RcNeAt.lists_lengths pl.isList pl'.isList (by simp;omega) hu X.prog X.w _ _ ⟨.bl _,H,I,rfl,?_⟩
   rw[a2A hl] at q;exact q
theorem b4E(hu:X.A.units<cLine):OpR X (compareOp .Eq) (b6Q X.K false):=by
 intro pins s σ H x y v u Q I rx ry h;obtain⟨a,b,xs,ys,rfl,rfl,q1,q2,f1,f2,q⟩:=h;cases rx;cases ry;obtain⟨its,r,pl,hz⟩:=I.list q1;obtain⟨its',r',pl',hz'⟩:=I.list q2;have l1:=r.length;have l2:=r'.length
 by_cases hl:xs.length=ys.length
 · refine SeqAt.RcAt.lists (e:=a0l xs ys) pl.isList pl'.isList (by simp;omega) hu (fun j h1 h2=>a6Y r r' f1 f2 j h1 h2) X.prog X.w _ _ ⟨.bl _,H,I,rfl,?_⟩
   have e:its.toArray.size=xs.length:=by simp;omega
   rw[e,a2L xs ys hl];rw[show(a0A xs ys !=false)=a0A xs ys by cases a0A xs ys<;>rfl] at q
   exact q
 · refine SeqAt.RcAt.lists_lengths pl.isList pl'.isList (by simp;omega) hu X.prog X.w _ _ ⟨.bl _,H,I,rfl,?_⟩
   rw[a2A hl] at q;exact q
end
end L2
namespace PySem
open Sem (wp)
theorem a4h:typeLookup (.type "list") "keys"=pure none:=by rw[typeLookup_type,builtinLookup_eq_fast];kernel_rfl
theorem a7Z{prog:Program}{w:World}{A:Around}{E:Value->Shared->Prop}{s:Shared}{a:Addr}{o:Obj}{xs:Array Value}{k:Nat}{Q:Option Value->Shared->Prop}
 (hx:s.heap.get? a=some o) (hc:o.cls=.type "list") (hdat:o.data=.seq xs k) (hd:o.dict=none) (hA:A.handled=none)
 (h:∀h' tk,(∀b ob,s.heap.get? b=some ob->h'.get? b=some ob)->Q none {s with heap:=h',toks:=tk}):wpAny (model prog w) A (getAttr? (.ref a) "keys") Q E s:=by
 obtain⟨c,dct,dat,sl⟩:=o
 simp only at hc hdat hd
 subst hc hdat hd;obtain⟨hp,g,d,tk,os⟩:=s
 have hT:∀tk',(⟨hp,g,d,tk',os⟩:Shared).TypeIs (.ref a) "list":=fun _=>⟨_,hx,rfl⟩
 have f1:=sub_AttributeError;have f3:=F.slot_list_getattribute.lookup;have f4:=F.slot_list_getattribute.bind (.ref a);have f5:=am_list_getattr_none;unfold getAttr? getAttrBy? getAttrBy
 repeat (any_goals (first|assumption|exact hT _|((with_reducible show wpAny _ _ (call (Value.builtin "list.__getattribute__") _ _) _ _ _);refine call_meets F.slot_list_getattribute (hT _) am_entry_list_getattribute (F.args_list_getattribute_2 _ _) (meets_getattribute_miss_list a xs k sl "keys" _ a4h (by decide) (by decide)) ⟨hx,hA,fun h' tk' e hx'=>?_⟩)|wp_step))
 obtain⟨t2,u2,he⟩:=hx'.there
 show wpAny _ _ (getattributeRaised _ _ _ _ _ _ _) _ _ _
 unfold getattributeRaised
 repeat (any_goals (first|assumption|wp_step))
 exact h _ _ hx'.keeps
end PySem
namespace PySem
open Sem (wp)
open PyProof.Rows
theorem K1:plainId "dict.update.loop"=true:=by decide+kernel
theorem Y4:entryFor table "dict.update.loop"=some Builtin.«dict.update.loop»:=entryFor_of_tree (by kernel_rfl)
section
variable{prog:Program}{w:World}{K:Type}[DecidableEq K]{knd:KeyKind prog w K}
theorem a6d{A:Around}{E:Value->Shared->Prop}{s:Shared}{t:Addr}{a b:Value}{Q:List Value->Shared->Prop}(ht:IsTup s.heap t #[a,b])(h:Q [a,b] s):wpAny (model prog w) A (Builtin.Dict.pairItems (.ref t)) Q E s:=by
 obtain⟨o,ho,hc,n,hd⟩:=ht;obtain⟨hp,g,d,tk,os⟩:=s
 have hT:(⟨hp,g,d,tk,os⟩:Shared).TypeIs (.ref t) "tuple":=⟨_,ho,hc⟩
 unfold Builtin.Dict.pairItems
 repeat (any_goals (first|assumption|wp_step))
 rw[hd];exact wpAny_pure (wpAny_pure h)
theorem a8x{d it l:Addr}{items:Array Value}{ps:List (K×Value)}(n1:d≠it)(n2:d≠l)(n3:it≠l)(hsz:items.size=ps.length)(k:Nat):∀(i:Nat) (kvs:List (K×Value)),ps.length-i=k->i<=ps.length->MeetsIn prog w (Builtin.«dict.update.loop» ⟨[.ref d,.ref it,rawInt i,.none],[]⟩)
 (fun A R s=>A.handled=none/\s.heap.IsListIter it l i/\s.heap.IsList l items/\s.heap.DictOf knd d kvs/\kvs.length+(ps.length-i)<=sizeLine∧
  (∀(j:Nat) (p:K×Value),ps[j]? =some p->∃t kv,items[j]? =some (.ref t)/\t≠d/\t≠it/\IsTup s.heap t #[kv,p.2]/\knd.is p.1 kv=true)∧
  ∀h' tk,h'.DictOf knd d (merged kvs (ps.drop i))->(∀b o,b≠d->b≠it->s.heap.get? b=some o->h'.get? b=some o)->R (.ok (.ret .none)) {s with heap:=h',toks:=tk}):=by
 induction k with
 |zero=>
  intro i kvs hk hi A R s h;obtain⟨hA,hit,hl,hd,hz,hq,h⟩:=h
  have hx:items[i]? =none:=by rw[Array.getElem?_eq_none];omega
  have hdr:ps.drop i=[]:=List.drop_eq_nil_of_le (by omega)
  rw[hdr] at h;unfold Builtin.«dict.update.loop»;refine wpAny_bind (wpAny_pyNext_list_end hA hit hl hx fun h' eb=>?_)
  refine wpAny_bind ?_
  unfold Builtin.Dict.addKeywords;refine wpAny_pure (wpAny_pure (h h' s.toks ?_ fun b o n1 n2 e=>eb b o n2 e))
  exact hd.extBut eb n1
 | succ k ih=>
  intro i kvs hk hi A R s h;obtain⟨hA,hit,hl,hd,hz,hq,h⟩:=h
  have hlt:i<ps.length:=by omega
  obtain⟨t,kv,e1,e2,e3,e4,e5⟩:=hq i ps[i] (List.getElem?_eq_getElem hlt)
  have hdr:ps.drop i=ps[i]::ps.drop (i+1):=List.drop_eq_getElem_cons hlt
  unfold Builtin.«dict.update.loop»;refine wpAny_bind (wpAny_pyNext_list_item hit hl e1 fun h1 st sb=>?_)
  have k1:∀b o,b≠it->s.heap.get? b=some o->h1.get? b=some o:=fun b o n e=>(sb.2 b n).trans e
  refine wpAny_bind (wpAny_holding (wpAny_bind (wpAny_tryCatch (a6d (show IsTup h1 t #[kv,ps[i].2] from let⟨o,ho,r⟩:=e4;⟨o,k1 t o e3 ho,r⟩) ?_))))
  refine wpAny_holding (wpAny_dictSet_pairs (hsz:=by omega) e5 (hd.sameBut sb n1) fun h2 dd sb2=>?_)
  have k2:∀b o,b≠d->b≠it->s.heap.get? b=some o->h2.get? b=some o:=fun b o n n' e=>(sb2.2 b n).trans (k1 b o n' e)
  refine wpAny_pure ⟨plainId_quiet K1 _,codeAny_builtin Y4 (by
   rw[Around.under_plainId K1 _,show((i:Nat):Int)+1=((i+1:Nat):Int) by omega]
   refine ih (i+1) (stored kvs ps[i].1 ps[i].2) (by omega) (by omega) A R _ ⟨hA,?_,?_,dd,?_,fun j p hj=>?_,fun h' tk d1 d2=>?_⟩
   · obtain⟨o,ho,r⟩:=st;exact⟨o,(sb2.2 it n1.symm).trans ho,r⟩
   · obtain⟨o,ho,r⟩:=hl;exact⟨o,k2 l o n2.symm n3.symm ho,r⟩
   · have:=stored_length_le kvs ps[i].1 ps[i].2
     omega
   · obtain⟨t,kv,q1,q2,q3,⟨o,ho,r⟩,q5⟩:=hq j p hj;exact⟨t,kv,q1,q2,q3,⟨o,k2 t o q2 q3 ho,r⟩,q5⟩
   · refine h h' tk ?_ fun b o n n' e=>d2 b o n n' (k2 b o n n' e)
     rw[hdr];exact d1)⟩
theorem a1D{A:Around}{E:Value->Shared->Prop}{s:Shared}{l:Addr}{ol:Obj}{items:Array Value}{n:Nat}{ps:List (K×Value)}{Q:Value->Shared->Prop}(hA:A.handled=none)(hx:s.heap.get? l=some ol)(hc:ol.cls=.type "list")(hdat:ol.data=.seq items n)(hd:ol.dict=none)(hsz:items.size=ps.length)(hz:ps.length<=sizeLine)
 (hq:∀(j:Nat) (p:K×Value),ps[j]? =some p->∃t kv,items[j]? =some (.ref t)/\IsTup s.heap t #[kv,p.2]/\knd.is p.1 kv=true)
 (h:∀h' tk,h'.DictOf knd s.heap.objs.size (merged [] ps)->(∀b o,s.heap.get? b=some o->h'.get? b=some o)->Q (.ref s.heap.objs.size) {s with heap:=h',toks:=tk}):
 wpAny (model prog w) A (call (.type "dict") [.ref l]) Q E s:=by
 refine callType_codes (Q₁:=fun obj s₁=>obj=.ref s.heap.objs.size/\s₁={s with heap:=s.heap.push {cls:=.type "dict",data:=.dict #[]}}) F.kt_called_dict (F.kt_typeCall_dict_1 _) F.entry_dict_init (kt_code_dict_new _ ⟨rfl,rfl⟩) ?_
 rintro obj s₁ ⟨rfl,rfl⟩
 have hnew:(s.heap.push {cls:=.type "dict",data:=.dict #[]}).DictOf knd s.heap.objs.size []:=Heap.DictOf.new s.heap
 have hx1:(s.heap.push {cls:=.type "dict",data:=.dict #[]}).get? l=some ol:=Heap.get?_push_of_some _ hx
 have ty:Shared.TypeIs {s with heap:=s.heap.push {cls:=.type "dict",data:=.dict #[]}} (.ref l) "list":=⟨_,hx1,hc⟩
 have nl:s.heap.objs.size≠l:=fun e=>absurd (Heap.lt_size hx) (by rw[e];exact Nat.lt_irrefl _)
 refine⟨hnew.typeIs,F.args_dict_init_2 _ _,?_⟩
 unfold Builtin.«dict.__init__»;refine wpAny_bind ?_
 unfold Builtin.Dict.selfAndRest;refine wpAny_bind (wpAny_notOrdered_dict hnew.typeIs ?_)
 show wpAny _ _ (pure (s.heap.objs.size,[Value.ref l])) _ _ _
 refine wpAny_pure ?_
 show wpAny _ _ (Builtin.Dict.updateFrom "dict.__init__" s.heap.objs.size (.ref l) [] .none) _ _ _
 unfold Builtin.Dict.updateFrom;refine wpAny_bind (wpAny_typeOf ty ?_)
 rw[if_pos (by decide)]
 refine wpAny_bind (a7Z hx1 hc hdat hd ?_ fun h1 tk1 k1=>?_)
 · exact hA
 · rw [if_pos (show(none:Option Value).isNone=true from rfl)]
   have hx2:h1.get? l=some ol:=k1 l _ hx1
   have hd2:h1.DictOf knd s.heap.objs.size []:=hnew.keep k1
   have lt1:s.heap.objs.size<h1.objs.size:=by
    obtain⟨o,_,_,ho,_⟩:=hd2;exact Heap.lt_size ho
   refine wpAny_bind (wpAny_rule (wpAny_bind (wpAny_pyIter_list (items:=items) ⟨ol,hx2,hc,n,hdat⟩ ?_)))
   refine wpAny_pure ⟨plainId_quiet K1 _,codeAny_builtin Y4 (by
    rw[Around.under_plainId K1 _];refine a8x (knd:=knd) (d:=s.heap.objs.size) (it:=h1.objs.size) (l:=l) (ps:=ps) (Nat.ne_of_lt lt1) nl (fun e=>absurd (Heap.lt_size hx2) (by rw[←e];exact Nat.lt_irrefl _)) hsz _ 0 [] rfl (Nat.zero_le _) A.in1 _ _ ⟨hA,⟨_,Heap.get?_push_size _ rfl,rfl,rfl⟩,⟨ol,Heap.get?_push_of_some _ hx2,hc,n,hdat⟩,hd2.push _,by simpa using hz,fun j p hj=>?_,fun h' tk d1 d2=>⟨rfl,?_⟩⟩
    · obtain⟨t,kv,q1,⟨o,ho,r⟩,q3⟩:=hq j p hj;have ho1:=k1 t o (Heap.get?_push_of_some _ ho)
      exact⟨t,kv,q1,fun e=>absurd (Heap.lt_size ho) (by rw[e];exact Nat.lt_irrefl _),fun e=>absurd (Heap.lt_size ho1) (by rw[e];exact Nat.lt_irrefl _),⟨o,Heap.get?_push_of_some _ ho1,r⟩,q3⟩
    · refine h h' tk (by rwa [List.drop_zero] at d1) fun b o e=>d2 b o (fun z=>absurd (Heap.lt_size e) (by rw[z];exact Nat.lt_irrefl _)) (fun z=>?_) (Heap.get?_push_of_some _ (k1 b o (Heap.get?_push_of_some _ e)))
      have:=Heap.lt_size (k1 b o (Heap.get?_push_of_some _ e))
      rw[z] at this;exact absurd this (Nat.lt_irrefl _))⟩
end
end PySem
namespace L2
open PySem PySem.Spec PyProof.Rows
def PrT(H:Hp):List V->List (Key×V)->Prop:=Paired fun y p=>∃t,y=.ref t/\H t=some (.tup [kV p.1,p.2])
section
variable{X:Cx}
theorem a9j{pins:List (Addr×Obj)}{σ:St}{H:Hp}{s:Shared}(I:Inv X pins σ H s):∀{ys:List V} {kvs:List (Key×V)} {its:List Value},PrT H ys kvs->n8 ys its->∃ps:List (Key×Value),KV kvs ps/\ps.length=its.length/\∀(j:Nat) (p:Key×Value),ps[j]? =some p->∃t kv,its[j]? =some (.ref t)/\IsTup s.heap t #[kv,p.2]/\(u5 X.prog X.w).is p.1 kv=true
 |_,_,_,.nil,.nil=>⟨[],.nil,rfl,fun j p h=>by simp at h⟩
 | _,_,_,.cons h t,.cons r q=>by
  obtain⟨ps,k1,k2,k3⟩:=a9j I t q;obtain⟨a,rfl,ha⟩:=h;cases r;obtain⟨_,its,rv,pa⟩:=I.hok a _ ha;obtain⟨u,w,rfl,ru,rw'⟩:=a4S rv;refine⟨(_,w)::ps,.cons ⟨rfl,rw'⟩ k1,by rw[List.length_cons,List.length_cons,k2],fun j p hj=>?_⟩
  cases j with
  |zero=>
   cases hj;exact⟨a,u,rfl,pa.tup,X5 ru⟩
  |succ j=>exact k3 j p hj
theorem a4I(hc:X.calm=true):D1 X (.type "dict") (fun xs H Q=>∃p ys kvs,xs=[.ref p]/\SqL X.K H p ys/\PrT H ys kvs/\∀d,H d=none->Q (.ref d) (upd H d (.dK (V0 [] kvs)))):=by
 intro pins s σ H xs us Q I r h;obtain⟨p,ys,kvs,rfl,hq,pr,q⟩:=h;obtain⟨u,rfl,rx⟩:=O8 r;cases rx;obtain⟨its,rv,pl,hz⟩:=I.list hq;obtain⟨o,n,e,c,hd,dat⟩:=pl;obtain⟨ps,k1,k2,k3⟩:=a9j I pr rv;have l1:=rv.length;have l2:=Paired.length pr;refine a1D (knd:=u5 X.prog X.w) (items:=its.toArray) (ps:=ps) (I.ok.hd hc) e c dat hd (by simp[k2]) (by omega) (fun j p hj=>?_) fun h' tk dd kp=>?_
 · obtain⟨t,kv,q1,q2,q3⟩:=k3 j p hj;exact⟨t,kv,by simpa using q1,q2,q3⟩
 · have hl:=T2 kvs [];rw[List.length_nil] at hl;exact⟨.ref s.heap.objs.size,_,I.laid (t':=tk) (fun b o e=>kp b o e) (Nat.le_refl _) (a6y (by omega) (beq_eq_false_iff_ne.mpr (Nat.ne_of_gt I.big)) (k1.merge .nil) dd),rfl,q _ (I.hok.fresh (Nat.le_refl _))⟩
theorem b0G(hc:X.calm=true):D1 X (.builtin "sum") (fun xs H Q=>∃p,∃is:List Int,xs=[.ref p]/\SqL X.K H p (is.map V.int)/\Q (.int is.sum) H):=by
 intro pins s σ H xs us Q I r h;obtain⟨p,is,rfl,hq,q⟩:=h;obtain⟨u,rfl,rx⟩:=O8 r;cases rx;obtain⟨its,rv,pl,hz⟩:=I.list hq;have hi:=a6q rv;obtain⟨xs,hx⟩:=hi.allInts.items;refine sum_intListG (I.ok.hd hc) (hx▸pl.isList) fun h' tk t' hk=>?_
 have e1:is=xs.toList.map (·.1):=by
  rw[←nums_intItems,←hx];exact(show numsOf its.toArray.toList=is from hi.numsOf).symm
 have e2:preSum (numAt xs) xs.size=is.sum:=by
  rw[preSum_eq,List.take_of_length_le (by simp),e1]
 rw[e2];exact⟨.int _,H,I.kept (t':=tk) hk,⟨_,rfl⟩,q⟩
end
end L2
namespace PySem
open Sem (wp)
section
variable{prog:Program}{w:World}{A:Around}{E:Value->Shared->Prop}{s:Shared}{r:Addr}{a b c:Int}{t u v:Tok}{n:Nat}
theorem a2T{Q:List Value->Shared->Prop}(hh:A.handled=none)(hr:IsRange s.heap r a b c t u v)(hsmall:Builtin.Range.small a b c=true)(hn:Builtin.Range.rangeSize a b c=n)(hlen:n<=2^24)
 (hQ:∀(h':Heap) tk acc,(∀b o,s.heap.get? b=some o->h'.get? b=some o)->ItemsOf (fun i v=>∃t,v=.int (a+i*c) t) acc n->Q acc.toList {s with heap:=h',toks:=tk}):wpAny (model prog w) A (collect (.ref r)) Q E s:=by
 unfold collect;refine wpAny_bind (wpAny_runValue (codeAny_builtin F.entry_proto_collect ?_))
 rw[Around.under_plainId F.plain_proto_collect _]
 show wpAny _ A.in1 (newList []>>=fun l=>again (.builtin "list.__iadd__" ⟨[l,.ref r],[]⟩)) _ _ s
 refine wpAny_bind (wpAny_newObj_type ?_)
 have hS:(s.heap.push {cls:=.type "list",data:=.seq ([]:List Value).toArray}).get? s.heap.objs.size=some {cls:=.type "list",data:=.seq ([]:List Value).toArray}:=Heap.get?_push_size _ rfl
 have H:∀R:Result->Shared->Prop,(∀(h':Heap) tk acc' c',(∀b o,b≠s.heap.objs.size->(s.heap.push {cls:=.type "list",data:=.seq ([]:List Value).toArray}).get? b=some o->h'.get? b=some o)->h'.get? s.heap.objs.size=some {cls:=.type "list",dict:=none,data:=.seq acc' c',slots:= #[]}->ItemsOf (fun i v=>∃t,v=.int (a+i*c) t) acc' n->R (.ok (.ret (.ref s.heap.objs.size))) {s with heap:=h',toks:=tk})->codeAny (model prog w) A (.builtin "list.__iadd__" ⟨[.ref s.heap.objs.size,.ref r],[]⟩) R {s with heap:=s.heap.push {cls:=.type "list",data:=.seq ([]:List Value).toArray}}:=fun R hR=>codeAny_builtin F.entry_list_iadd (by
  rw[Around.under_plainId F.plain_list_iadd _];exact wpAny_extend_range (s:={s with heap:=s.heap.push {cls:=.type "list",data:=.seq ([]:List Value).toArray}}) hh (Heap.get?_push_of_some _ hr) hsmall hn hlen s.heap.objs.size _ 0 hS hR)
 refine wpAny_pure ⟨plainId_quiet F.plain_list_iadd _,H _ fun h' tk acc' c' hk hS' hacc=>?_⟩
 show wpAny _ A (load s.heap.objs.size>>=_) _ _ _
 refine wpAny_bind (wpAny_load hS' ?_)
 exact wpAny_pure (hQ h' tk acc' (fun b o e=>hk b o (Nat.ne_of_lt (Heap.lt_size e)) (Heap.get?_push_of_some _ e)) hacc)
theorem a1l{Q₁:Value->Shared->Prop}(hh:A.handled=none)(hr:IsRange s.heap r a b c t u v)(hsmall:Builtin.Range.small a b c=true)(hn:Builtin.Range.rangeSize a b c=n)(hlen:n<=2^24)
 (h:∀(h':Heap) tk acc,(∀b o,s.heap.get? b=some o->h'.get? b=some o)->ItemsOf (fun i v=>∃t,v=.int (a+i*c) t) acc n->Q₁ (.ref h'.objs.size) {s with heap:=h'.push {cls:=.type "tuple",data:=.seq acc},toks:=tk}):
 codeAny (model prog w) A (.call (.builtin "tuple.__new__") ⟨[.type "tuple",.ref r],[]⟩) (wants Q₁ E) s:=by
 refine codeAny_of_tree ?_
 show wpAny _ A.in1 (do checkBuiltinCall "tuple.__new__" ⟨[.type "tuple",.ref r],[]⟩;again (.builtin "tuple.__new__" ⟨[.type "tuple",.ref r],[]⟩)) _ _ s
 refine wpAny_bind (wpAny_of_eq (F.newCall_tuple_1 _) (wpAny_pure ⟨plainId_quiet F.plain_tuple_new _,codeAny_builtin F.entry_tuple_new ?_⟩))
 rw[Around.under_plainId F.plain_tuple_new _];have hsub:=sub_tuple_self;have hinit:=init_tuple_lookup;have hmh:=madeHere_tuple
 have hTI:s.TypeIs (.ref r) "range":=⟨_,hr,rfl⟩
 wp_walk using wpAny_typeOf hTI,a2T (A:=A.in1) hh hr hsmall hn hlen
 intro h' tk acc hk hacc
 show wpAny _ _ (Builtin.Tuple.tupleExact acc.toList.toArray>>=fun v=>ret v) _ _ _
 unfold Builtin.Tuple.tupleExact;refine wpAny_bind (wpAny_newObj_type ?_ (by show acc.toList.toArray.size<=sizeLine;simp only[Array.toArray_toList];rw[hacc.1];exact Nat.le_trans hlen (by decide)))
 refine wpAny_pure ?_
 rw[show acc.toList.toArray=acc by simp]
 exact h h' tk acc hk hacc
theorem a1m{Q:Value->Shared->Prop}(hh:A.handled=none)(hr:IsRange s.heap r a b c t u v)(hsmall:Builtin.Range.small a b c=true)(hn:Builtin.Range.rangeSize a b c=n)(hlen:n<=2^24)
 (hQ:∀(h':Heap) tk acc,(∀b o,s.heap.get? b=some o->h'.get? b=some o)->ItemsOf (fun i v=>∃t,v=.int (a+i*c) t) acc n->Q (.ref h'.objs.size) {s with heap:=h'.push {cls:=.type "tuple",data:=.seq acc},toks:=tk}):wpAny (model prog w) A (call (.type "tuple") [.ref r]) Q E s:=by
 refine callType_codes (Q₁:=fun obj s₁=>s₁.TypeIs obj "tuple"/\Q obj s₁) F.called_tuple (F.typeCall_tuple_1 _) F.entry_object_init
  (a1l (A:=A.in1) hh hr hsmall hn hlen fun h' tk acc hk hacc=>⟨⟨_,Heap.get?_push_size _ rfl,rfl⟩,hQ h' tk acc hk hacc⟩) fun obj s₁ h₁=>?_
 exact⟨h₁.1,F.args_object_init_2 obj _,object_init_meets F.called_tuple.init.lookup F.called_tuple.made (by decide) prog w A.in1 _ s₁ ⟨h₁.1,rfl,h₁.2⟩⟩
end
end PySem
namespace L2
open PySem PySem.Spec PyProof.Rows
section
variable{X:Cx}
theorem a3h{α β:Type}{R:α->β->Prop}:∀{xs:List α} {us:List β},xs.length=us.length->(∀(j:Nat) x u,xs[j]? =some x->us[j]? =some u->R x u)->Paired R xs us
 |[],[],_,_=>.nil
 |[],_::_,h,_=>by cases h
 |_::_,[],h,_=>by cases h
 |x::xs,u::us,h,k=>.cons (k 0 x u rfl rfl) (a3h (Nat.succ.inj h) fun j x u h1 h2=>k (j+1) x u h1 h2)
def b6N:List V->Hp->VK->Prop:=fun xs H Q=>∃i j:Int,xs=[.int i,.int j]/\∀r,H r=none->Q (.ref r) (upd H r (.rng i j))
theorem b0H:D1 X (.type "range") b6N:=by
 intro pins s σ H xs us Q I r h;obtain⟨i,j,rfl,q⟩:=h;obtain⟨u,w',rfl,⟨t,rfl⟩,⟨t',rfl⟩⟩:=a4S r;refine call_range_2 ?_
 exact⟨.ref s.heap.objs.size,_,I.laid (fun b o e=>Heap.get?_push_of_some _ e) (Nat.le_refl _) (show x3 X.prog X.w _ _ _ (.rng i j) from⟨_,_,_,Heap.get?_push_size _ rfl⟩),rfl,q _ (I.hok.fresh (Nat.le_refl _))⟩
def rTR:List V->Hp->VK->Prop:=fun xs H Q=>∃(r:Addr) (lo hi:Int),xs=[.ref r]/\H r=some (.rng lo hi)/\(-(2^62)<=lo/\lo<2^62/\ -(2^62)<=hi/\hi<2^62)/\(hi-lo).toNat<=2^24/\∀t,H t=none->Q (.ref t) (upd H t (.tup ((List.range (hi-lo).toNat).map fun(i:Nat)=>V.int (lo+i))))
theorem a8r(hc:X.calm=true):D1 X (.type "tuple") rTR:=by
 intro pins s σ H xs us Q I r h;obtain⟨ra,lo,hi,rfl,hr,⟨b1,b2,b3,b4⟩,hz,q⟩:=h;obtain⟨u,rfl,rx⟩:=O8 r;cases rx;obtain⟨t,u,v,e⟩:=I.hok ra _ hr;refine a1m (n:=(hi-lo).toNat) (I.ok.hd hc) (show IsRange s.heap ra lo hi 1 t u v from e) (small_one b1 b2 b3 b4) (by rw[rangeSize_one];split<;>omega) hz fun h' tk acc hk hacc=>?_
 have I1:Inv X pins σ H {s with heap:=h',toks:=tk}:=I.kept (t':=tk) hk
 have rel:n8 ((List.range (hi-lo).toNat).map fun(i:Nat)=>V.int (lo+i)) acc.toList:=by
  refine a3h (by rw[List.length_map,List.length_range,Array.length_toList];exact hacc.1.symm) fun j x w h1 h2=>?_
  rw[Array.getElem?_toList] at h2
  obtain⟨t,rfl⟩:=hacc.2 j w h2
  have hj:j<(hi-lo).toNat:=by
   have:=(List.getElem?_eq_some_iff.mp h1).1
   simpa using this
  rw[List.getElem?_map,List.getElem?_range hj] at h1
  cases h1;refine⟨t,?_⟩
  rw[Int.mul_one]
 refine⟨.ref h'.objs.size,_,I1.laid (t':=tk) (fun b o e=>Heap.get?_push_of_some _ e) (Nat.le_refl _) (show x3 X.prog X.w _ _ _ (.tup _) from⟨by rw[List.length_map,List.length_range];exact Nat.le_trans hz (by decide),acc.toList,rel,by simpa using a0G.new h' acc⟩),rfl,q _ (I1.hok.fresh (Nat.le_refl _))⟩
end
end L2
namespace EV
open PySem L2
inductive D where
 |non|bl (b:Bool)|int (i:Int)|str (x:Str)|tup (l:List D)|ref (n:Nat)
 deriving Inhabited
mutual
def D.dec:(a b:D)->Decidable (a=b)
  | .non,b=>match b with
    |.non=>Decidable.isTrue rfl
    |.bl _=>Decidable.isFalse (fun h=>nomatch h)|.int _=>Decidable.isFalse (fun h=>nomatch h)|.str _=>Decidable.isFalse (fun h=>nomatch h)|.tup _=>Decidable.isFalse (fun h=>nomatch h)|.ref _=>Decidable.isFalse (fun h=>nomatch h)
  | .bl x,b=>match b with
    |.bl y=>if h:x=y then Decidable.isTrue (by rw[h]) else Decidable.isFalse (fun e=>h (by injection e))
    |.non=>Decidable.isFalse (fun h=>nomatch h)|.int _=>Decidable.isFalse (fun h=>nomatch h)|.str _=>Decidable.isFalse (fun h=>nomatch h)|.tup _=>Decidable.isFalse (fun h=>nomatch h)|.ref _=>Decidable.isFalse (fun h=>nomatch h)
  | .int x,b=>match b with
    |.int y=>if h:x=y then Decidable.isTrue (by rw[h]) else Decidable.isFalse (fun e=>h (by injection e))
    |.non=>Decidable.isFalse (fun h=>nomatch h)|.bl _=>Decidable.isFalse (fun h=>nomatch h)|.str _=>Decidable.isFalse (fun h=>nomatch h)|.tup _=>Decidable.isFalse (fun h=>nomatch h)|.ref _=>Decidable.isFalse (fun h=>nomatch h)
  | .str x,b=>match b with
    |.str y=>if h:x=y then Decidable.isTrue (by rw[h]) else Decidable.isFalse (fun e=>h (by injection e))
    |.non=>Decidable.isFalse (fun h=>nomatch h)|.bl _=>Decidable.isFalse (fun h=>nomatch h)|.int _=>Decidable.isFalse (fun h=>nomatch h)|.tup _=>Decidable.isFalse (fun h=>nomatch h)|.ref _=>Decidable.isFalse (fun h=>nomatch h)
  | .tup x,b=>match b with
    | .tup y=>match D.decs x y with
      |.isTrue h=>Decidable.isTrue (by rw[h])
      |.isFalse h=>Decidable.isFalse (fun e=>h (by injection e))
    |.non=>Decidable.isFalse (fun h=>nomatch h)|.bl _=>Decidable.isFalse (fun h=>nomatch h)|.int _=>Decidable.isFalse (fun h=>nomatch h)|.str _=>Decidable.isFalse (fun h=>nomatch h)|.ref _=>Decidable.isFalse (fun h=>nomatch h)
  | .ref x,b=>match b with
    |.ref y=>if h:x=y then Decidable.isTrue (by rw[h]) else Decidable.isFalse (fun e=>h (by injection e))
    |.non=>Decidable.isFalse (fun h=>nomatch h)|.bl _=>Decidable.isFalse (fun h=>nomatch h)|.int _=>Decidable.isFalse (fun h=>nomatch h)|.str _=>Decidable.isFalse (fun h=>nomatch h)|.tup _=>Decidable.isFalse (fun h=>nomatch h)
def D.decs:(a b:List D)->Decidable (a=b)
  | [],b=>match b with
    |[]=>Decidable.isTrue rfl
    |_::_=>Decidable.isFalse (fun h=>nomatch h)
  | x ::xs,b=>match b with
    |[]=>Decidable.isFalse (fun h=>nomatch h)
    | y ::ys=>match D.dec x y with
      | .isTrue h1=>match D.decs xs ys with
        |.isTrue h2=>Decidable.isTrue (by rw[h1,h2])
        |.isFalse h2=>Decidable.isFalse (fun e=>h2 (by injection e))
      |.isFalse h1=>Decidable.isFalse (fun e=>h1 (by injection e))
end
instance:DecidableEq D:=D.dec
inductive Cell where
 |lst (l:List D)|rol (l:List D)|dict (l:List (D×D))|obj (c:Nat) (fs:List (Str×D))
 deriving DecidableEq
abbrev AH:=List Cell
inductive R(α:Type)where
 |ok (a:α) (h:AH)|no
def R.bind{α β:Type}(r:R α)(k:α->AH->R β):R β:=match r with
 |.ok a h=>k a h
 |.no=>.no
@[simp] theorem k7 {α β:Type} (a:α) (h:AH) (k:α->AH->R β):(R.ok a h).bind k=k a h:=rfl
@[simp] theorem b3l {α β:Type} (k:α->AH->R β):(R.no).bind k=.no:=rfl
mutual
def D.flat:D->Bool
  |.tup l=>D.flats l
  |.ref _=>false
  |_=>true
def D.flats:List D->Bool
  |[]=>true
  |d::r=>d.flat&&D.flats r
end
abbrev SL:Nat:=16777216
def x5(c:Cell)(h:AH):R D:=.ok (.ref h.length) (h++[c])
def rdL(h:AH)(n:Nat):Option (List D):=match h[n]? with
 |some (.lst l)=>some l
 |some (.rol l)=>some l
 |_=>none
def a1I:Int->Bool
 |.ofNat n=>Nat.ble n 18446744073709551615
 |.negSucc n=>Nat.ble n 18446744073709551614
def W6:Int->Bool
 |.ofNat n=>Nat.ble n 16777216
 |.negSucc n=>Nat.ble n 16777216
theorem a2b:∀{i:Int},a1I i=true-> -(2^64)<i/\i<2^64
 |.ofNat n,h=>by
  have h:=Nat.le_of_ble_eq_true h
  show-(2^64)<(n:Int)/\(n:Int)<2^64
  omega
 |.negSucc n,h=>by
  have h:=Nat.le_of_ble_eq_true h;rw[Int.negSucc_eq];omega
theorem E3:∀{i:Int},W6 i=true-> -(2^62)<=i/\i<2^62
 |.ofNat n,h=>by
  have h:=Nat.le_of_ble_eq_true h
  show-(2^62)<=(n:Int)/\(n:Int)<2^62
  omega
 |.negSucc n,h=>by
  have h:=Nat.le_of_ble_eq_true h;rw[Int.negSucc_eq];omega
def W0(h:AH):D->D->R D
 |.int i,.int j=>.ok (.int (i+j)) h
 |.str x,.str y=>if x.length+y.length<=SL then .ok (.str (x++y)) h else .no
 |.ref a,.ref b=>match h[a]?,h[b]? with
  |some (.lst xs),some (.lst ys)=>if xs.length+ys.length<=SL then x5 (.lst (xs++ys)) h else .no
  |_,_=>.no
 |_,_=>.no
def a5j(h:AH):D->D->R D
 |.int i,.int j=>.ok (.int (i-j)) h
 |_,_=>.no
def M5(h:AH):D->D->R D
 |.int i,.int j=>if(a1I i||a1I j)=true then .ok (.int (i*j)) h else .no
 |.ref a,.int k=>match h[a]? with
  |some (.lst xs)=>if W6 k=true/\xs.length*k.toNat<=SL then x5 (.lst (List.replicate k.toNat xs).flatten) h else .no
  |_=>.no
 |.str x,.int k=>if W6 k=true/\x.length*k.toNat<=SL then .ok (.str (E4 k.toNat x)) h else .no
 |_,_=>.no
def v7(h:AH):D->D->R D
 |.int i,.int j=>if 0<j/\j<1073741824 then .ok (.int (i/j)) h else .no
 |_,_=>.no
def u6(h:AH):D->D->R D
 |.int i,.int j=>if 0<j then .ok (.int (i%j)) h else .no
 |_,_=>.no
def eqS:D->D->Option Bool
 |.non,.non=>some true|.non,.int _=>some false|.int _,.non=>some false|.non,.bl _=>some false|.bl _,.non=>some false|.non,.str _=>some false|.str _,.non=>some false
 |.int i,.int j=>some (decide (i=j))|.bl i,.bl j=>some (decide (i=j))|.str i,.str j=>some (decide (i=j))
 |.int _,.str _=>some false|.str _,.int _=>some false|.bl _,.str _=>some false|.str _,.bl _=>some false
 |_,_=>none
def D2(p:Int->Int->Bool)(h:AH):D->D->R D
 |.int i,.int j=>.ok (.bl (p i j)) h
 |_,_=>.no
def a3Z(i j:Str):Bool:=!(Builtin.Str.occurrences j i 0 j.length 1).isEmpty
def p7:D->Bool
 |.non=>true|.bl _=>true|.int _=>true|.str _=>true
 |_=>false
def eqF:D->D->Bool
 |.non,.non=>true
 |.bl a,.bl b=>a==b
 |.bl a,.int b=>(if a then 1 else 0)==b
 |.int a,.bl b=>a==(if b then 1 else 0)
 |.int a,.int b=>a==b
 |.str a,.str b=>a==b
 |_,_=>false
def inD(x:D)(xs:List D):Bool:=xs.any fun y=>eqF y x
def b0x:List D->List D->Bool
 |[],[]=>true
 |x::xs,y::ys=>eqF x y&&b0x xs ys
 |_,_=>false
def a4y(h:AH):D->D->Option Bool
 |.ref i,.ref j=>match rdL h i,rdL h j with
  |some xs,some ys=>if xs.all p7&&ys.all p7 then some (b0x xs ys) else none
  |_,_=>none
 |_,_=>none
def dp:Nat->D->Bool
 |0,d=>p7 d
 |n+1,d=>match d with
  |.tup l=>l.all (dp n)
  |d=>p7 d
def a3v(h:AH):D->D->Bool
 |.ref i,.ref j=>match rdL h i,rdL h j with
  |some xs,some ys=>decide (xs=ys)&&xs.all (dp 3)
  |_,_=>false
 |_,_=>false
def G0(h:AH)(a b:D):R D:=match eqS a b with
 |some c=>.ok (.bl c) h
 |none=>match a4y h a b with
  |some c=>.ok (.bl (c !=false)) h
  |none=>if a3v h a b=true then .ok (.bl true) h else .no
def a0v(h:AH)(a b:D):R D:=match eqS a b with
 |some c=>.ok (.bl (!c)) h
 |none=>match a4y h a b with
  |some c=>.ok (.bl (c !=true)) h
  |none=>if a3v h a b=true then .ok (.bl false) h else .no
def K0:D->Option Key
 |.int i=>some (.inl i)
 |.str x=>some (.inr x)
 |_=>none
def F0:List D->Option (List Key)
 |[]=>some []
 |d::r=>match K0 d,F0 r with
  |some k,some ks=>some (k::ks)
  |_,_=>none
def J0:D->Option Bool
 |.int _=>some false
 |.str _=>some false
 |.tup l=>if(F0 l).isSome then some true else none
 |_=>none
def E9(k:D)(kvs:List (D×D)):Bool:=(J0 k).isSome&&kvs.all fun p=>J0 p.1==J0 k
def o5(kvs:List (D×D))(k:D):Option D:=(kvs.find? fun p=>decide (p.1=k)).map (·.2)
def a0N(kvs:List (D×D))(k v:D):List (D×D):=if(kvs.any fun p=>decide (p.1=k))=true then kvs.map (fun p=>if p.1=k then(p.1,v) else p) else kvs++[(k,v)]
def U9(neg:Bool)(h:AH):D->D->R D
 |.str i,.str j=>.ok (.bl (a3Z i j !=neg)) h
 |x,.tup xs=>if p7 x&&xs.all p7 then .ok (.bl (inD x xs !=neg)) h else .no
 |x,.ref n=>match h[n]? with
  |some (.lst xs)=>if p7 x&&xs.all p7 then .ok (.bl (inD x xs !=neg)) h else .no
  |some (.rol xs)=>if p7 x&&xs.all p7 then .ok (.bl (inD x xs !=neg)) h else .no
  |some (.dict kvs)=>if E9 x kvs then .ok (.bl ((o5 kvs x).isSome !=neg)) h else .no
  |_=>.no
 |_,_=>.no
inductive B where
 |add|sub|mul|div|mod|eq|ne|lt|le|gt|ge|isin|notin
 deriving DecidableEq
def op2(o:B)(h:AH)(a b:D):R D:=match o with
 |.add=>W0 h a b|.sub=>a5j h a b|.mul=>M5 h a b|.div=>v7 h a b|.mod=>u6 h a b
 |.eq=>G0 h a b|.ne=>a0v h a b
 |.lt=>D2 (fun i j=>decide (i<j)) h a b|.le=>D2 (fun i j=>decide (i<=j)) h a b|.gt=>D2 (fun i j=>decide (j<i)) h a b|.ge=>D2 (fun i j=>decide (j<=i)) h a b
 |.isin=>U9 false h a b|.notin=>U9 true h a b
def ixD (h:AH):D->D->R D
 |.tup xs,.int i=>match atI xs i with
  |some d=>.ok d h
  |none=>.no
 |.str x,.int i=>if x.length<=SL then(match atI x.cps.toList i with
  |some c=>.ok (.str ⟨#[c]⟩) h
  |none=>.no) else .no
 | .ref n,k=>match h[n]? with
  | some (.lst xs)=>(match k with
   |.int i=>(match atI xs i with
    |some d=>.ok d h
    |none=>.no)
   |_=>.no)
  | some (.rol xs)=>(match k with
   |.int i=>(match atI xs i with
    |some d=>.ok d h
    |none=>.no)
   |_=>.no)
  |some (.dict kvs)=>if E9 k kvs then(match o5 kvs k with
   |some d=>.ok d h
   |none=>.no) else .no
  |_=>.no
 |_,_=>.no
def O3(xs:List D)(lo hi:Option Int):List D:=(xs.drop (HT.sIx xs.length 0 lo)).take (HT.sIx xs.length xs.length hi-HT.sIx xs.length 0 lo)
def slD(h:AH)(lo hi:Option Int):D->R D
 |.str x=>if x.length<=SL then .ok (.str (Txt.slice x lo hi)) h else .no
 |.ref n=>match rdL h n with
  |some xs=>x5 (.lst (O3 xs lo hi)) h
  |none=>.no
 |_=>.no
def V2(h:AH)(f:Str):D->R D
 | .ref n=>match h[n]? with
  |some (.obj _ fs)=>(match fs.lookup f with
   |some d=>.ok d h
   |none=>.no)
  |_=>.no
 |_=>.no
inductive Bi where
 |len|str|int|list|tuple|all|any|max|min|sum|dict
 deriving DecidableEq
def a5Q:List D->Option (List Bool)
 |[]=>some []
 |.bl b::r=>(a5Q r).map (b:: ·)
 |_::_=>none
def a1X:List D->Option (List Str)
 |[]=>some []
 |.str x::r=>(a1X r).map (x:: ·)
 |_::_=>none
def a3o:List D->Option (List Int)
 |[]=>some []
 |.int i::r=>(a3o r).map (i:: ·)
 |_::_=>none
def a7O:List D->Option (List (D×D))
 |[]=>some []
 |.tup [k,v]::r=>if(K0 k).isSome then(a7O r).map ((k,v):: ·) else none
 |_::_=>none
def biD (b:Bi) (h:AH):List D->R D
 | [.str x]=>match b with
  |.len=>if x.length<=SL then .ok (.int x.length) h else .no
  |.int=>if x.length<=640 then(match PySem.intText? x with
   |some n=>.ok (.int n) h
   |none=>.no) else .no
  |_=>.no
 |[.tup xs]=>match b with
  |.len=>.ok (.int xs.length) h
  |.list=>x5 (.lst xs) h
  |.tuple=>.ok (.tup xs) h
  |_=>.no
 |[.int i]=>match b with
  |.str=>if i.natAbs.log2<1920 then .ok (.str (toString i)) h else .no
  |.int=>.ok (.int i) h
  |_=>.no
 |[.bl k]=>match b with
  |.int=>.ok (.int (if k then 1 else 0)) h
  |_=>.no
 | [.ref n]=>match h[n]? with
  |some (.dict kvs)=>(match b with
   |.len=>if E9 (.int 0) kvs then .ok (.int kvs.length) h else .no
   |_=>.no)
  | _=>match rdL h n with
   | some xs=>(match b with
    |.len=>.ok (.int xs.length) h
    |.list=>x5 (.lst xs) h
    |.tuple=>.ok (.tup xs) h
    |.all=>(match a5Q xs with
     |some bs=>.ok (.bl (bs.all id)) h
     |none=>.no)
    |.any=>(match a5Q xs with
     |some bs=>.ok (.bl (bs.any id)) h
     |none=>.no)
    |.sum=>(match a3o xs with
     |some is=>.ok (.int is.sum) h
     |none=>.no)
    |.dict=>(match a7O xs with
     |some kvs=>x5 (.dict (kvs.foldl (fun a p=>a0N a p.1 p.2) [])) h
     |none=>.no)
    |_=>.no)
   |none=>.no
 |[.int i,.int j]=>match b with
  |.max=>.ok (.int (if j>i then j else i)) h
  |.min=>.ok (.int (if j<i then j else i)) h
  |_=>.no
 |_=>.no
inductive Mt where
 |append|split|join|starts
 deriving DecidableEq
def mtD (b:Mt) (h:AH):D->List D->R D
 |.ref n,[d]=>match b,h[n]? with
  |.append,some (.lst xs)=>if xs.length<SL then .ok .non (h.set n (.lst (xs++[d]))) else .no
  |_,_=>.no
 |.str x,[.str y]=>match b with
  |.split=>if 0<y.length/\x.length+2<=SL then x5 (.lst ((Txt.split x y).map D.str)) h else .no
  |.starts=>.ok (.bl (Txt.startswith x y)) h
  |_=>.no
 | .str x,[.ref n]=>match b with
  | .join=>(match rdL h n with
   |some xs=>(match a1X xs with
    |some ts=>if JoinOk x ts=true then .ok (.str (Txt.join x ts)) h else .no
    |none=>.no)
   |none=>.no)
  |_=>.no
 |_,_=>.no
def mtT(b:Mt)(h:AH):D->Bool
 |.str _=>match b with
  |.split=>true|.join=>true|.starts=>true
  |_=>false
 |.ref n=>match b with
  |.append=>(rdL h n).isSome
  |_=>false
 |_=>false
def b3B(h:AH):D->D->D->R D
 |.ref n,k,x=>match h[n]? with
  |some (.dict kvs)=>if E9 k kvs&&(K0 k).isSome&&!kvs.isEmpty then .ok ((o5 kvs k).getD x) h else .no
  |_=>.no
 |_,_,_=>.no
def b7o(h:AH):D->Bool
 |.ref n=>match h[n]? with
  |some (.dict _)=>true
  |_=>false
 |_=>false
def b8g(h:AH):D->D->R D
 |.tup xs,x=>if p7 x&&xs.all p7 then .ok (.int (xs.countP fun y=>eqF y x)) h else .no
 |_,_=>.no
def b7m:D->Bool
 |.tup _=>true
 |_=>false
def a1p (h:AH) (o i v:D):R Unit:=match o with
 | .ref n=>match h[n]? with
  | some (.lst xs)=>(match i with
   |.int k=>(match ixN xs.length k with
    |some j=>.ok () (h.set n (.lst (xs.set j v)))
    |none=>.no)
   |_=>.no)
  |some (.dict kvs)=>if E9 i kvs=true/\kvs.length<SL then .ok () (h.set n (.dict (a0N kvs i v))) else .no
  |_=>.no
 |_=>.no
def a3e(f:Str)(v:D):List (Str×D)->List (Str×D)
 |[]=>[(f,v)]
 |(g,x)::r=>if g=f then(g,v)::r else(g,x)::a3e f v r
def a3O(h:AH)(o:D)(f:Str)(v:D):R Unit:=match o with
 |.ref n=>match h[n]? with
  |some (.obj c fs)=>if fs.length<1000 then .ok () (h.set n (.obj c (a3e f v fs))) else .no
  |_=>.no
 |_=>.no
end EV
namespace EV
open PySem L2
theorem D.ind{P:D->Prop}{Q:List D->Prop}(h0:P .non)(h1:∀b,P (.bl b))(h2:∀i,P (.int i))(h3:∀x,P (.str x))(h4:∀l,Q l->P (.tup l))(h5:∀n,P (.ref n))(q0:Q [])(q1:∀d r,P d->Q r->Q (d::r)):
 (∀d,P d)/\∀l,Q l:=
 ⟨fun d=>D.rec (motive_1:=P) (motive_2:=Q) h0 h1 h2 h3 h4 h5 q0 q1 d,fun l=>by
  induction l with
  |nil=>exact q0
  |cons d r ih=>exact q1 d r (D.rec (motive_1:=P) (motive_2:=Q) h0 h1 h2 h3 h4 h5 q0 q1 d) ih⟩
mutual
def Rp(m:List Addr)(H:Hp):D->V->Prop
  |.non,v=>v=.non
  |.bl b,v=>v=.bl b
  |.int i,v=>v=.int i
  |.str x,v=>v=.str x
  |.tup l,v=>∃a vs,v=.ref a/\H a=some (.tup vs)/\Rps m H l vs
  |.ref n,v=>∃a,v=.ref a/\m[n]? =some a
def Rps(m:List Addr)(H:Hp):List D->List V->Prop
  |[],vs=>vs=[]
  |d::r,vs=>∃v t,vs=v::t/\Rp m H d v/\Rps m H r t
end
def Im:HO->Prop
 |.tup _=>True
 |.xd _=>True
 |_=>False
abbrev KIm(H H':Hp):Prop:=∀b o,Im o->H b=some o->H' b=some o
structure Keep(m m':List Addr)(H H':Hp):Prop where
 im:∀b o,Im o->H b=some o->H' b=some o
 out:∀b o,b∉m->H b=some o->H' b=some o
 fr:∀a,a∈m'->a∈m∨H a=none
theorem Keep.refl(m:List Addr)(H:Hp):Keep m m H H:=⟨fun _ _ _ h=>h,fun _ _ _ h=>h,fun _ h=>.inl h⟩
theorem Keep.trans{m m1 m2:List Addr}{H H1 H2:Hp}(a:Keep m m1 H H1)(b:Keep m1 m2 H1 H2):Keep m m2 H H2:=by
 refine⟨fun c o i h=>b.im c o i (a.im c o i h),fun c o n h=>b.out c o (fun z=>?_) (a.out c o n h),fun c h=>?_⟩
 · rcases a.fr c z with q|q
   · exact n q
   · rw[h] at q;cases q
 · rcases b.fr c h with q|q
   · exact a.fr c q
   · by_cases hc:c∈m
     · exact .inl hc
     · cases e:H c with
       |none=>exact .inr rfl
       |some o=>rw[a.out c o hc e] at q;cases q
theorem Keep.new{m:List Addr}{H:Hp}{p:Addr}{o:HO}(hp:H p=none):Keep m m H (upd H p o):=
 ⟨fun b ob _ h=>by rw[l8 (u0 h hp)];exact h,fun b ob _ h=>by rw[l8 (u0 h hp)];exact h,fun _ h=>.inl h⟩
theorem Keep.newc{m:List Addr}{H:Hp}{p:Addr}{o:HO}(hp:H p=none):Keep m (m++[p]) H (upd H p o):=
 ⟨fun b ob _ h=>by rw[l8 (u0 h hp)];exact h,fun b ob _ h=>by rw[l8 (u0 h hp)];exact h,fun a h=>by
  rcases List.mem_append.mp h with q|q
  · exact .inl q
  · simp at q;subst q;exact .inr hp⟩
theorem Keep.put{m:List Addr}{H:Hp}{p:Addr}{o o':HO}{k:Nat}(hm:m[k]? =some p)(hp:H p=some o)(ni:¬Im o):Keep m m H (upd H p o'):=by
 refine⟨fun b ob i h=>?_,fun b ob n h=>?_,fun _ h=>.inl h⟩
 · have:b≠p:=fun e=>by rw[e,hp] at h;cases h;exact ni i
   rw[l8 this];exact h
 · have:b≠p:=fun e=>n (by rw[e];exact List.mem_of_getElem? hm)
   rw[l8 this];exact h
theorem Keep.tup{m m':List Addr}{H H':Hp}(k:Keep m m' H H'){a:Addr}{vs:List V}(h:H a=some (.tup vs)):H' a=some (.tup vs):=k.im a _ trivial h
abbrev Pre(m m':List Addr):Prop:=∃t,m'=m++t
theorem Pre.refl(m:List Addr):Pre m m:=⟨[],by simp⟩
theorem Pre.trans{a b c:List Addr}(h:Pre a b)(k:Pre b c):Pre a c:=by
 obtain⟨t,rfl⟩:=h;obtain⟨u,rfl⟩:=k;exact⟨t++u,by simp⟩
theorem Pre.snoc(m:List Addr)(p:Addr):Pre m (m++[p]):=⟨[p],rfl⟩
theorem Pre.get{m m':List Addr}(h:Pre m m'){n:Nat}{a:Addr}(e:m[n]? =some a):m'[n]? =some a:=by
 obtain⟨t,rfl⟩:=h;rw[List.getElem?_append_left (List.getElem?_eq_some_iff.mp e).1];exact e
theorem a1K{m m':List Addr}{H H':Hp}(p:Pre m m')(k:KIm H H'):(∀d v,Rp m H d v->Rp m' H' d v)/\∀l vs,Rps m H l vs->Rps m' H' l vs:=by
 refine D.ind (P:=fun d=>∀v,Rp m H d v->Rp m' H' d v) (Q:=fun l=>∀vs,Rps m H l vs->Rps m' H' l vs) ?_ ?_ ?_ ?_ ?_ ?_ ?_ ?_
 · intro v h;exact h
 · intro b v h;exact h
 · intro b v h;exact h
 · intro b v h;exact h
 · rintro l ih v ⟨a,vs,rfl,e,q⟩;exact⟨a,vs,rfl,k _ _ trivial e,ih vs q⟩
 · rintro n v ⟨a,rfl,e⟩;exact⟨a,rfl,p.get e⟩
 · intro vs h;exact h
 · rintro d r ih ihs vs ⟨v,t,rfl,q1,q2⟩;exact⟨v,t,rfl,ih v q1,ihs t q2⟩
theorem Rp.mono{m m':List Addr}{H H':Hp}{d:D}{v:V}(h:Rp m H d v)(p:Pre m m')(k:Keep m m' H H'):Rp m' H' d v:=(a1K p k.im).1 d v h
theorem Rp.mono'{m m':List Addr}{H H':Hp}{d:D}{v:V}(h:Rp m H d v)(p:Pre m m')(k:KIm H H'):Rp m' H' d v:=(a1K p k).1 d v h
theorem Rps.mono{m m':List Addr}{H H':Hp}{l:List D}{vs:List V}(h:Rps m H l vs)(p:Pre m m')(k:Keep m m' H H'):Rps m' H' l vs:=(a1K p k.im).2 l vs h
theorem Rps.mono'{m m':List Addr}{H H':Hp}{l:List D}{vs:List V}(h:Rps m H l vs)(p:Pre m m')(k:KIm H H'):Rps m' H' l vs:=(a1K p k).2 l vs h
theorem a3S{m m':List Addr}{H:Hp}:(∀d v,D.flat d=true->Rp m H d v->Rp m' H d v)/\∀l vs,D.flats l=true->Rps m H l vs->Rps m' H l vs:=by
 refine D.ind (P:=fun d=>∀v,D.flat d=true->Rp m H d v->Rp m' H d v) (Q:=fun l=>∀vs,D.flats l=true->Rps m H l vs->Rps m' H l vs) ?_ ?_ ?_ ?_ ?_ ?_ ?_ ?_
 · intro v _ h;exact h
 · intro b v _ h;exact h
 · intro b v _ h;exact h
 · intro b v _ h;exact h
 · rintro l ih v f ⟨a,vs,rfl,e,q⟩;exact⟨a,vs,rfl,e,ih vs f q⟩
 · intro n v f;exact absurd f (by simp[D.flat])
 · intro vs _ h;exact h
 · rintro d r ih ihs vs f ⟨v,t,rfl,q1,q2⟩;rw[D.flats,Bool.and_eq_true] at f;exact⟨v,t,rfl,ih v f.1 q1,ihs t f.2 q2⟩
section
variable{m:List Addr}{H:Hp}
theorem Rps.len:∀{l:List D} {vs:List V},Rps m H l vs->vs.length=l.length
 |[],vs,h=>by rw[show vs=[] from h];rfl
 |d::r,vs,⟨v,t,e,_,q⟩=>by rw[e,List.length_cons,List.length_cons,Rps.len q]
theorem Rps.get:∀{l:List D} {vs:List V} {i:Nat} {d:D},Rps m H l vs->l[i]? =some d->∃v,vs[i]? =some v/\Rp m H d v
 |d'::r,vs,0,d,⟨v,t,e,q,_⟩,h=>by
  simp at h;subst h;exact⟨v,by rw[e];rfl,q⟩
 |d'::r,vs,i+1,d,⟨v,t,e,_,q⟩,h=>by
  obtain⟨w,h1,h2⟩:=Rps.get (i:=i) q (by simpa using h)
  exact⟨w,by rw[e];simpa using h1,h2⟩
 |[],_,_,_,_,h=>by simp at h
theorem Rps.app:∀{l l':List D} {vs vs':List V},Rps m H l vs->Rps m H l' vs'->Rps m H (l++l') (vs++vs')
 |[],_,vs,_,h,k=>by rw[show vs=[] from h];exact k
 |d::r,_,vs,_,⟨v,t,e,q1,q2⟩,k=>by subst e;exact⟨v,_,rfl,q1,Rps.app q2 k⟩
theorem Rps.snoc{l:List D}{vs:List V}{d:D}{v:V}(h:Rps m H l vs)(q:Rp m H d v):Rps m H (l++[d]) (vs++[v]):=h.app ⟨v,[],rfl,q,rfl⟩
theorem Rps.drop:∀{l:List D} {vs:List V} (n:Nat),Rps m H l vs->Rps m H (l.drop n) (vs.drop n)
 |[],vs,n,h=>by rw[show vs=[] from h];simp[Rps]
 |d::r,vs,0,h=>h
 |d::r,vs,n+1,⟨v,t,e,_,q⟩=>by subst e;exact Rps.drop n q
theorem Rps.take:∀{l:List D} {vs:List V} (n:Nat),Rps m H l vs->Rps m H (l.take n) (vs.take n)
 |[],vs,n,h=>by rw[show vs=[] from h];simp[Rps]
 |d::r,vs,0,h=>by simp[Rps]
 |d::r,vs,n+1,⟨v,t,e,q1,q⟩=>by subst e;exact⟨v,_,rfl,q1,Rps.take n q⟩
theorem Rps.set:∀{l:List D} {vs:List V} {d:D} {v:V} (n:Nat),Rps m H l vs->Rp m H d v->Rps m H (l.set n d) (vs.set n v)
 |[],vs,_,_,n,h,_=>by rw[show vs=[] from h];simp[Rps]
 |d::r,vs,_,_,0,⟨v,t,e,q1,q⟩,k=>by subst e;exact⟨_,t,rfl,k,q⟩
 |d::r,vs,_,_,n+1,⟨v,t,e,q1,q⟩,k=>by subst e;exact⟨v,_,rfl,q1,Rps.set n q k⟩
theorem Rps.rep{l:List D}{vs:List V}(h:Rps m H l vs):∀k:Nat,Rps m H (List.replicate k l).flatten (List.replicate k vs).flatten
 |0=>rfl
 |k+1=>by
  rw[List.replicate_succ,List.replicate_succ,List.flatten_cons,List.flatten_cons];exact h.app (Rps.rep h k)
theorem Rps.strs:∀{ts:List Str},Rps m H (ts.map D.str) (ts.map V.str)
 |[]=>rfl
 |x::r=>⟨_,_,rfl,rfl,Rps.strs⟩
theorem Rps.cut{l:List D}{vs:List V}(h:Rps m H l vs)(lo hi:Option Int):Rps m H (O3 l lo hi) (a8o vs lo hi):=by
 unfold O3 a8o;rw[h.len];exact(h.drop _).take _
theorem Rps.at{l:List D}{vs:List V}{i:Int}{d:D}(h:Rps m H l vs)(e:atI l i=some d):∃v,atI vs i=some v/\Rp m H d v:=by
 unfold atI at e⊢;rw[h.len]
 cases q:ixN l.length i with
 |none=>rw[q] at e;cases e
 |some j=>rw[q] at e;exact h.get e
theorem a5d:∀{l:List D} {ts:List Str} {vs:List V},a1X l=some ts->Rps m H l vs->vs=ts.map V.str
 |[],ts,vs,e,h=>by cases e;exact h
 |d::r,ts,vs,e,⟨v,t,ev,q1,q2⟩=>by
  subst ev
  cases d<;>simp only[a1X] at e<;>try cases e
  rename_i x
  cases q:a1X r with
  |none=>rw[q] at e;cases e
  |some us=>rw[q] at e;cases e;rw[a5d q q2,show v=V.str x from q1];rfl
theorem a3P:∀{l:List D} {ts:List Bool} {vs:List V},a5Q l=some ts->Rps m H l vs->vs=ts.map V.bl
 |[],ts,vs,e,h=>by cases e;exact h
 |d::r,ts,vs,e,⟨v,t,ev,q1,q2⟩=>by
  subst ev
  cases d<;>simp only[a5Q] at e<;>try cases e
  rename_i x
  cases q:a5Q r with
  |none=>rw[q] at e;cases e
  |some us=>rw[q] at e;cases e;rw[a3P q q2,show v=V.bl x from q1];rfl
end
structure Gm where
 K:PySem.W.Frag
 cA:Nat->Addr
 ob:List Nat
 xs:List Nat
def Fl(m:List Addr)(H:Hp):List (Str×D)->List (Str×V)->Prop:=Paired fun p q=>p.1=q.1/\Rp m H p.2 q.2
def DK(m:List Addr)(H:Hp):List (D×D)->List (Key×V)->Prop:=Paired fun p q=>K0 p.1=some q.1/\Rp m H p.2 q.2
def DT(m:List Addr)(H:Hp):List (D×D)->List (List Key×V)->Prop:=Paired fun p q=>(∃l,p.1=.tup l/\F0 l=some q.1)/\Rp m H p.2 q.2
def E7(Γ:Gm)(m:List Addr)(H:Hp)(a:Addr):Cell->Prop
 |.lst l=>∃vs,H a=some (.lst vs)/\Rps m H l vs
 |.rol l=>∃vs,SqL Γ.K H a vs/\Rps m H l vs/\∃o,H a=some (.frz o (.lst vs))
 |.dict l=>(∃kvs,H a=some (.dK kvs)/\DK m H l kvs)∨∃kvs,H a=some (.dT kvs)/\DT m H l kvs
 |.obj c fs=>∃dx gs,H a=some (.ins (Γ.cA c) dx gs)/\Fl m H fs gs/\c∈Γ.ob
theorem E7.there{Γ:Gm}{m:List Addr}{H:Hp}{a:Addr}{c:Cell}(h:E7 Γ m H a c):∃o,H a=some o/\¬Im o:=by
 cases c with
 |lst l=>obtain⟨vs,e,_⟩:=h;exact⟨_,e,fun z=>z⟩
 |rol l=>obtain⟨vs,_,_,o,e⟩:=h;exact⟨_,e,fun z=>z⟩
 |dict l=>
  rcases h with⟨kvs,e,_⟩|⟨kvs,e,_⟩
  · exact⟨_,e,fun z=>z⟩
  · exact⟨_,e,fun z=>z⟩
 |obj c fs=>obtain⟨dx,gs,e,_⟩:=h;exact⟨_,e,fun z=>z⟩
theorem Fl.mono{m m':List Addr}{H H':Hp}{fs:List (Str×D)}{gs:List (Str×V)}(h:Fl m H fs gs)(p:Pre m m')(k:KIm H H'):Fl m' H' fs gs:=Paired.mapP h fun _ _ z=>⟨z.1,z.2.mono' p k⟩
theorem DK.mono{m m':List Addr}{H H':Hp}{fs:List (D×D)}{gs:List (Key×V)}(h:DK m H fs gs)(p:Pre m m')(k:KIm H H'):DK m' H' fs gs:=Paired.mapP h fun _ _ z=>⟨z.1,z.2.mono' p k⟩
theorem DT.mono{m m':List Addr}{H H':Hp}{fs:List (D×D)}{gs:List (List Key×V)}(h:DT m H fs gs)(p:Pre m m')(k:KIm H H'):DT m' H' fs gs:=Paired.mapP h fun _ _ z=>⟨z.1,z.2.mono' p k⟩
theorem E7.mono'{Γ:Gm}{m m':List Addr}{H H':Hp}{a:Addr}{c:Cell}(h:E7 Γ m H a c)(p:Pre m m')(k:KIm H H')(e:H' a=H a):E7 Γ m' H' a c:=by
 cases c with
 |lst l=>obtain⟨vs,q,r⟩:=h;exact⟨vs,e.trans q,r.mono' p k⟩
 |rol l=>obtain⟨vs,s,r,o,q⟩:=h;exact⟨vs,.inl (.inr ⟨o,e.trans q⟩),r.mono' p k,o,e.trans q⟩
 |dict l=>
  rcases h with⟨kvs,q,r⟩|⟨kvs,q,r⟩
  · exact .inl ⟨kvs,e.trans q,r.mono p k⟩
  · exact .inr ⟨kvs,e.trans q,r.mono p k⟩
 |obj c fs=>obtain⟨dx,gs,q,r,z⟩:=h;exact⟨dx,gs,e.trans q,r.mono p k,z⟩
theorem E7.mono{Γ:Gm}{m m':List Addr}{H H':Hp}{a:Addr}{c:Cell}(h:E7 Γ m H a c)(p:Pre m m')(k:Keep m m' H H')(e:H' a=H a):E7 Γ m' H' a c:=h.mono' p k.im e
structure Sim(Γ:Gm)(ah:AH)(m:List Addr)(H:Hp):Prop where
 len:m.length=ah.length
 nd:m.Nodup
 cell:∀(n:Nat) (a:Addr) (c:Cell),m[n]? =some a->ah[n]? =some c->E7 Γ m H a c
section
variable{Γ:Gm}{ah:AH}{m:List Addr}{H:Hp}
theorem Sim.at(s:Sim Γ ah m H){n:Nat}{a:Addr}{c:Cell}(h:m[n]? =some a)(e:ah[n]? =some c):E7 Γ m H a c:=s.cell n a c h e
theorem Sim.has(s:Sim Γ ah m H){n:Nat}{a:Addr}(h:m[n]? =some a):∃c,ah[n]? =some c:=by
 have h:=(List.getElem?_eq_some_iff.mp h).1
 rw[s.len] at h;exact⟨ah[n],List.getElem?_eq_getElem h⟩
theorem Sim.fresh(s:Sim Γ ah m H){p:Addr}(hp:H p=none):p∉m:=fun hm=>by
 obtain⟨n,hn⟩:=List.getElem?_of_mem hm
 obtain⟨c,hc⟩:=s.has hn;obtain⟨o,e,_⟩:=(s.at hn hc).there;rw[hp] at e;cases e
theorem Sim.keep{H':Hp}(s:Sim Γ ah m H)(k:Keep m m H H')(e:∀(n:Nat) (a:Addr),m[n]? =some a->H' a=H a):Sim Γ ah m H':=
 ⟨s.len,s.nd,fun n a c h q=>(s.at h q).mono (Pre.refl m) k (e n a h)⟩
theorem Sim.same{H':Hp}(s:Sim Γ ah m H)(k:b9V H H'):Sim Γ ah m H':=
 s.keep ⟨fun b o _ h=>k b o h,fun b o _ h=>k b o h,fun _ h=>.inl h⟩ fun n a h=>by
  obtain⟨c,hc⟩:=s.has h;obtain⟨o,e,_⟩:=(s.at h hc).there;rw[e];exact k a o e
theorem Sim.new{p:Addr}{o:HO}(s:Sim Γ ah m H)(hp:H p=none):Sim Γ ah m (upd H p o):=s.same fun b ob h=>by rw[l8 (u0 h hp)];exact h
theorem a0w{m:List Addr}{p:Addr}(nd:m.Nodup)(hp:p∉m):(m++[p]).Nodup:=by
 rw[List.nodup_append];refine⟨nd,by simp,fun a ha b hb=>?_⟩
 simp at hb;subst hb
 rintro rfl;exact hp ha
theorem Sim.alloc{p:Addr}{o:HO}{c:Cell}(s:Sim Γ ah m H)(hp:H p=none)(h:E7 Γ (m++[p]) (upd H p o) p c):Sim Γ (ah++[c]) (m++[p]) (upd H p o):=by
 refine⟨by simp[s.len],a0w s.nd (s.fresh hp),fun n a c' hn hc=>?_⟩
 by_cases hl:n<m.length
 · rw[List.getElem?_append_left hl] at hn
   rw[List.getElem?_append_left (by rw[←s.len];exact hl)] at hc
   have ok:=s.at hn hc;refine ok.mono (Pre.snoc m p) (Keep.newc hp) ?_
   obtain⟨o',e,_⟩:=ok.there;rw[l8 (u0 e hp)]
 · have hn':n=m.length:=by
    have:=(List.getElem?_eq_some_iff.mp hn).1
    simp at this;omega
   subst hn';rw[List.getElem?_append_right (Nat.le_refl _)] at hn
   rw[s.len,List.getElem?_append_right (Nat.le_refl _)] at hc
   simp at hn hc;subst hn;subst hc
   exact h
theorem Sim.write{k:Nat}{q:Addr}{o o':HO}{c:Cell}(s:Sim Γ ah m H)(hk:m[k]? =some q)(hq:H q=some o)(ni:¬Im o)(h:E7 Γ m (upd H q o') q c):Sim Γ (ah.set k c) m (upd H q o'):=by
  refine⟨by simp[s.len],s.nd,fun n a c' hn hc=>?_⟩
  by_cases e:n=k
  · subst e;rw[hk] at hn;cases hn
    rw[List.getElem?_set_self (by rw[←s.len];exact(List.getElem?_eq_some_iff.mp hk).1)] at hc
    cases hc;exact h
  · rw[List.getElem?_set_ne (Ne.symm e)] at hc
    have ne:a≠q:=fun z=>by subst z;exact e (nodup_ixA s.nd hn hk)
    exact(s.at hn hc).mono (Pre.refl m) (Keep.put hk hq ni) (l8 ne)
where
  nodup_ixA {m:List Addr} (hN:m.Nodup) {i j:Nat} {x:Addr} (a:m[i]? =some x) (b:m[j]? =some x):i=j:=by
    obtain⟨h1,e1⟩:=List.getElem?_eq_some_iff.mp a
    obtain⟨h2,e2⟩:=List.getElem?_eq_some_iff.mp b
    exact(List.getElem_inj hN).mp (e1.trans e2.symm)
theorem Sim.lst(s:Sim Γ ah m H){n:Nat}{l:List D}(e:ah[n]? =some (.lst l)){v:V}(r:Rp m H (.ref n) v):∃a vs,v=.ref a/\m[n]? =some a/\H a=some (.lst vs)/\Rps m H l vs:=by
 obtain⟨a,rfl,hm⟩:=r;obtain⟨vs,e1,e2⟩:=s.at hm e;exact⟨a,vs,rfl,hm,e1,e2⟩
theorem Sim.rdL(s:Sim Γ ah m H){n:Nat}{l:List D}(e:rdL ah n=some l){v:V}(r:Rp m H (.ref n) v):∃a vs,v=.ref a/\m[n]? =some a/\SqL Γ.K H a vs/\Rps m H l vs:=by
 obtain⟨a,rfl,hm⟩:=r;unfold EV.rdL at e
 split at e
 · rename_i l' q;cases e;obtain⟨vs,e1,e2⟩:=s.at hm q;exact⟨a,vs,rfl,hm,.inl (.inl e1),e2⟩
 · rename_i l' q;cases e;obtain⟨vs,e1,e2,_⟩:=s.at hm q;exact⟨a,vs,rfl,hm,e1,e2⟩
 · cases e
end
abbrev j9:=List (Option D)
structure EnvRel(m:List Addr)(H:Hp)(env:j9)(σ:St):Prop where
 len:env.length=σ.length
 val:∀(i:Nat) (d:D),env[i]? =some (some d)->∃v,σ[i]? =some (some v)/\Rp m H d v
theorem EnvRel.mono{m m':List Addr}{H H':Hp}{env:j9}{σ:St}(h:EnvRel m H env σ)(p:Pre m m')(k:Keep m m' H H'):EnvRel m' H' env σ:=
 ⟨h.len,fun i d e=>let⟨v,a,b⟩:=h.val i d e;⟨v,a,b.mono p k⟩⟩
theorem EnvRel.set{m:List Addr}{H:Hp}{env:j9}{σ:St}(h:EnvRel m H env σ){i:Nat}{d:D}{v:V}(r:Rp m H d v):EnvRel m H (env.set i (some d)) (σ.set i (some v)):=by
 refine⟨by simp[h.len],fun j d' e=>?_⟩
 by_cases q:j=i
 · subst q
   by_cases hl:j<env.length
   · rw[List.getElem?_set_self hl] at e
     cases e;exact⟨v,List.getElem?_set_self (by rw[←h.len];exact hl),r⟩
   · rw[List.getElem?_eq_none (by simp;omega)] at e;cases e
 · rw[List.getElem?_set_ne (Ne.symm q)] at e⊢
   exact h.val j d' e
structure Rel(Γ:Gm)(env:j9)(ah:AH)(σ:St)(H:Hp)(m:List Addr):Prop where
 sim:Sim Γ ah m H
 env:EnvRel m H env σ
def i6(Γ:Gm)(E:XK)(m:List Addr)(H:Hp)(r:R D)(Q:VK):Prop:=match r with
 |.ok d ah'=>∀m' H' v,Pre m m'->Keep m m' H H'->Sim Γ ah' m' H'->Rp m' H' d v->Q v H'
 |.no=>False
def n5{α:Type}(Γ:Gm)(E:XK)(m:List Addr)(H:Hp)(r:R α)(Q:α->AH->List Addr->Hp->Prop):Prop:=match r with
 |.ok a ah'=>∀m' H',Pre m m'->Keep m m' H H'->Sim Γ ah' m' H'->Q a ah' m' H'
 |.no=>False
section
variable{Γ:Gm}{E:XK}{m m':List Addr}{H H':Hp}
theorem i6.later{r:R D}{Q:VK}(h:i6 Γ E m H r Q)(p:Pre m m')(k:Keep m m' H H'):i6 Γ E m' H' r Q:=by
 cases r with
 |ok d ah=>exact fun m2 H2 v p2 k2 s2 r2=>h m2 H2 v (p.trans p2) (k.trans k2) s2 r2
 |no=>exact h
theorem i6.bind{α:Type}{r:R α}{f:α->AH->R D}{Q:VK}(h:i6 Γ E m H (r.bind f) Q):n5 Γ E m H r (fun a ah1 m1 H1=>i6 Γ E m1 H1 (f a ah1) Q):=by
 cases r with
 |ok d ah=>exact fun m2 H2 p2 k2 s2=>i6.later h p2 k2
 |no=>exact h
theorem n5.later{α:Type}{r:R α}{Q:α->AH->List Addr->Hp->Prop}(h:n5 Γ E m H r Q)(p:Pre m m')(k:Keep m m' H H'):n5 Γ E m' H' r Q:=by
 cases r with
 |ok d ah=>exact fun m2 H2 p2 k2 s2=>h m2 H2 (p.trans p2) (k.trans k2) s2
 |no=>exact h
theorem n5.bind{α β:Type}{r:R α}{f:α->AH->R β}{Q:β->AH->List Addr->Hp->Prop}(h:n5 Γ E m H (r.bind f) Q):n5 Γ E m H r (fun a ah1 m1 H1=>n5 Γ E m1 H1 (f a ah1) Q):=by
 cases r with
 |ok d ah=>exact fun m2 H2 p2 k2 s2=>n5.later h p2 k2
 |no=>exact h
theorem n5.val{r:R D}{P:D->AH->List Addr->Hp->Prop}{Q:VK}(h:n5 Γ E m H r P)(k:∀d ah1 m1 H1 v,Pre m m1->Keep m m1 H H1->Sim Γ ah1 m1 H1->Rp m1 H1 d v->P d ah1 m1 H1->Q v H1):i6 Γ E m H r Q:=by
 cases r with
 |ok d ah=>exact fun m2 H2 v p2 k2 s2 r2=>k d ah m2 H2 v p2 k2 s2 r2 (h m2 H2 p2 k2 s2)
 |no=>exact h
theorem i6.ok{d:D}{ah:AH}{Q:VK}{v:V}(h:i6 Γ E m H (.ok d ah) Q)(s:Sim Γ ah m H)(r:Rp m H d v):Q v H:=h m H v (Pre.refl m) (Keep.refl m H) s r
theorem i6.newc{c:Cell}{ah:AH}{Q:VK}{p:Addr}{o:HO}(h:i6 Γ E m H (x5 c ah) Q)(s:Sim Γ ah m H)(hp:H p=none)(ok:E7 Γ (m++[p]) (upd H p o) p c):Q (.ref p) (upd H p o):=by
 refine h (m++[p]) (upd H p o) (.ref p) (Pre.snoc m p) (Keep.newc hp) (s.alloc hp ok) ⟨p,rfl,?_⟩
 rw[←s.len,List.getElem?_append_right (Nat.le_refl _)];simp
theorem i6.newt{l:List D}{vs:List V}{ah:AH}{Q:VK}{p:Addr}(h:i6 Γ E m H (.ok (.tup l) ah) Q)(s:Sim Γ ah m H)(hp:H p=none)(r:Rps m H l vs):Q (.ref p) (upd H p (.tup vs)):=
 h m _ (.ref p) (Pre.refl m) (Keep.new hp) (s.new hp) ⟨p,vs,rfl,g9,r.mono (Pre.refl m) (Keep.new hp)⟩
end
end EV
namespace EV
open PySem PySem.Spec L2
open PyProof.Rows hiding St
theorem Q3:SL=sizeLine:=by rw[sizeLine_eq]
theorem a5c{α:Type}{l:List α}{n:Nat}{x:α}(h:l[n]? =some x):l.set n x=l:=by
 refine List.ext_getElem? fun i=>?_
 by_cases e:i=n
 · subst e;rw[List.getElem?_set_self (List.getElem?_eq_some_iff.mp h).1,h]
 · rw[List.getElem?_set_ne (Ne.symm e)]
section
variable{X:Cx}{Γ:Gm}{E:XK}
def rOf(Γ:Gm)(E:XK)(g:AH->D->D->R D):R2:=fun x y H Q=>∃d1 d2 ah m,Sim Γ ah m H/\Rp m H d1 x/\Rp m H d2 y/\i6 Γ E m H (g ah d1 d2) Q
theorem OpR.imp{f:Value->Value->Sem Value}{r r':R2}(h:OpR X f r)(i:∀x y H Q,r' x y H Q->r x y H Q):OpR X f r':=fun pins s σ H x y v u Q I rx ry q=>h pins s σ H x y v u Q I rx ry (i _ _ _ _ q)
theorem b7Y:OpR X (binaryOp .Add) (rOf Γ E W0):=by
 refine OpR.imp (b4H.or (a6e.or b4G)) ?_
 rintro x y H Q ⟨d1,d2,ah,m,s,r1,r2,q⟩;unfold W0 at q
 split at q
 · cases r1;cases r2
   exact .inl ⟨_,_,rfl,rfl,q.ok s rfl⟩
 · cases r1;cases r2
   split at q
   · rename_i h;exact .inr (.inl ⟨_,_,rfl,rfl,by rw[←Q3];exact h,q.ok s rfl⟩)
   · exact q.elim
 · split at q
   · rename_i e1 e2
     split at q
     · rename_i h;obtain⟨a,vs,rfl,ha,h1,q1⟩:=s.lst e1 r1;obtain⟨b,ws,rfl,hb,h2,q2⟩:=s.lst e2 r2;refine .inr (.inr ⟨a,b,vs,ws,rfl,rfl,h1,h2,by rw[q1.len,q2.len,←Q3];exact h,fun p hp=>q.newc s hp ⟨_,g9,?_⟩⟩)
       exact(q1.app q2).mono (Pre.snoc m p) (Keep.newc hp)
     · exact q.elim
   · exact q.elim
 · exact q.elim
theorem b7R:OpR X (binaryOp .Sub) (rOf Γ E a5j):=by
 refine OpR.imp b4x ?_
 rintro x y H Q ⟨d1,d2,ah,m,s,r1,r2,q⟩;unfold a5j at q
 split at q
 · cases r1;cases r2
   exact⟨_,_,rfl,rfl,q.ok s rfl⟩
 · exact q.elim
theorem b7S:OpR X (binaryOp .Mult) (rOf Γ E M5):=by
 refine OpR.imp ((b4B.or b4y).or b2k) ?_
 rintro x y H Q ⟨d1,d2,ah,m,s,r1,r2,q⟩;unfold M5 at q
 split at q
 · cases r1;cases r2
   split at q
   · rename_i h;rw[Bool.or_eq_true] at h;exact .inl (.inl ⟨_,_,rfl,rfl,h.imp a2b a2b,q.ok s rfl⟩)
   · exact q.elim
 · split at q
   · rename_i e1
     split at q
     · rename_i h;obtain⟨a,vs,rfl,ha,h1,q1⟩:=s.lst e1 r1;cases r2;refine .inl (.inr ⟨a,_,vs,rfl,rfl,h1,(by have:=E3 h.1;omega),(by have:=E3 h.1;omega),by rw[q1.len,←Q3];exact h.2,fun p hp=>q.newc s hp ⟨_,g9,?_⟩⟩)
       exact(q1.rep _).mono (Pre.snoc m p) (Keep.newc hp)
     · exact q.elim
   · exact q.elim
 · cases r1;cases r2
   split at q
   · rename_i h;exact .inr ⟨_,_,rfl,rfl,(by have:=E3 h.1;omega),(by have:=E3 h.1;omega),by rw[←Q3];exact h.2,q.ok s rfl⟩
   · exact q.elim
 · exact q.elim
theorem b7W:OpR X (binaryOp .FloorDiv) (rOf Γ E v7):=by
 refine OpR.imp b2l ?_
 rintro x y H Q ⟨d1,d2,ah,m,s,r1,r2,q⟩;unfold v7 at q
 split at q
 · cases r1;cases r2
   split at q
   · rename_i h;exact⟨_,_,rfl,rfl,h,q.ok s rfl⟩
   · exact q.elim
 · exact q.elim
theorem b7T:OpR X (binaryOp .Mod) (rOf Γ E u6):=by
 refine OpR.imp b4C ?_
 rintro x y H Q ⟨d1,d2,ah,m,s,r1,r2,q⟩;unfold u6 at q
 split at q
 · cases r1;cases r2
   split at q
   · rename_i h;exact⟨_,_,rfl,rfl,h,q.ok s rfl⟩
   · exact q.elim
 · exact q.elim
theorem b9F{x y:V}{b:Bool}(h:b=true↔x=y):b=decide (x=y):=by
 by_cases e:x=y
 · rw[decide_eq_true e];exact h.mpr e
 · rw[decide_eq_false e]
   cases b with
   |false=>rfl
   |true=>exact absurd (h.mp rfl) e
theorem b0w{m:List Addr}{H:Hp}{d1 d2:D}{x y:V}{b:Bool}(e:eqS d1 d2=some b)(r1:Rp m H d1 x)(r2:Rp m H d2 y):scal x y=true/\b=decide (x=y):=by
 unfold eqS at e
 split at e<;>first|(cases e;done)|(cases e;cases r1;cases r2;refine⟨rfl,?_⟩;first|rfl|(refine b9F ⟨fun h=>?_,fun h=>?_⟩<;>first|(rw[of_decide_eq_true h])|(injection h with h;exact decide_eq_true h)))
theorem a7r{op:CmpOp}{p:Int->Int->Bool}(h:OpR X (compareOp op) (rI0 fun i j=>.bl (p i j))):OpR X (compareOp op) (rOf Γ E (D2 p)):=by
 refine OpR.imp h ?_
 rintro x y H Q ⟨d1,d2,ah,m,s,r1,r2,q⟩;unfold D2 at q
 split at q
 · cases r1;cases r2
   exact⟨_,_,rfl,rfl,q.ok s rfl⟩
 · exact q.elim
theorem K5{m:List Addr}{H:Hp}{d:D}{x:V}(r:Rp m H d x)(f:p7 d=true):K6 x=true:=by
 cases d<;>first|(cases r;rfl)|(simp[p7] at f)
theorem F6{m:List Addr}{H:Hp}:∀{l:List D} {vs:List V},Rps m H l vs->l.all p7=true->vs.all K6=true
 |[],vs,h,_=>by rw[show vs=[] from h];rfl
 |d::r,vs,⟨v,t,e,q1,q2⟩,f=>by
  subst e;rw[List.all_cons,Bool.and_eq_true] at f⊢;exact⟨K5 q1 f.1,F6 q2 f.2⟩
theorem a4z{m:List Addr}{H:Hp}{d e:D}{x y:V}(r1:Rp m H d x)(r2:Rp m H e y)(f1:p7 d=true)(f2:p7 e=true):eqF d e=eqV x y:=by
 cases d<;>first|(simp[p7] at f1;done)|(cases e<;>first|(simp[p7] at f2;done)|(cases r1;cases r2;rfl))
theorem Y0{m:List Addr}{H:Hp}{d:D}{x:V}(r:Rp m H d x)(f:p7 d=true):∀{l:List D} {vs:List V},Rps m H l vs->l.all p7=true->inD d l=inV x vs
 |[],vs,h,_=>by rw[show vs=[] from h];rfl
 |e::t,vs,⟨v,u,ev,q1,q2⟩,fl=>by
  subst ev;rw[List.all_cons,Bool.and_eq_true] at fl;have ih:=Y0 r f q2 fl.2;unfold inD inV at ih⊢;rw[List.any_cons,List.any_cons,a4z q1 r fl.1 f,ih]
theorem a7q{m:List Addr}{H:Hp}:∀{xs ys:List D} {vs ws:List V},Rps m H xs vs->Rps m H ys ws->xs.all p7=true->ys.all p7=true->b0x xs ys=a0A vs ws
 |[],[],vs,ws,h1,h2,_,_=>by rw[show vs=[] from h1,show ws=[] from h2];rfl
 |[],y::ys,vs,ws,h1,⟨v,t,e,_,_⟩,_,_=>by rw[show vs=[] from h1,e];rfl
 |x::xs,[],vs,ws,⟨v,t,e,_,_⟩,h2,_,_=>by rw[show ws=[] from h2,e];rfl
 |x::xs,y::ys,vs,ws,⟨v,t,e,q1,q2⟩,⟨v',t',e',q1',q2'⟩,f,f'=>by
  subst e e';rw[List.all_cons,Bool.and_eq_true] at f f';rw[b0x,a0A,a4z q1 q1' f.1 f'.1,a7q q2 q2' f.2 f'.2]
theorem a7p{ah:AH}{m:List Addr}{H:Hp}{d e:D}{x y:V}{c:Bool}(s:Sim Γ ah m H)(r1:Rp m H d x)(r2:Rp m H e y)(h:a4y ah d e=some c):∃a b xs ys,x=.ref a/\y=.ref b/\SqL Γ.K H a xs/\SqL Γ.K H b ys/\xs.all K6=true/\ys.all K6=true/\a0A xs ys=c:=by
 unfold a4y at h
 split at h
 · split at h
   · rename_i xs ys e1 e2
     split at h
     · rename_i hf;cases h;rw[Bool.and_eq_true] at hf;obtain⟨a,vs,rfl,_,h1,q1⟩:=s.rdL e1 r1;obtain⟨b,ws,rfl,_,h2,q2⟩:=s.rdL e2 r2;exact⟨a,b,vs,ws,rfl,rfl,h1,h2,F6 q1 hf.1,F6 q2 hf.2,(a7q q1 q2 hf.1 hf.2).symm⟩
     · cases h
   · cases h
 · cases h
theorem b0y{d:D}(h:p7 d=true):eqF d d=true:=by cases d<;>simp_all [p7,eqF]
theorem hu1{n:Nat}(h:n+8<cLine):n+1<cLine:=Nat.lt_of_le_of_lt (by omega) h
theorem a7n{A:Around}{s:Shared}{m:List Addr}{H:Hp}{d:D}{v u:V}{v' u':Value}(f:p7 d=true)(r1:Rp m H d v)(r2:Rp m H d u)(rv:n4 v v')(ru:n4 u u'):SeqAt.EqAt A s v' u' true:=by
 have:=a6x (A:=A) (s:=s) rv ru (K5 r1 f) (K5 r2 f)
 rw[←a4z r1 r2 f f,b0y f] at this;exact this
theorem a2x{A:Around}{s:Shared}{m:List Addr}{H:Hp}{l:List D}{vs us:List V}{its its2:List Value}(r1:Rps m H l vs)(r2:Rps m H l us)(ra:n8 vs its)(rb:n8 us its2)(k:∀d∈l,∀v u v' u',Rp m H d v->Rp m H d u->n4 v v'->n4 u u'->SeqAt.EqAt A s v' u' true):
 its.toArray.size=its2.toArray.size/\∀j (h1:j<its.toArray.size) (h2:j<its2.toArray.size),SeqAt.EqAt A s its.toArray[j] its2.toArray[j] true:=by
 have e1:=ra.length;have e2:=rb.length;have e3:=r1.len;have e4:=r2.len;refine⟨by simp only[List.size_toArray];omega,fun j h1 h2=>?_⟩
 simp only[List.size_toArray] at h1 h2
 have hj:j<l.length:=by omega
 obtain⟨v,g1,p1⟩:=r1.get (List.getElem?_eq_getElem hj)
 obtain⟨u,g2,p2⟩:=r2.get (List.getElem?_eq_getElem hj)
 obtain⟨v',g3,p3⟩:=ra.get g1;obtain⟨u',g4,p4⟩:=rb.get g2
 have:=k l[j] (List.getElem_mem hj) v u v' u' p1 p2 p3 p4
 rw[List.getElem?_eq_getElem h1] at g3
 rw[List.getElem?_eq_getElem h2] at g4
 cases g3;cases g4
 simpa using this
theorem a4A{pins:List (Addr×Obj)}{σ:St}{H:Hp}{s:Shared}(I:Inv X pins σ H s){m:List Addr}:∀(n:Nat) (A:Around) (d:D) (v u:V) (v' u':Value),dp n d=true->A.units+n<cLine->Rp m H d v->Rp m H d u->n4 v v'->n4 u u'->SeqAt.EqAt A s v' u' true
 |0,A,d,v,u,v',u',f,_,r1,r2,rv,ru=>a7n f r1 r2 rv ru
 |n+1,A,d,v,u,v',u',f,hu,r1,r2,rv,ru=>by
  unfold dp at f
  split at f
  · rename_i l;obtain⟨a,vs,rfl,ha,rs⟩:=r1;obtain⟨b,us,rfl,hb,rt⟩:=r2;cases rv;cases ru
    by_cases hab:a=b
    · subst hab;exact SeqAt.EqAt.same _
    obtain⟨_,its,ra,pa⟩:=I.hok a _ ha;obtain⟨_,its2,rb,pb⟩:=I.hok b _ hb;obtain⟨sz,el⟩:=a2x (A:=A.in1) (s:=s) rs rt ra rb fun d hd v u v' u' p1 p2 p3 p4=>a4A I n A.in1 d v u v' u' (List.all_eq_true.mp f d hd) (by show A.units+1+n<cLine;omega) p1 p2 p3 p4
    have:=SeqAt.RcAt.tuples (A:=A) (s:=s) (e:=fun _=>true) (show s.heap.IsTuple a its.toArray from pa.tup) (show s.heap.IsTuple b its2.toArray from pb.tup) (by omega) el
    rw[show((List.range (min its.toArray.size its2.toArray.size)).all (fun _=>true)&&its.toArray.size==its2.toArray.size)=true by rw[sz];simp] at this
    exact SeqAt.EqAt.of_refs hab this
  · exact a7n f r1 r2 rv ru
def b6R(K:PySem.W.Frag):R2:=fun x y H Q=>∃a b m xs vs ws,x=.ref a/\y=.ref b/\SqL K H a vs/\SqL K H b ws/\Rps m H xs vs/\Rps m H xs ws/\xs.all (dp 3)=true/\Q (.bl true) H
theorem b4F(hu:X.A.units+8<cLine):OpR X (compareOp .Eq) (b6R X.K):=by
 intro pins s σ H x y v u Q I rx ry h;obtain⟨a,b,m,xs,vs,ws,rfl,rfl,s1,s2,r1,r2,f,q⟩:=h;cases rx;cases ry;obtain⟨its,ra,pl,_⟩:=I.list s1;obtain⟨its2,rb,pl2,_⟩:=I.list s2;obtain⟨sz,el⟩:=a2x (A:=X.A.in1) (s:=s) r1 r2 ra rb fun d hd v u v' u' p1 p2 p3 p4=>a4A I 3 X.A.in1 d v u v' u' (List.all_eq_true.mp f d hd) (by show X.A.units+1+3<cLine;omega) p1 p2 p3 p4
 refine SeqAt.eq_listAt (e:=fun _=>true) pl.isList pl2.isList sz (by omega) el ⟨.bl _,H,I,rfl,?_⟩
 rw[show(List.range its.toArray.size).all (fun _=>true)=true by simp]
 exact q
theorem b9E(hu:X.A.units+8<cLine)(hK:X.K=Γ.K):OpR X (compareOp .Eq) (rOf Γ E G0):=by
 refine OpR.imp ((b7e.or (b4E (X:=X) (by omega))).or (b4F hu)) ?_
 rintro x y H Q ⟨d1,d2,ah,m,s,r1,r2,q⟩;unfold G0 at q
 split at q
 · rename_i c e;obtain⟨h1,h2⟩:=b0w e r1 r2;exact .inl (.inl ⟨h1,by rw[←h2];exact q.ok s rfl⟩)
 · split at q
   · rename_i c e;obtain⟨a,b,xs,ys,e1,e2,s1,s2,f1,f2,z⟩:=a7p s r1 r2 e;exact .inl (.inr ⟨a,b,xs,ys,e1,e2,by rw[hK];exact s1,by rw[hK];exact s2,f1,f2,by rw[z];exact q.ok s rfl⟩)
   · split at q
     · rename_i hd;unfold a3v at hd
       split at hd
       · split at hd
         · rename_i xs ys e1 e2;rw[Bool.and_eq_true] at hd;obtain⟨a,vs,rfl,_,h1,q1⟩:=s.rdL e1 r1;obtain⟨b,ws,rfl,_,h2,q2⟩:=s.rdL e2 r2
           cases of_decide_eq_true hd.1
           exact .inr ⟨a,b,m,xs,vs,ws,rfl,rfl,by rw[hK];exact h1,by rw[hK];exact h2,q1,q2,hd.2,q.ok s rfl⟩
         · cases hd
       · cases hd
     · exact q.elim
def b3Y(K:PySem.W.Frag):R2:=fun x y H Q=>∃a b m xs vs ws,x=.ref a/\y=.ref b/\SqL K H a vs/\SqL K H b ws/\Rps m H xs vs/\Rps m H xs ws/\xs.all (dp 3)=true/\Q (.bl false) H
theorem b4A(hu:X.A.units+8<cLine):OpR X (compareOp .NotEq) (b3Y X.K):=by
 intro pins s σ H x y v u Q I rx ry h;obtain⟨a,b,m,xs,vs,ws,rfl,rfl,s1,s2,r1,r2,f,q⟩:=h;cases rx;cases ry;obtain⟨its,ra,pl,_⟩:=I.list s1;obtain⟨its2,rb,pl2,_⟩:=I.list s2;obtain⟨sz,el⟩:=a2x (A:=X.A.in1) (s:=s) r1 r2 ra rb fun d hd v u v' u' p1 p2 p3 p4=>a4A I 3 X.A.in1 d v u v' u' (List.all_eq_true.mp f d hd) (by show X.A.units+1+3<cLine;omega) p1 p2 p3 p4
 refine SeqAt.RcNeAt.lists (e:=fun _=>true) pl.isList pl2.isList sz (by omega) el X.prog X.w _ _ ⟨.bl _,H,I,rfl,?_⟩
 rw[show(List.range its.toArray.size).all (fun _=>true)=true by simp]
 exact q
theorem b9C(hu:X.A.units+8<cLine)(hK:X.K=Γ.K):OpR X (compareOp .NotEq) (rOf Γ E a0v):=by
 refine OpR.imp ((b6Z.or (b4z (X:=X) (by omega))).or (b4A hu)) ?_
 rintro x y H Q ⟨d1,d2,ah,m,s,r1,r2,q⟩;unfold a0v at q
 split at q
 · rename_i c e;obtain⟨h1,h2⟩:=b0w e r1 r2;exact .inl (.inl ⟨h1,by rw[←h2];exact q.ok s rfl⟩)
 · split at q
   · rename_i c e;obtain⟨a,b,xs,ys,e1,e2,s1,s2,f1,f2,z⟩:=a7p s r1 r2 e;exact .inl (.inr ⟨a,b,xs,ys,e1,e2,by rw[hK];exact s1,by rw[hK];exact s2,f1,f2,by rw[z];exact q.ok s rfl⟩)
   · split at q
     · rename_i hd;unfold a3v at hd
       split at hd
       · split at hd
         · rename_i xs ys e1 e2;rw[Bool.and_eq_true] at hd;obtain⟨a,vs,rfl,_,h1,q1⟩:=s.rdL e1 r1;obtain⟨b,ws,rfl,_,h2,q2⟩:=s.rdL e2 r2
           cases of_decide_eq_true hd.1
           exact .inr ⟨a,b,m,xs,vs,ws,rfl,rfl,by rw[hK];exact h1,by rw[hK];exact h2,q1,q2,hd.2,q.ok s rfl⟩
         · cases hd
       · cases hd
     · exact q.elim
theorem b3V{pins:List (Addr×Obj)}{σ:St}{H:Hp}{s:Shared}{a:Addr}(I:Inv X pins σ H s)(h:H a=some (.dK [])):Inv X pins σ (upd H a (.dT [])) s:=by
 obtain⟨z,hd,vs,rel,o,es,ep,ho,hx,hdt,hes,hp,hh⟩:=I.hok a _ h;cases rel
 have e0:es.toList=[]:=by cases q:es.toList with
  |nil=>rfl
  |cons x r=>rw[q] at hp;cases hp
 exact I.write (x:=a) (e:=a) (h':=s.heap) (t':=s.toks) (by rw[h];trivial) (.inl rfl) (fun b u _ q=>q) ⟨o,ho⟩ ⟨z,hd,[],.nil,o,es,ep,ho,hx,hdt,e0,List.nodup_nil⟩
theorem b3W{pins:List (Addr×Obj)}{σ:St}{H:Hp}{s:Shared}{a:Addr}(I:Inv X pins σ H s)(h:H a=some (.dT [])):Inv X pins σ (upd H a (.dK [])) s:=by
 obtain⟨z,hd,xs,rel,o,es,ep,ho,hx,hdt,hes,hh⟩:=I.hok a _ h;cases rel
 have e0:es= #[]:=Array.toList_inj.mp hes
 subst e0;refine I.write (x:=a) (e:=a) (h':=s.heap) (t':=s.toks) (by rw[h];trivial) (.inl rfl) (fun b u _ q=>q) ⟨o,ho⟩ ⟨z,hd,[],.nil,o,#[],ep,ho,hx,hdt,fun e he=>?_,.nil,List.nodup_nil⟩
 simp at he
theorem Z6{m:List Addr}{H:Hp}{d:D}{v:V}{k:Key}(e:K0 d=some k)(r:Rp m H d v):v=kV k:=by
 cases d<;>simp only[K0] at e<;>first|(cases e;done)|(cases e;cases r;rfl)
theorem a2t{m:List Addr}{H:Hp}:∀{l:List D} {vs:List V} {ks:List Key},F0 l=some ks->Rps m H l vs->vs=ks.map kV
 |[],vs,ks,e,h=>by cases e;exact h
 |d::r,vs,ks,e,⟨v,t,ev,q1,q2⟩=>by
  subst ev;unfold F0 at e
  split at e
  · rename_i k ks' e1 e2;cases e;rw[List.map_cons,Z6 e1 q1,a2t e2 q2]
  · cases e
theorem X4{a b:D}{k:Key}(h1:K0 a=some k)(h2:K0 b=some k):a=b:=by
 cases a<;>simp only[K0] at h1<;>first|(cases h1;done)|(cases h1;cases b<;>simp only[K0] at h2<;>first|(cases h2;done)|(cases h2;rfl))
theorem a1g:∀{a b:List D} {k:List Key},F0 a=some k->F0 b=some k->a=b
 |[],[],_,_,_=>rfl
 |[],y::ys,k,h1,h2=>by
  cases h1;unfold F0 at h2
  split at h2<;>cases h2
 |x::xs,[],k,h1,h2=>by
  cases h2;unfold F0 at h1
  split at h1<;>cases h1
 |x::xs,y::ys,k,h1,h2=>by
  unfold F0 at h1 h2
  split at h1
  · rename_i k1 ks1 e1 e2;cases h1
    split at h2
    · rename_i k2 ks2 e3 e4;cases h2;rw[X4 e1 e3,a1g e2 e4]
    · cases h2
  · cases h1
theorem a4i{d:D}(h:J0 d=some false):∃k,K0 d=some k:=by
 cases d<;>simp only[J0] at h<;>first|(cases h;done)|exact⟨_,rfl⟩|(split at h<;>cases h)
theorem a2u{d:D}(h:J0 d=some true):∃l ks,d=.tup l/\F0 l=some ks:=by
 cases d<;>simp only[J0] at h<;>first|(cases h;done)|skip
 rename_i l
 split at h
 · rename_i e;obtain⟨ks,hk⟩:=Option.isSome_iff_exists.mp e;exact⟨l,ks,rfl,hk⟩
 · cases h
theorem DK.val{m:List Addr}{H:Hp}{l:List (D×D)}{kvs:List (Key×V)}(r:DK m H l kvs){d:D}{k:Key}(e:K0 d=some k):
 (∀c,o5 l d=some c->∃v,T7 kvs k=some v/\Rp m H c v)/\(o5 l d=none->T7 kvs k=none):=by
 induction r with
 |nil=>exact⟨fun c h=>(by cases h),fun _=>rfl⟩
 | @cons p q ps qs h t ih=>
  by_cases z:p.1=d
  · have z':q.1=k:=by have:=h.1;rw[z,e] at this;exact(Option.some.inj this).symm
    rw[W4 z',show o5 (p::ps) d=some p.2 from by simp[o5,List.find?_cons,z]]
    exact⟨fun c hc=>by cases hc;exact⟨q.2,rfl,h.2⟩,fun hc=>by cases hc⟩
  · have z':¬q.1=k:=fun y=>z (X4 (by rw[h.1,y]) e)
    rw[W5 z',show o5 (p::ps) d=o5 ps d from by simp[o5,List.find?_cons,z]]
    exact ih
theorem DT.val{m:List Addr}{H:Hp}{l:List (D×D)}{kvs:List (List Key×V)}(r:DT m H l kvs){d:List D}{k:List Key}(e:F0 d=some k):
 (∀c,o5 l (.tup d)=some c->∃v,T7 kvs k=some v/\Rp m H c v)/\(o5 l (.tup d)=none->T7 kvs k=none):=by
 induction r with
 |nil=>exact⟨fun c h=>(by cases h),fun _=>rfl⟩
 | @cons p q ps qs h t ih=>
  obtain⟨⟨l',e1,e2⟩,h2⟩:=h
  by_cases z:p.1=.tup d
  · have z':q.1=k:=by rw[e1] at z;injection z with z;rw[z,e] at e2;exact(Option.some.inj e2).symm
    rw[W4 z',show o5 (p::ps) (.tup d)=some p.2 from by simp[o5,List.find?_cons,z]]
    exact⟨fun c hc=>by cases hc;exact⟨q.2,rfl,h2⟩,fun hc=>by cases hc⟩
  · have z':¬q.1=k:=fun y=>z (e1.trans (congrArg D.tup (a1g (e2.trans (congrArg some y)) e)))
    rw[W5 z',show o5 (p::ps) (.tup d)=o5 ps (.tup d) from by simp[o5,List.find?_cons,z]]
    exact ih
theorem DK.put {m:List Addr} {H:Hp} {l:List (D×D)} {kvs:List (Key×V)} (r:DK m H l kvs) {d c:D} {k:Key} {v:V} (e:K0 d=some k) (rv:Rp m H c v):DK m H (a0N l d c) (M8 kvs k v):=by
 have any:(l.any fun p=>decide (p.1=d))=kvs.any fun p=>decide (p.1=k):=by
  induction r with
  |nil=>rfl
  | @cons p q ps qs h t ih=>
   rw[List.any_cons,List.any_cons,ih];congr 1;refine decide_eq_decide.mpr ⟨fun(z:p.1=d)=>?_,fun(z:q.1=k)=>X4 (by rw[h.1,z]) e⟩
   have:=h.1;rw[z,e] at this;exact(Option.some.inj this).symm
 unfold a0N M8;rw[any]
 split
 · clear any
   induction r with
   |nil=>exact .nil
   | @cons p q ps qs h t ih=>
    rename_i hh;rw[List.map_cons,List.map_cons];refine .cons ?_ ?_
    · by_cases z:p.1=d
      · have z':q.1=k:=by have:=h.1;rw[z,e] at this;exact(Option.some.inj this).symm
        rw[if_pos z,if_pos z'];exact⟨h.1,rv⟩
      · have z':¬q.1=k:=fun y=>z (X4 (by rw[h.1,y]) e)
        rw[if_neg z,if_neg z'];exact h
    · clear hh ih h
      induction t with
      |nil=>exact .nil
      | @cons p q ps qs h t ih=>
       rw[List.map_cons,List.map_cons];refine .cons ?_ ih
       by_cases z:p.1=d
       · have z':q.1=k:=by have:=h.1;rw[z,e] at this;exact(Option.some.inj this).symm
         rw[if_pos z,if_pos z'];exact⟨h.1,rv⟩
       · have z':¬q.1=k:=fun y=>z (X4 (by rw[h.1,y]) e)
         rw[if_neg z,if_neg z'];exact h
 · exact Paired.snoc r ⟨e,rv⟩
theorem DT.put{m:List Addr}{H:Hp}{l:List (D×D)}{kvs:List (List Key×V)}(r:DT m H l kvs){d:List D}{c:D}{k:List Key}{v:V}(e:F0 d=some k)(rv:Rp m H c v):DT m H (a0N l (.tup d) c) (M8 kvs k v):=by
 have one:∀{p:D×D} {q:List Key×V},(∃l,p.1=.tup l/\F0 l=some q.1)->(p.1=.tup d↔q.1=k):=by
  rintro p q ⟨l',e1,e2⟩;refine⟨fun(z:p.1=.tup d)=>?_,fun(z:q.1=k)=>e1.trans (congrArg D.tup (a1g (e2.trans (congrArg some z)) e))⟩
  rw[e1] at z;injection z with z;rw[z,e] at e2;exact(Option.some.inj e2).symm
 have any:(l.any fun p=>decide (p.1=.tup d))=kvs.any fun p=>decide (p.1=k):=by
  induction r with
  |nil=>rfl
  | @cons p q ps qs h t ih=>
   rw[List.any_cons,List.any_cons,ih];congr 1;exact decide_eq_decide.mpr (one h.1)
 unfold a0N M8;rw[any]
 split
 · have go:∀{l:List (D×D)} {kvs:List (List Key×V)},DT m H l kvs->DT m H (l.map fun p=>if p.1=.tup d then(p.1,c) else p) (kvs.map fun p=>if p.1=k then(p.1,v) else p):=by
    intro l kvs r
    induction r with
    |nil=>exact .nil
    | @cons p q ps qs h t ih=>
     rw[List.map_cons,List.map_cons];refine .cons ?_ ih
     by_cases z:p.1=.tup d
     · rw[if_pos z,if_pos ((one h.1).mp z)];exact⟨h.1,rv⟩
     · rw[if_neg z,if_neg fun y=>z ((one h.1).mpr y)];exact h
   exact go r
 · exact Paired.snoc r ⟨⟨d,rfl,e⟩,rv⟩
theorem Q1{pins:List (Addr×Obj)}{σ:St}{H:Hp}{s:Shared}{ah:AH}{m:List Addr}{n:Nat}{kvs:List (D×D)}{k:D}(I:Inv X pins σ H s)(S:Sim Γ ah m H)(e:ah[n]? =some (.dict kvs))(ok:E9 k kvs=true){a:Addr}(hm:m[n]? =some a):
 ∃H',Inv X pins σ H' s/\Keep m m H H'/\Sim Γ ah m H'/\((∃ks gs,K0 k=some ks/\H' a=some (.dK gs)/\DK m H' kvs gs)∨∃l ks gs,k=.tup l/\F0 l=some ks/\H' a=some (.dT gs)/\DT m H' kvs gs):=by
 unfold E9 at ok;rw[Bool.and_eq_true] at ok;obtain⟨ok1,ok2⟩:=ok;obtain⟨b,hb⟩:=Option.isSome_iff_exists.mp ok1
 rcases S.at hm e with⟨gs,h1,h2⟩|⟨gs,h1,h2⟩
 · cases b with
   |false=>
    obtain⟨ks,hk⟩:=a4i hb;exact⟨H,I,Keep.refl m H,S,.inl ⟨ks,gs,hk,h1,h2⟩⟩
   | true=>
    obtain⟨l,ks,rfl,hk⟩:=a2u hb
    cases h2 with
    |nil=>
     have kp:Keep m m H (upd H a (.dT [])):=Keep.put hm h1 fun z=>z
     have S':=S.write (o':=.dT []) (c:=.dict []) hm h1 (fun z=>z) (.inr ⟨[],g9,.nil⟩)
     rw[show ah.set n (.dict [])=ah from a5c e] at S';exact⟨_,b3V I h1,kp,S',.inr ⟨l,ks,[],rfl,hk,g9,.nil⟩⟩
    | @cons p q ps qs h t=>
     rw[List.all_cons,Bool.and_eq_true,hb] at ok2
     exfalso
     have:=eq_of_beq ok2.1
     obtain⟨l',ks',e1,_⟩:=a2u this;have h1:=h.1;rw[e1] at h1;cases h1
 · cases b with
   |true=>
    obtain⟨l,ks,rfl,hk⟩:=a2u hb;exact⟨H,I,Keep.refl m H,S,.inr ⟨l,ks,gs,rfl,hk,h1,h2⟩⟩
   | false=>
    obtain⟨ks,hk⟩:=a4i hb
    cases h2 with
    |nil=>
     have kp:Keep m m H (upd H a (.dK [])):=Keep.put hm h1 fun z=>z
     have S':=S.write (o':=.dK []) (c:=.dict []) hm h1 (fun z=>z) (.inl ⟨[],g9,.nil⟩)
     rw[show ah.set n (.dict [])=ah from a5c e] at S';exact⟨_,b3W I h1,kp,S',.inl ⟨ks,[],hk,g9,.nil⟩⟩
    | @cons p q ps qs h t=>
     rw[List.all_cons,Bool.and_eq_true,hb] at ok2
     exfalso
     have:=eq_of_beq ok2.1
     obtain⟨ks',hk'⟩:=a4i this;obtain⟨⟨l',e1,_⟩,_⟩:=h;rw[e1] at hk';cases hk'
end
end EV
namespace EV
open PySem PySem.Spec L2
open PyProof.Rows hiding St
section
variable{X:Cx}{Γ:Gm}{E:XK}
theorem a2H(b:Bool):(b !=false)=b:=by cases b<;>rfl
theorem a2G(b:Bool):(b !=true)=!b:=by cases b<;>rfl
theorem DK.some_eq{m:List Addr}{H:Hp}{l:List (D×D)}{kvs:List (Key×V)}(r:DK m H l kvs){d:D}{k:Key}(e:K0 d=some k):(o5 l d).isSome=(T7 kvs k).isSome:=by
 obtain⟨h1,h2⟩:=r.val e
 cases q:o5 l d with
 |none=>rw[h2 q];rfl
 |some c=>obtain⟨v,hv,_⟩:=h1 c q;rw[hv];rfl
theorem DT.some_eq{m:List Addr}{H:Hp}{l:List (D×D)}{kvs:List (List Key×V)}(r:DT m H l kvs){d:List D}{k:List Key}(e:F0 d=some k):(o5 l (.tup d)).isSome=(T7 kvs k).isSome:=by
 obtain⟨h1,h2⟩:=r.val e
 cases q:o5 l (.tup d) with
 |none=>rw[h2 q];rfl
 |some c=>obtain⟨v,hv,_⟩:=h1 c q;rw[hv];rfl
theorem a0U{m:List Addr}{H H':Hp}{kvs:List (D×D)}{k:D}{x:V}{a:Addr}(kp:Keep m m H H')(r:Rp m H k x)
 (h:(∃ks gs,K0 k=some ks/\H' a=some (.dK gs)/\DK m H' kvs gs)∨∃l ks gs,k=.tup l/\F0 l=some ks/\H' a=some (.dT gs)/\DT m H' kvs gs):
 ∃o,a6H H' a x o/\(o5 kvs k).isSome=o.isSome/\∀c,o5 kvs k=some c->∃v,o=some v/\Rp m H' c v:=by
 rcases h with⟨ks,gs,hk,ha,dk⟩|⟨l,ks,gs,rfl,hk,ha,dt⟩
 · obtain⟨h1,h2⟩:=dk.val hk;exact⟨T7 gs ks,.inl ⟨gs,ks,.inl ha,Z6 hk r,rfl⟩,dk.some_eq hk,fun c hc=>h1 c hc⟩
 · obtain⟨h1,h2⟩:=dt.val hk;obtain⟨b,vs,rfl,hb,rs⟩:=r;have hv:=a2t hk rs;subst hv;exact⟨T7 gs ks,.inr ⟨gs,ks,b,.inl ha,rfl,kp.tup hb,rfl⟩,dt.some_eq hk,fun c hc=>h1 c hc⟩
theorem b9D(hu:X.A.units+8<cLine)(hK:X.K=Γ.K):OpR X (compareOp .In) (rOf Γ E (U9 false)):=by
 rintro pins s σ H x y v u Q I rx ry ⟨d1,d2,ah,m,S,r1,r2,q⟩;unfold U9 at q
 split at q
 · cases r1;cases r2
   rw[a2H] at q;exact a7U pins s σ H _ _ v u Q I rx ry ⟨_,_,rfl,rfl,q.ok S rfl⟩
 · split at q
   · rename_i h;rw[Bool.and_eq_true] at h;obtain⟨a,vs,rfl,h1,q1⟩:=r2;refine Z4 pins s σ H _ _ v u Q I rx ry ⟨a,vs,rfl,.inr (.inl (.inl h1)),K5 r1 h.1,F6 q1 h.2,?_⟩
     rw[a2H,Y0 r1 h.1 q1 h.2] at q;exact q.ok S rfl
   · exact q.elim
 · split at q
   · rename_i xs e
     split at q
     · rename_i h;rw[Bool.and_eq_true] at h;obtain⟨a,vs,rfl,_,h1,q1⟩:=S.lst e r2;refine Z4 pins s σ H _ _ v u Q I rx ry ⟨a,vs,rfl,.inl (.inl (.inl h1)),K5 r1 h.1,F6 q1 h.2,?_⟩
       rw[a2H,Y0 r1 h.1 q1 h.2] at q;exact q.ok S rfl
     · exact q.elim
   · rename_i xs e
     split at q
     · rename_i h;rw[Bool.and_eq_true] at h;obtain⟨a,vs,rfl,_,h1,q1⟩:=S.rdL (l:=xs) (by unfold rdL;rw[e]) r2
       refine Z4 pins s σ H _ _ v u Q I rx ry ⟨a,vs,rfl,.inl (by rw[hK];exact h1),K5 r1 h.1,F6 q1 h.2,?_⟩
       rw[a2H,Y0 r1 h.1 q1 h.2] at q;exact q.ok S rfl
     · exact q.elim
   · rename_i kvs e
     split at q
     · rename_i h;obtain⟨a,rfl,hm⟩:=r2;obtain⟨H',I',kp,S',hd⟩:=Q1 I S e h hm;obtain⟨o,g,h1,_⟩:=a0U kp r1 hd
       cases (show u=Value.ref a from ry)
       refine b9G (hu1 hu) I' g rx fun s' I''=>⟨.bl o.isSome,H',I'',rfl,?_⟩
       rw[a2H,h1] at q;exact q m H' _ (Pre.refl m) kp S' rfl
     · exact q.elim
   · exact q.elim
 · exact q.elim
theorem b2Y(hu:X.A.units+8<cLine)(hK:X.K=Γ.K):OpR X (compareOp .NotIn) (rOf Γ E (U9 true)):=by
 rintro pins s σ H x y v u Q I rx ry ⟨d1,d2,ah,m,S,r1,r2,q⟩;unfold U9 at q
 split at q
 · cases r1;cases r2
   rw[a2G] at q;exact a3X pins s σ H _ _ v u Q I rx ry ⟨_,_,rfl,rfl,q.ok S rfl⟩
 · split at q
   · rename_i h;rw[Bool.and_eq_true] at h;obtain⟨a,vs,rfl,h1,q1⟩:=r2;refine N4 pins s σ H _ _ v u Q I rx ry ⟨a,vs,rfl,.inr (.inl (.inl h1)),K5 r1 h.1,F6 q1 h.2,?_⟩
     rw[a2G,Y0 r1 h.1 q1 h.2] at q;exact q.ok S rfl
   · exact q.elim
 · split at q
   · rename_i xs e
     split at q
     · rename_i h;rw[Bool.and_eq_true] at h;obtain⟨a,vs,rfl,_,h1,q1⟩:=S.lst e r2;refine N4 pins s σ H _ _ v u Q I rx ry ⟨a,vs,rfl,.inl (.inl (.inl h1)),K5 r1 h.1,F6 q1 h.2,?_⟩
       rw[a2G,Y0 r1 h.1 q1 h.2] at q;exact q.ok S rfl
     · exact q.elim
   · rename_i xs e
     split at q
     · rename_i h;rw[Bool.and_eq_true] at h;obtain⟨a,vs,rfl,_,h1,q1⟩:=S.rdL (l:=xs) (by unfold rdL;rw[e]) r2
       refine N4 pins s σ H _ _ v u Q I rx ry ⟨a,vs,rfl,.inl (by rw[hK];exact h1),K5 r1 h.1,F6 q1 h.2,?_⟩
       rw[a2G,Y0 r1 h.1 q1 h.2] at q;exact q.ok S rfl
     · exact q.elim
   · rename_i kvs e
     split at q
     · rename_i h;obtain⟨a,rfl,hm⟩:=r2;obtain⟨H',I',kp,S',hd⟩:=Q1 I S e h hm;obtain⟨o,g,h1,_⟩:=a0U kp r1 hd
       cases (show u=Value.ref a from ry)
       refine b3c (hu1 hu) I' g rx fun s' I''=>⟨.bl (!o.isSome),H',I'',rfl,?_⟩
       rw[a2G,h1] at q;exact q m H' _ (Pre.refl m) kp S' rfl
     · exact q.elim
   · exact q.elim
 · exact q.elim
def B.cmp:B->Option CmpOp
 |.eq=>some .Eq|.ne=>some .NotEq|.lt=>some .Lt|.le=>some .LtE|.gt=>some .Gt|.ge=>some .GtE|.isin=>some .In|.notin=>some .NotIn
 |_=>none
def B.bin:B->Option Operator
 |.add=>some .Add|.sub=>some .Sub|.mul=>some .Mult|.div=>some .FloorDiv|.mod=>some .Mod
 |_=>none
theorem b7X{o:B}{op:Operator}(h:o.bin=some op):OpR X (binaryOp op) (rOf Γ E (op2 o)):=by
 cases o<;>cases h
 · exact b7Y
 · exact b7R
 · exact b7S
 · exact b7W
 · exact b7T
theorem a1k(hu:X.A.units+8<cLine)(hK:X.K=Γ.K){o:B}{op:CmpOp}(h:o.cmp=some op):OpR X (compareOp op) (rOf Γ E (op2 o)):=by
 cases o<;>cases h
 · exact b9E hu hK
 · exact b9C hu hK
 · exact a7r b7a
 · exact a7r b7b
 · exact a7r b7c
 · exact a7r b7d
 · exact b9D hu hK
 · exact b2Y hu hK
theorem b7U (hu:X.A.units+8<cLine) (hK:X.K=Γ.K):IxR X (rOf Γ E ixD):=by
  rintro value slice pins s σ H x y v u Q I rx ry ⟨d1,d2,ah,m,S,r1,r2,q⟩ hs;unfold ixD at q
  split at q
  · split at q
    · rename_i d e;obtain⟨a,vs,rfl,h1,q1⟩:=r1;cases r2;obtain⟨w,hw,rw'⟩:=q1.at e;exact ix_tup value slice pins s σ H _ _ v u Q I rx ry ⟨a,vs,_,w,rfl,rfl,.inl (.inl h1),hw,q.ok S rw'⟩ hs
    · exact q.elim
  · split at q
    · rename_i hl
      split at q
      · rename_i c e
        cases r1;cases r2
        exact ix_str value slice pins s σ H _ _ v u Q I rx ry ⟨_,_,c,rfl,rfl,by rw[←Q3];exact hl,e,q.ok S rfl⟩ hs
      · exact q.elim
    · exact q.elim
  · split at q
    · rename_i xs e
      split at q
      · split at q
        · rename_i d e2;obtain⟨a,vs,rfl,_,h1,q1⟩:=S.lst e r1;cases r2;obtain⟨w,hw,rw'⟩:=q1.at e2;exact a7e value slice pins s σ H _ _ v u Q I rx ry ⟨a,vs,_,w,rfl,rfl,.inl (.inl h1),hw,q.ok S rw'⟩ hs
        · exact q.elim
      · exact q.elim
    · rename_i xs e
      split at q
      · split at q
        · rename_i d e2;obtain⟨a,vs,rfl,_,h1,q1⟩:=S.rdL (l:=xs) (by unfold rdL;rw[e]) r1
          cases r2;obtain⟨w,hw,rw'⟩:=q1.at e2;exact a7e value slice pins s σ H _ _ v u Q I rx ry ⟨a,vs,_,w,rfl,rfl,by rw[hK];exact h1,hw,q.ok S rw'⟩ hs
        · exact q.elim
      · exact q.elim
    · rename_i kvs e
      split at q
      · rename_i h
        split at q
        · rename_i d e2;obtain⟨a,rfl,hm⟩:=r1;obtain⟨H',I',kp,S',hd⟩:=Q1 I S e h hm;obtain⟨o,g,h1,h2⟩:=a0U kp r2 hd;obtain⟨w,hw,rw'⟩:=h2 d e2;subst hw
          cases (show v=Value.ref a from rx)
          refine ixd_tail (a5H I' g) hs ?_
          exact a8n (hu1 hu) I' g ry fun w' s' I'' r''=>⟨w,H',I'',r'',q m H' _ (Pre.refl m) kp S' rw'⟩
        · exact q.elim
      · exact q.elim
    · exact q.elim
  · exact q.elim
where
  ixd_tail {value slice:Expr} {v u:Value} {Q:Value->Shared->Prop} {s:Shared} (hT:s.TypeIs v "dict") (hs:subscripted slice false v u=operate [v,u] (getItem v u)) (h:wpAny (model X.prog X.w) X.A (getItem v u) Q X.xe s):
      wpAny (model X.prog X.w) X.A (subscriptTail value slice v u) Q X.xe s:=by
    unfold subscriptTail;refine wpAny_bind ?_
    rw[getitemInPython_of_ne hT.not_modules];refine wpAny_bind (wpAny_specialOf hT PySem.F.slot_dict_getitem.lookup ?_)
    have fin:wpAny (model X.prog X.w) X.A (subscripted slice false v u) (fun r s₃=>wpAny (model X.prog X.w) X.A (letTemporaryGo value v r>>=fun _=>pure r) Q X.xe s₃) X.xe s:=by
      rw[hs];exact wpAny_operating (wpAny_mono h (fun r s₃ h₃=>wpAny_bind (wpAny_letTemporaryGo (wpAny_pure h₃))) fun _ _ x=>x)
    first
      |exact wpAny_pure (wpAny_bind fin)
      |exact wpAny_bind (wpAny_pure (wpAny_bind fin))
      |exact wpAny_bind fin
theorem b9B(hK:X.K=Γ.K):SlR X (fun x lo hi H Q=>∃d ah m,Sim Γ ah m H/\Rp m H d x/\i6 Γ E m H (slD ah lo hi d) Q):=by
 rintro pins s σ H x v vl vu lo hi sl Q I rx hs pl pu ⟨d,ah,m,S,r,q⟩;unfold slD at q
 split at q
 · split at q
   · rename_i hl;cases r;exact b3S pins s σ H _ v vl vu lo hi sl Q I rx hs pl pu ⟨_,rfl,by rw[←Q3];exact hl,q.ok S rfl⟩
   · exact q.elim
 · split at q
   · rename_i xs e;obtain⟨a,vs,rfl,_,h1,q1⟩:=S.rdL e r;refine b1H pins s σ H _ v vl vu lo hi sl Q I rx hs pl pu ⟨a,vs,rfl,by rw[hK];exact h1,fun p hp=>q.newc S hp ⟨_,g9,(q1.cut lo hi).mono (Pre.snoc m p) (Keep.newc hp)⟩⟩
   · exact q.elim
 · exact q.elim
def rBi(Γ:Gm)(E:XK)(b:Bi):List V->Hp->VK->Prop:=fun xs H Q=>∃ds ah m,Sim Γ ah m H/\Rps m H ds xs/\i6 Γ E m H (biD b ah ds) Q
theorem T8{m:List Addr}{H:Hp}{d:D}{xs:List V}(h:Rps m H [d] xs):∃x,xs=[x]/\Rp m H d x:=by
 obtain⟨v,t,rfl,q,e⟩:=h;exact⟨v,by rw[show t=[] from e],q⟩
theorem b6L{m:List Addr}{H:Hp}{d e:D}{xs:List V}(h:Rps m H [d,e] xs):∃x y,xs=[x,y]/\Rp m H d x/\Rp m H e y:=by
 obtain⟨v,t,rfl,q,h2⟩:=h;obtain⟨y,rfl,q2⟩:=T8 h2;exact⟨v,y,rfl,q,q2⟩
theorem b8k(hK:X.K=Γ.K):D1 X (.builtin "len") (rBi Γ E .len):=by
 rintro pins s σ H xs us Q I r ⟨ds,ah,m,S,rs,q⟩;unfold biD at q
 split at q
 · obtain⟨x,rfl,r1⟩:=T8 rs;cases r1
   simp only at q
   split at q
   · rename_i hl;exact a4G pins s σ H _ us Q I r ⟨_,rfl,by rw[←Q3];exact hl,q.ok S rfl⟩
   · exact q.elim
 · obtain⟨x,rfl,a,vs,rfl,h1,q1⟩:=T8 rs;exact a0Y pins s σ H _ us Q I r ⟨a,vs,rfl,.inr (.inl (.inl h1)),by rw[q1.len];exact q.ok S rfl⟩
 · exact q.elim
 · exact q.elim
 · rename_i n;obtain⟨x,rfl,r1⟩:=T8 rs
   split at q
   · rename_i kvs e
     simp only at q
     split at q
     · rename_i h;obtain⟨a,rfl,hm⟩:=r1;obtain⟨H',I',kp,S',hd⟩:=Q1 I S e h hm
       rcases hd with⟨ks,gs,hk,ha,dk⟩|⟨l,ks,gs,e0,_⟩
       · obtain⟨u,rfl,ru⟩:=O8 r
         cases (show u=Value.ref a from ru)
         refine b8d I' (.inl ha) fun t s' I''=>⟨.int gs.length,H',I'',⟨t,rfl⟩,?_⟩
         rw[←Paired.length dk];exact q m H' _ (Pre.refl m) kp S' rfl
       · cases e0
     · exact q.elim
   · split at q
     · rename_i ys e
       simp only at q
       obtain⟨a,vs,rfl,_,h1,q1⟩:=S.rdL e r1;exact a0Y pins s σ H _ us Q I r ⟨a,vs,rfl,.inl (by rw[hK];exact h1),by rw[q1.len];exact q.ok S rfl⟩
     · exact q.elim
 · exact q.elim
 · exact q.elim
theorem b8i:D1 X (.type "str") (rBi Γ E .str):=by
 rintro pins s σ H xs us Q I r ⟨ds,ah,m,S,rs,q⟩;unfold biD at q
 split at q<;>(try exact q.elim)
 · simp only at q
   split at q
   · rename_i hl;obtain⟨x,rfl,r1⟩:=T8 rs;cases r1;exact a4F pins s σ H _ us Q I r ⟨_,rfl,hl,q.ok S rfl⟩
   · exact q.elim
 · split at q
   · exact q.elim
   · split at q<;>exact q.elim
theorem b8l:D1 X (.type "int") (rBi Γ E .int):=by
 rintro pins s σ H xs us Q I r ⟨ds,ah,m,S,rs,q⟩;unfold biD at q
 split at q<;>(try exact q.elim)
 · simp only at q
   split at q
   · rename_i hl
     split at q
     · rename_i n e;obtain⟨x,rfl,r1⟩:=T8 rs;cases r1;exact a4H pins s σ H _ us Q I r ⟨_,n,rfl,hl,e,q.ok S rfl⟩
     · exact q.elim
   · exact q.elim
 · obtain⟨x,rfl,r1⟩:=T8 rs;cases r1;exact a3A pins s σ H _ us Q I r (.inl ⟨_,rfl,q.ok S rfl⟩)
 · obtain⟨x,rfl,r1⟩:=T8 rs;cases r1;exact a3A pins s σ H _ us Q I r (.inr ⟨_,rfl,q.ok S rfl⟩)
 · split at q
   · exact q.elim
   · split at q<;>exact q.elim
theorem b5J(hK:X.K=Γ.K):D1 X (.type "list") (rBi Γ E .list):=by
 rintro pins s σ H xs us Q I r ⟨ds,ah,m,S,rs,q⟩;unfold biD at q
 split at q<;>(try exact q.elim)
 · obtain⟨x,rfl,a,vs,rfl,h1,q1⟩:=T8 rs;exact a0X pins s σ H _ us Q I r ⟨a,vs,rfl,.inr (.inl (.inl h1)),fun p hp=>q.newc S hp ⟨_,g9,q1.mono (Pre.snoc m p) (Keep.newc hp)⟩⟩
 · split at q
   · exact q.elim
   · split at q
     · rename_i ys e;obtain⟨x,rfl,r1⟩:=T8 rs;obtain⟨a,vs,rfl,_,h1,q1⟩:=S.rdL e r1;exact a0X pins s σ H _ us Q I r ⟨a,vs,rfl,.inl (by rw[hK];exact h1),fun p hp=>i6.newc q S hp ⟨_,g9,q1.mono (Pre.snoc m p) (Keep.newc hp)⟩⟩
     · exact q.elim
theorem b3g(hK:X.K=Γ.K):D1 X (.type "tuple") (rBi Γ E .tuple):=by
 rintro pins s σ H xs us Q I r ⟨ds,ah,m,S,rs,q⟩;unfold biD at q
 split at q<;>(try exact q.elim)
 · obtain⟨x,rfl,a,vs,rfl,h1,q1⟩:=T8 rs;exact a0o pins s σ H _ us Q I r ⟨a,vs,rfl,.inr ⟨.inl (.inl h1),i6.ok q S ⟨a,vs,rfl,h1,q1⟩⟩⟩
 · split at q
   · exact q.elim
   · split at q
     · rename_i ys e;obtain⟨x,rfl,r1⟩:=T8 rs;obtain⟨a,vs,rfl,_,h1,q1⟩:=S.rdL e r1;exact a0o pins s σ H _ us Q I r ⟨a,vs,rfl,.inl ⟨by rw[hK];exact h1,fun p hp=>i6.newt q S hp q1⟩⟩
     · exact q.elim
theorem a3b{m:List Addr}{H:Hp}:∀{l:List D} {is:List Int} {vs:List V},a3o l=some is->Rps m H l vs->vs=is.map V.int
 |[],is,vs,h,r=>by cases h;exact r
 |d::l,is,vs,h,⟨v,t,e,q1,q2⟩=>by
  cases d<;>simp only[a3o] at h<;>first|(cases h;done)|skip
  obtain⟨is',h1,rfl⟩:=Option.map_eq_some_iff.mp h;cases q1;rw[e,a3b h1 q2];rfl
theorem a9i{m:List Addr}{H:Hp}:∀{l:List D} {kvs:List (D×D)} {vs:List V},a7O l=some kvs->Rps m H l vs->∃gs,PrT H vs gs/\DK m H kvs gs
 |[],kvs,vs,h,r=>by cases h;rw[show vs=[] from r];exact⟨[],.nil,.nil⟩
 |d::l,kvs,vs,h,⟨v,t,e,q1,q2⟩=>by
  unfold a7O at h
  split at h
  · rename_i e0;cases e0
  · rename_i k x r e0;cases e0
    split at h
    · rename_i hk;obtain⟨kvs',h1,rfl⟩:=Option.map_eq_some_iff.mp h;obtain⟨gs,g1,g2⟩:=a9i h1 q2;obtain⟨kk,hk⟩:=Option.isSome_iff_exists.mp hk;obtain⟨a,ws,rfl,ha,rs⟩:=q1;obtain⟨y,z,rfl,r1,r2⟩:=b6L rs
      have:=Z6 hk r1
      subst this;rw[e];exact⟨(kk,z)::gs,.cons ⟨a,rfl,ha⟩ g1,.cons ⟨hk,r2⟩ g2⟩
    · cases h
  · cases h
theorem b0z{m:List Addr}{H:Hp}{kvs:List (D×D)}{gs:List (Key×V)}(h:DK m H kvs gs):∀{acc:List (D×D)} {ag:List (Key×V)},DK m H acc ag->DK m H (kvs.foldl (fun a p=>a0N a p.1 p.2) acc) (V0 ag gs):=by
 unfold DK at h
 induction h with
 |nil=>exact fun r=>r
 |cons h t ih=>exact fun r=>ih (DK.put r h.1 h.2)
theorem b8h(hc:X.calm=true)(hK:X.K=Γ.K):D1 X (.builtin "sum") (rBi Γ E .sum):=by
 rintro pins s σ H xs us Q I r ⟨ds,ah,m,S,rs,q⟩;unfold biD at q
 split at q<;>(try exact q.elim)
 split at q
 · exact q.elim
 · split at q
   · rename_i ys e
     simp only at q
     split at q
     · rename_i is e2;obtain⟨x,rfl,r1⟩:=T8 rs;obtain⟨a,vs,rfl,_,h1,q1⟩:=S.rdL e r1;rw[a3b e2 q1] at h1;exact b0G hc pins s σ H _ us Q I r ⟨a,is,rfl,by rw[hK];exact h1,q.ok S rfl⟩
     · exact q.elim
   · exact q.elim
theorem b5K(hc:X.calm=true)(hK:X.K=Γ.K):D1 X (.type "dict") (rBi Γ E .dict):=by
 rintro pins s σ H xs us Q I r ⟨ds,ah,m,S,rs,q⟩;unfold biD at q
 split at q<;>(try exact q.elim)
 split at q
 · exact q.elim
 · split at q
   · rename_i ys e
     simp only at q
     split at q
     · rename_i kvs e2;obtain⟨x,rfl,r1⟩:=T8 rs;obtain⟨a,vs,rfl,_,h1,q1⟩:=S.rdL e r1;obtain⟨gs,g1,g2⟩:=a9i e2 q1;exact a4I hc pins s σ H _ us Q I r ⟨a,vs,gs,rfl,by rw[hK];exact h1,g1,fun d hd=>q.newc S hd (.inl ⟨_,g9,(b0z g2 .nil).mono (Pre.snoc m d) (Keep.newc (m:=m) hd).im⟩)⟩
     · exact q.elim
   · exact q.elim
theorem b8n(hc:X.calm=true)(hK:X.K=Γ.K):D1 X (.builtin "all") (rBi Γ E .all):=by
 rintro pins s σ H xs us Q I r ⟨ds,ah,m,S,rs,q⟩;unfold biD at q
 split at q<;>(try exact q.elim)
 split at q
 · exact q.elim
 · split at q
   · rename_i ys e
     simp only at q
     split at q
     · rename_i bs e2;obtain⟨x,rfl,r1⟩:=T8 rs;obtain⟨a,vs,rfl,_,h1,q1⟩:=S.rdL e r1;rw[a3P e2 q1] at h1;exact b0K hc pins s σ H _ us Q I r ⟨a,bs,rfl,by rw[hK];exact h1,q.ok S rfl⟩
     · exact q.elim
   · exact q.elim
theorem b8m(hc:X.calm=true)(hK:X.K=Γ.K):D1 X (.builtin "any") (rBi Γ E .any):=by
 rintro pins s σ H xs us Q I r ⟨ds,ah,m,S,rs,q⟩;unfold biD at q
 split at q<;>(try exact q.elim)
 split at q
 · exact q.elim
 · split at q
   · rename_i ys e
     simp only at q
     split at q
     · rename_i bs e2;obtain⟨x,rfl,r1⟩:=T8 rs;obtain⟨a,vs,rfl,_,h1,q1⟩:=S.rdL e r1;rw[a3P e2 q1] at h1;exact b0J hc pins s σ H _ us Q I r ⟨a,bs,rfl,by rw[hK];exact h1,q.ok S rfl⟩
     · exact q.elim
   · exact q.elim
theorem b8j(hc:X.calm=true):D1 X (.builtin "max") (rBi Γ E .max):=by
 rintro pins s σ H xs us Q I r ⟨ds,ah,m,S,rs,q⟩;unfold biD at q
 split at q<;>(try exact q.elim)
 · split at q
   · exact q.elim
   · split at q<;>exact q.elim
 · obtain⟨x,y,rfl,r1,r2⟩:=b6L rs
   cases r1;cases r2
   exact a8s hc pins s σ H _ us Q I r ⟨_,_,rfl,q.ok S rfl⟩
def rMt(Γ:Gm)(E:XK)(b:Mt):V->List V->Hp->VK->Prop:=fun x xs H Q=>∃d ds ah m,Sim Γ ah m H/\Rp m H d x/\Rps m H ds xs/\i6 Γ E m H (mtD b ah d ds) Q
theorem a9G:MtR X "list.append" (rMt Γ E .append):=by
 rintro pins s σ H x xs v us Q I rx r ⟨d,ds,ah,m,S,rd,rs,q⟩;unfold mtD at q
 split at q<;>(try exact q.elim)
 · rename_i n e0;obtain⟨y,rfl,r1⟩:=T8 rs
   split at q
   · rename_i l e
     split at q
     · rename_i hl;obtain⟨a,vs,rfl,hm,h1,q1⟩:=S.lst e rd;refine a3j pins s σ H _ _ v us Q I rx r ⟨a,vs,y,rfl,rfl,h1,by rw[q1.len,←Q3];exact hl,?_⟩
       have kp:Keep m m H (upd H a (.lst (vs++[y]))):=Keep.put hm h1 fun z=>z
       exact q m _ _ (Pre.refl m) kp (S.write hm h1 (fun z=>z) ⟨_,g9,(q1.snoc r1).mono (Pre.refl m) kp⟩) rfl
     · exact q.elim
   · exact q.elim
theorem b2s:MtR X "str.split" (rMt Γ E .split):=by
 rintro pins s σ H x xs v us Q I rx r ⟨d,ds,ah,m,S,rd,rs,q⟩;unfold mtD at q
 split at q<;>(try exact q.elim)
 · simp only at q
   split at q
   · rename_i h;obtain⟨y,rfl,r1⟩:=T8 rs
     cases rd;cases r1
     refine a9B pins s σ H _ _ v us Q I rx r ⟨_,_,rfl,rfl,h.1,by rw[←Q3];exact h.2,fun p hp=>q.newc S hp ⟨_,g9,Rps.strs⟩⟩
   · exact q.elim
theorem a9F:MtR X "str.startswith" (rMt Γ E .starts):=by
 rintro pins s σ H x xs v us Q I rx r ⟨d,ds,ah,m,S,rd,rs,q⟩;unfold mtD at q
 split at q<;>(try exact q.elim)
 · obtain⟨y,rfl,r1⟩:=T8 rs
   cases rd;cases r1
   exact a7Y pins s σ H _ _ v us Q I rx r ⟨_,_,rfl,rfl,q.ok S rfl⟩
theorem b4P(hK:X.K=Γ.K):MtR X "str.join" (rMt Γ E .join):=by
 rintro pins s σ H x xs v us Q I rx r ⟨d,ds,ah,m,S,rd,rs,q⟩;unfold mtD at q
 split at q<;>(try exact q.elim)
 · simp only at q
   split at q
   · rename_i l e
     split at q
     · rename_i ts e2
       split at q
       · rename_i hj;obtain⟨y,rfl,r1⟩:=T8 rs;obtain⟨a,vs,rfl,_,h1,q1⟩:=S.rdL e r1;rw[a5d e2 q1] at h1;cases rd;exact b2r pins s σ H _ _ v us Q I rx r ⟨_,a,ts,rfl,rfl,by rw[hK];exact h1,hj,q.ok S rfl⟩
       · exact q.elim
     · exact q.elim
   · exact q.elim
theorem b9e(hu:X.A.units+8<cLine):b6h X (fun o i v H Q=>∃d1 d2 d3 ah m,Sim Γ ah m H/\Rp m H d1 o/\Rp m H d2 i/\Rp m H d3 v/\n5 Γ E m H (a1p ah d1 d2 d3) (fun _ _ _ H'=>Q H')):=by
 rintro pins s σ H o i v ov iv u Q I ro ri rv ⟨d1,d2,d3,ah,m,S,r1,r2,r3,q⟩;unfold a1p at q
 split at q
 · split at q
   · rename_i xs e
     split at q
     · rename_i k
       split at q
       · rename_i j e2;obtain⟨a,vs,rfl,hm,h1,q1⟩:=S.lst e r1;cases r2;refine a8M pins s σ H _ _ _ ov iv u Q I ro ri rv ⟨a,vs,_,j,rfl,rfl,h1,by rw[q1.len];exact e2,?_⟩
         have kp:Keep m m H (upd H a (.lst (vs.set j v))):=Keep.put hm h1 fun z=>z
         exact q m _ (Pre.refl m) kp (S.write hm h1 (fun z=>z) ⟨_,g9,(q1.set j r3).mono (Pre.refl m) kp⟩)
       · exact q.elim
     · exact q.elim
   · rename_i kvs e
     split at q
     · rename_i h;obtain⟨a,rfl,hm⟩:=r1
       cases (show ov=Value.ref a from ro)
       obtain⟨H',I',kp,S',hd⟩:=Q1 I S e h.1 hm
       have r3':=r3.mono (Pre.refl m) kp
       rcases hd with⟨ks,gs,hk,ha,dk⟩|⟨l,ks,gs,rfl,hk,ha,dt⟩
       · have kp2:Keep m m H' (upd H' a (.dK (M8 gs ks v))):=Keep.put hm ha fun z=>z
         refine a3w (v:=v) (H':=upd H' a (.dK (M8 gs ks v))) (hu1 hu) I' (.inl ⟨gs,ks,ha,Z6 hk r2,by rw[←Paired.length dk,←Q3];exact h.2,rfl⟩) ri rv fun s' I''=>⟨_,I'',?_⟩
         exact q m _ (Pre.refl m) (kp.trans kp2) (S'.write hm ha (fun z=>z) (.inl ⟨_,g9,(dk.put hk r3').mono (Pre.refl m) kp2.im⟩))
       · have kp2:Keep m m H' (upd H' a (.dT (M8 gs ks v))):=Keep.put hm ha fun z=>z
         obtain⟨b,vs,rfl,hb,rs⟩:=r2;have hv:=a2t hk rs;subst hv;refine a3w (v:=v) (H':=upd H' a (.dT (M8 gs ks v))) (hu1 hu) I' (.inr ⟨gs,ks,b,ha,rfl,kp.tup hb,by rw[←Paired.length dt,←Q3];exact h.2,rfl⟩) ri rv fun s' I''=>⟨_,I'',?_⟩
         exact q m _ (Pre.refl m) (kp.trans kp2) (S'.write hm ha (fun z=>z) (.inr ⟨_,g9,(dt.put hk r3').mono (Pre.refl m) kp2.im⟩))
     · exact q.elim
   · exact q.elim
 · exact q.elim
theorem Fl.put{m:List Addr}{H:Hp}{f:Str}{d:D}{v:V}(r:Rp m H d v){fs:List (Str×D)}{gs:List (Str×V)}(h:Fl m H fs gs):Fl m H (a3e f d fs) (U7 f v gs):=by
 induction h with
 |nil=>exact .cons ⟨rfl,r⟩ .nil
 | @cons p q ps qs h t ih=>
  obtain⟨n,x⟩:=p;obtain⟨n',x'⟩:=q
  have e:n=n':=h.1
  subst e;unfold a3e U7
  split
  · exact .cons ⟨rfl,r⟩ t
  · exact .cons h ih
theorem Fl.look{m:List Addr}{H:Hp}{f:Str}{d:D}{fs:List (Str×D)}{gs:List (Str×V)}(h:Fl m H fs gs)(e:fs.lookup f=some d):∃v,gs.lookup f=some v/\Rp m H d v:=by
 induction h with
 |nil=>cases e
 | @cons p q ps qs h t ih=>
  obtain⟨n,x⟩:=p;obtain⟨n',x'⟩:=q
  have e1:n=n':=h.1
  subst e1;rw[List.lookup_cons] at e⊢
  cases z:f==n with
  |true=>rw[z] at e;cases e;exact⟨x',rfl,h.2⟩
  |false=>rw[z] at e;exact ih e
end
end EV
namespace EV
open PySem L2
mutual
inductive Pat where
  |nm (i:Nat)|tp (ps:Pats)
inductive Pats where
  |nil|cons (p:Pat) (r:Pats)
end
mutual
inductive E where
  |v (i:Nat)|k (d:D)|bin (o:B) (a b:E)|isN (a:E)|notN (a:E)|neg (a:E)|nt (a:E)|an (a b:E)|orr (a b:E)|chn (o p:B) (a b c:E)
  |ix (a b:E)|sl (a:E) (lo hi:O)|fld (a:E) (f:Str)|lst (es:Es)|tup (es:Es)|dnew|call (f:Nat) (es:Es)|mk (c:Nat) (es:Es)|bi (b:Bi) (es:Es)|mt (b:Mt) (o:E) (es:Es)
  |isi (t:Bool) (a:E)|comp (p:Pat) (it:I) (n:Nat) (fr:List Nat) (t:T) (e:E)|gin (neg:Bool) (a:E) (ds:List D)|gdin (neg:Bool) (a:E) (kvs:List (D×D))|gdix (a:E) (kvs:List (D×D))|dlit (kvs:List (D×D))|dget (a k x:E)|cnt (a x:E)|trng (a b:E)
inductive Es where
  |nil|cons (e:E) (r:Es)
inductive T where
  |yes|val (e:E)|cmp (o:B) (a b:E)|isN (a:E)|notN (a:E)|chn (o p:B) (a b c:E)|an (a b:T)|orr (a b:T)|nt (a:T)
inductive O where
  |no|at(e:E)
inductive I where
  |seq (e:E)|rng1 (a:E)|enum (e:E)|zip (a b:E)
end
mutual
inductive S where
  |set (i:Nat) (e:E)|ex (e:E)|ret (e:E)|iff (t:T) (a b:Ss)|for (p:Pat) (it:I) (b:Ss)|bad|six (a i v:E)|sfl (a:E) (f:Str) (v:E)
inductive Ss where
  |nil|cons (s:S) (r:Ss)
end
inductive Out where
 |nx (env:j9)|rt (d:D)
abbrev CF:=Nat->List D->AH->R D
structure CT where
 init:Nat->Nat
mutual
def G9:Pat->D->j9->Option j9
  |.nm i,d,env=>some (env.set i (some d))
  | .tp ps,d,env=>match d with
    |.tup ds=>N1 ps ds env
    |_=>none
def N1:Pats->List D->j9->Option j9
  | .nil,ds,env=>match ds with
    |[]=>some env
    |_::_=>none
  | .cons p r,ds,env=>match ds with
    |[]=>none
    | d::t=>match G9 p d env with
      |some env'=>N1 r t env'
      |none=>none
end
def gOk(g:List (Nat×Cell))(h:AH):Bool:=g.all fun p=>decide (h[p.1]? =some p.2)
def asB(r:R D):R Bool:=r.bind fun d h=>match d with
 |.bl b=>.ok b h
 |_=>.no
def N5(g:List (Nat×Cell))(p:Pat)(body:j9->AH->R Out):List D->j9->AH->R Out
 |[],env,h=>if gOk g h=true then .ok (.nx env) h else .no
 | x::r,env,h=>if gOk g h=true then(match G9 p x env with
  |none=>.no
  |some env'=>(body env' h).bind fun o h'=>match o with
   |.nx env''=>N5 g p body r env'' h'
   |.rt d=>.ok (.rt d) h') else .no
def R6(g:List (Nat×Cell))(p:Pat)(t:j9->AH->R Bool)(elt:j9->AH->R D)(env0:j9):List D->List D->AH->R (List D)
 |[],acc,h=>if gOk g h=true then .ok acc h else .no
 | x::r,acc,h=>if gOk g h=true then(match G9 p x env0 with
  |none=>.no
  |some env=>(t env h).bind fun b h1=>if b=true then((elt env h1).bind fun d h2=>if acc.length<SL then R6 g p t elt env0 r (acc++[d]) h2 else .no)
   else R6 g p t elt env0 r acc h1) else .no
def z3:Nat->List D->List D
 |_,[]=>[]
 |n,x::r=>.tup [.int n,x]::z3 (n+1) r
def V8(x:Str):List D:=x.cps.toList.map fun c=>.str ⟨#[c]⟩
def a0t(lo:Int)(n:Nat):List D:=(List.range n).map fun i=>.int (lo+(i:Nat))
abbrev Its:=List D×List (Nat×Cell)
def a0q(h:AH):D->R Its
 |.str x=>.ok (V8 x,[]) h
 |.tup l=>.ok (l,[]) h
 |.ref n=>match h[n]? with
  |some (.lst l)=>.ok (l,[(n,.lst l)]) h
  |some (.rol l)=>.ok (l,[(n,.rol l)]) h
  |_=>.no
 |_=>.no
def a8X(h:AH):D->D->R Its
 |.int i,.int j=>if W6 i=true/\W6 j=true then .ok (a0t i (j-i).toNat,[]) h else .no
 |_,_=>.no
def a0m(h:AH):D->R Its
 |.ref n=>match h[n]? with
  |some (.lst l)=>.ok (z3 0 l,[(n,.lst l)]) h
  |some (.rol l)=>.ok (z3 0 l,[(n,.rol l)]) h
  |_=>.no
 |_=>.no
def a5s(h:AH)(n:Nat):Option (List D×Cell):=match h[n]? with
 |some (.lst l)=>some (l,.lst l)
 |some (.rol l)=>some (l,.rol l)
 |_=>none
def a0H:List D->List D->List D
 |x::xs,y::ys=>.tup [x,y]::a0H xs ys
 |_,_=>[]
def b1l(h:AH):D->D->R Its
 |.ref i,.ref j=>match a5s h i,a5s h j with
  |some a,some b=>.ok (a0H a.1 b.1,[(i,a.2),(j,b.2)]) h
  |_,_=>.no
 |_,_=>.no
def a4V(h:AH):D->D->R D
 |.int i,.int j=>if(W6 i=true/\W6 j=true)/\(j-i).toNat<=16777216 then .ok (.tup (a0t i (j-i).toNat)) h else .no
 |_,_=>.no
def D9(n:Nat)(fr:List Nat)(env:j9):j9:=List.replicate n none++fr.map fun j=>(env[j]?).join
def a7j(r:R D):R (Option Int):=r.bind fun d h=>match d with
 |.int i=>.ok (some i) h
 |_=>.no
section
variable(ct:CT)(c:CF)
mutual
def ev:E->j9->AH->R D
  | .v i,env,h=>match env[i]? with
    |some (some d)=>.ok d h
    |_=>.no
  |.k d,_,h=>.ok d h
  |.bin o a b,env,h=>(ev a env h).bind fun x h1=>(ev b env h1).bind fun y h2=>op2 o h2 x y
  |.isN a,env,h=>(ev a env h).bind fun x h1=>.ok (.bl (decide (x=.non))) h1
  |.notN a,env,h=>(ev a env h).bind fun x h1=>.ok (.bl (!decide (x=.non))) h1
  | .neg a,env,h=>(ev a env h).bind fun x h1=>match x with
    |.int i=>.ok (.int (-i)) h1
    |_=>.no
  |.nt a,env,h=>(asB (ev a env h)).bind fun b h1=>.ok (.bl (!b)) h1
  |.an a b,env,h=>(asB (ev a env h)).bind fun x h1=>if x=true then ev b env h1 else .ok (.bl false) h1
  |.orr a b,env,h=>(asB (ev a env h)).bind fun x h1=>if x=true then .ok (.bl true) h1 else ev b env h1
  |.chn o p a b e,env,h=>(ev a env h).bind fun x h1=>(ev b env h1).bind fun y h2=>(asB (op2 o h2 x y)).bind fun k h3=>if k=true then(ev e env h3).bind fun z h4=>op2 p h4 y z else .ok (.bl false) h3
  |.ix a b,env,h=>(ev a env h).bind fun x h1=>(ev b env h1).bind fun y h2=>ixD h2 x y
  |.sl a lo hi,env,h=>(ev a env h).bind fun x h1=>(evo lo env h1).bind fun l h2=>(evo hi env h2).bind fun u h3=>slD h3 l u x
  |.fld a f,env,h=>(ev a env h).bind fun x h1=>V2 h1 f x
  |.lst es,env,h=>(evs es env h).bind fun ds h1=>if ds.length<=SL then x5 (.lst ds) h1 else .no
  |.tup es,env,h=>(evs es env h).bind fun ds h1=>if ds.length<=SL then .ok (.tup ds) h1 else .no
  |.dnew,_,h=>x5 (.dict []) h
  |.call f es,env,h=>(evs es env h).bind fun ds h1=>c f ds h1
  | .mk k es,env,h=>(evs es env h).bind fun ds h1=>(c (ct.init k) (.ref h1.length::ds) (h1++[.obj k []])).bind fun r h2=>match r with
    |.non=>.ok (.ref h1.length) h2
    |_=>.no
  |.bi b es,env,h=>(evs es env h).bind fun ds h1=>biD b h1 ds
  |.mt b o es,env,h=>(ev o env h).bind fun x h1=>if mtT b h1 x=true then(evs es env h1).bind fun ds h2=>mtD b h2 x ds else .no
  | .isi t a,env,h=>(ev a env h).bind fun x h1=>match x with
    |.bl _=>.ok (.bl true) h1
    |.int _=>.ok (.bl t) h1
    |_=>.no
  |.comp p it n fr t e,env,h=>(evi it env h).bind fun x h1=>(R6 x.2 p (tst t) (ev e) (D9 n fr env) x.1 [] h1).bind fun ds h2=>x5 (.lst ds) h2
  |.gin neg a ds,env,h=>(ev a env h).bind fun x h1=>if p7 x=true/\ds.all p7=true then .ok (.bl (inD x ds !=neg)) h1 else .no
  |.gdin neg a kvs,env,h=>(ev a env h).bind fun x h1=>if(K0 x).isSome=true then .ok (.bl ((o5 kvs x).isSome !=neg)) h1 else .no
  | .gdix a kvs,env,h=>(ev a env h).bind fun x h1=>if(K0 x).isSome=true then(match o5 kvs x with
    |some d=>.ok d h1
    |none=>.no) else .no
  |.dlit kvs,_,h=>x5 (.dict kvs) h
  |.dget a k x,env,h=>(ev a env h).bind fun o h1=>if b7o h1 o=true then(ev k env h1).bind fun y h2=>(ev x env h2).bind fun z h3=>b3B h3 o y z else .no
  |.trng a b,env,h=>(ev a env h).bind fun x h1=>(ev b env h1).bind fun y h2=>a4V h2 x y
  |.cnt a x,env,h=>(ev a env h).bind fun o h1=>if b7m o=true then(ev x env h1).bind fun y h2=>b8g h2 o y else .no
def evs:Es->j9->AH->R (List D)
  |.nil,_,h=>.ok [] h
  |.cons e r,env,h=>(ev e env h).bind fun d h1=>(evs r env h1).bind fun ds h2=>.ok (d::ds) h2
def tst:T->j9->AH->R Bool
  |.yes,_,h=>.ok true h
  |.val e,env,h=>asB (ev e env h)
  |.cmp o a b,env,h=>asB ((ev a env h).bind fun x h1=>(ev b env h1).bind fun y h2=>op2 o h2 x y)
  |.isN a,env,h=>(ev a env h).bind fun x h1=>.ok (decide (x=.non)) h1
  |.notN a,env,h=>(ev a env h).bind fun x h1=>.ok (!decide (x=.non)) h1
  |.chn o p a b e,env,h=>asB ((ev a env h).bind fun x h1=>(ev b env h1).bind fun y h2=>(asB (op2 o h2 x y)).bind fun k h3=>if k=true then(ev e env h3).bind fun z h4=>op2 p h4 y z else .ok (.bl false) h3)
  |.an a b,env,h=>(tst a env h).bind fun x h1=>if x=true then tst b env h1 else .ok false h1
  |.orr a b,env,h=>(tst a env h).bind fun x h1=>if x=true then .ok true h1 else tst b env h1
  |.nt a,env,h=>(tst a env h).bind fun x h1=>.ok (!x) h1
def evo:O->j9->AH->R (Option Int)
  |.no,_,h=>.ok none h
  |.at e,env,h=>a7j (ev e env h)
def evi:I->j9->AH->R Its
  |.seq e,env,h=>(ev e env h).bind fun d h1=>a0q h1 d
  |.rng1 a,env,h=>(ev a env h).bind fun d h1=>a8X h1 (.int 0) d
  |.enum e,env,h=>(ev e env h).bind fun d h1=>a0m h1 d
  |.zip a b,env,h=>(ev a env h).bind fun x h1=>(ev b env h1).bind fun y h2=>b1l h2 x y
end
mutual
def ex:S->j9->AH->R Out
  |.set i e,env,h=>(ev ct c e env h).bind fun d h1=>.ok (.nx (env.set i (some d))) h1
  |.ex e,env,h=>(ev ct c e env h).bind fun _ h1=>.ok (.nx env) h1
  |.ret e,env,h=>(ev ct c e env h).bind fun d h1=>.ok (.rt d) h1
  |.iff t a b,env,h=>(tst ct c t env h).bind fun x h1=>if x=true then exs a env h1 else exs b env h1
  |.for p it b,env,h=>(evi ct c it env h).bind fun x h1=>N5 x.2 p (exs b) x.1 env h1
  |.bad,_,_=>.no
  |.six a i v,env,h=>(ev ct c v env h).bind fun x h1=>(ev ct c a env h1).bind fun o h2=>(ev ct c i env h2).bind fun k h3=>(a1p h3 o k x).bind fun _ h4=>.ok (.nx env) h4
  |.sfl a f v,env,h=>(ev ct c v env h).bind fun x h1=>(ev ct c a env h1).bind fun o h2=>(a3O h2 o f x).bind fun _ h3=>.ok (.nx env) h3
def exs:Ss->j9->AH->R Out
  |.nil,env,h=>.ok (.nx env) h
  | .cons s r,env,h=>(ex s env h).bind fun o h1=>match o with
    |.nx env'=>exs r env' h1
    |.rt d=>.ok (.rt d) h1
end
end
structure Fn where
 np:Nat
 ns:Nat
 gc:Nat
 body:Ss
def Cell.flat:Cell->Bool
 |.lst l=>D.flats l
 |.dict l=>l.all fun p=>p.1.flat&&p.2.flat
 |_=>false
def gcR (n:Nat) (h:AH):R D->R D
 | .ok d h'=>if n=0 then .ok d h' else if n=1 then(if h'.take h.length=h/\d.flat=true then .ok d h else .no)
  else(match d with
   |.ref k=>(match h'[k]? with
    |some c=>if h'.take h.length=h/\h.length<=k/\c.flat=true then .ok (.ref h.length) (h++[c]) else .no
    |none=>.no)
   |_=>.no)
 |.no=>.no
def b6(ct:CT)(F:Nat->Option Fn):Nat->CF
 |0=>fun _ _ _=>.no
 | k+1=>fun f ds h=>match F f with
  |none=>.no
  |some fd=>if ds.length=fd.np then gcR fd.gc h (match exs ct (b6 ct F k) fd.body (ds.map some++List.replicate (fd.ns-fd.np) none) h with
   |.ok (.nx _) h'=>.ok .non h'
   |.ok (.rt d) h'=>.ok d h'
   |.no=>.no) else .no
structure GT where
 fn:List (Str×Nat×Nat)
 scal:List (Str×D)
 tups:List (Str×List D)
 dicts:List (Str×List (D×D))
 obj:List (Str×Nat)
 atts:List Str
 blt:List Str
def b8o:Operator->Option B
 |.Add=>some .add|.Sub=>some .sub|.Mult=>some .mul|.FloorDiv=>some .div|.Mod=>some .mod
 |_=>none
def a6B:CmpOp->Option B
 |.Eq=>some .eq|.NotEq=>some .ne|.Lt=>some .lt|.LtE=>some .le|.Gt=>some .gt|.GtE=>some .ge|.In=>some .isin|.NotIn=>some .notin
 |_=>none
def a9R(sc:Scope)(x:Str):Bool:=match sc.names.lookup x with
 |some .local=>true|some .cell=>true|some .free=>true
 |_=>false
def K8(sc:Scope)(x:Str):Bool:=decide (sc.names.lookup x=some .globalImplicit)&&decide (x≠"__debug__")&&decide (x≠"__name__")
def slot(N:List Str)(sc:Scope)(x:Str):Option Nat:=if a9R sc x&&decide (x≠"__debug__")&&decide (x≠"__classdict__") then N.idxOf? x else none
def a9S(dfn:Bool)(sc:Scope)(x:Str):Bool:=match sc.names.lookup x with
 |some .local=>true|some .cell=>dfn
 |_=>false
def a2d(dfn:Bool)(N:List Str)(sc:Scope)(x:Str):Option Nat:=if a9S dfn sc x then N.idxOf? x else none
def b5N(x:Str):Option Bi:=if x="len" then some .len else if x="str" then some .str else if x="int" then some .int else if x="tuple" then some .tuple else if x="list" then some .list
 else if x="all" then some .all else if x="any" then some .any else if x="max" then some .max else if x="sum" then some .sum else if x="dict" then some .dict else none
def b4N(x:Str):Option Mt:=if x="append" then some .append else if x="split" then some .split else if x="join" then some .join else if x="startswith" then some .starts else none
def o9:Expr->Bool
 |.Starred _ _=>false
 |_=>true
def U8:Expr->Bool
 |.Call (.Name _ _) [] [] _=>false
 |_=>true
def a1Q:Expr->Bool
 |.Slice .. =>false
 |_=>true
def a0O:Expr->Bool
 |.Set .. =>false
 |_=>true
def a6S(sc scope:Scope):Scope:={scope with names:=scope.names.map fun(n,k)=>if(k==NameKind.free&&sc.kind==.function&&sc.names.lookup n==some .cell) then(n,NameKind.cell) else(n,k)}
def b4h:Expr->Bool
 |.Name .. =>true|.Call .. =>true|.Subscript .. =>true|.Attribute .. =>true
 |_=>false
mutual
def a8t (dfn:Bool) (N:List Str) (sc:Scope):Nat->Expr->Option Pat
  |0,_=>none
  | n+1,e=>match e with
    |.Name x _=>(a2d dfn N sc x).map .nm
    |.Tuple es _ _=>(a2F dfn N sc n es).map .tp
    |_=>none
def a2F (dfn:Bool) (N:List Str) (sc:Scope):Nat->List Expr->Option Pats
  |0,_=>none
  | n +1,es=>match es with
    |[]=>some .nil
    | e::r=>match a8t dfn N sc n e,a2F dfn N sc n r with
      |some p,some ps=>some (.cons p ps)
      |_,_=>none
end
mutual
def K2:Pat->List Nat
  |.nm i=>[i]
  |.tp ps=>Z3 ps
def Z3:Pats->List Nat
  |.nil=>[]
  |.cons p r=>K2 p++Z3 r
end
mutual
def t9:Nat->Expr->List Str
  |0,_=>[]
  | n+1,e=>match e with
    |.Name x _=>[x]
    |.Tuple es _ _=>a3g n es
    |_=>[]
def a3g:Nat->List Expr->List Str
  |0,_=>[]
  | n+1,es=>match es with
    |[]=>[]
    |e::r=>t9 n e++a3g n r
end
def D6(scope:Scope):List Str:=(scope.names.filter fun y=>decide (y.2=.free)).map (·.1)
def b2z(N:List Str):List Str->Option (List Nat)
 |[]=>some []
 |x::r=>match N.idxOf? x,b2z N r with
  |some i,some is=>some (i::is)
  |_,_=>none
structure Rec where
 E:List Str->Scope->Expr->Option E
 Es:List Str->Scope->List Expr->Option Es
 T:List Str->Scope->Expr->Option T
 O:List Str->Scope->Option Expr->Option O
 I:List Str->Scope->Expr->Expr->Option I
def b5c:Expr->Bool
 |.Constant k _ _=>(match k with
  |.none=>true
  |_=>false)
 |_=>false
def a6f:CmpOp->Option Bool
 |.Is=>some true
 |.IsNot=>some false
 |_=>none
def b6C:Expr->Option (Option Expr×Option Expr)
 |.Slice lo hi st _=>(match st with
  |none=>some (lo,hi)
  |some _=>none)
 |_=>none
def b6H:Const->Option E
 |.int i=>some (.k (.int i))
 |.str x=>some (.k (.str x))
 |.bool b=>some (.k (.bl b))
 |.none=>some (.k .non)
 |_=>none
def sUn(G:GT)(r:Rec)(N:List Str)(sc:Scope)(a:Expr):UnaryOp->Option E
 |.USub=>(r.E N sc a).map .neg
 |.Not=>(r.E N sc a).map .nt
 |_=>none
def sBo (G : GT) (r:Rec) (N:List Str) (sc:Scope) (p:Pos) (op:BoolOp):List Expr->Option E
 |[]=>none
 | a :: t => match t with
   |[]=>r.E N sc a
   | b::l=>match op with
     |.And=>(match r.E N sc a,r.E N sc (.BoolOp .And (b::l) p) with
             |some x,some y=>some (.an x y)
             |_,_=>none)
     |.Or=>(match r.E N sc a,r.E N sc (.BoolOp .Or (b::l) p) with
             |some x,some y=>some (.orr x y)
             |_,_=>none)
def b6K (G:GT) (r:Rec) (N:List Str) (sc:Scope) (a:Expr) (op:CmpOp) (b:Expr):Option E:=
 if b5c b&&(a6f op).isSome then(match a6f op with
  |some true=>(r.E N sc a).map .isN
  |_=>(r.E N sc a).map .notN) else
 if a0O b then(match a6B op,r.E N sc a,r.E N sc b with
  |some o,some x,some y=>some (.bin o x y)
  | some o,some x,none=>(match b with
   |.Name y _=>if K8 sc y then(match op,G.tups.lookup y with
    |.In,some ds=>some (.gin false x ds)
    |.NotIn,some ds=>some (.gin true x ds)
    |.In,none=>(G.dicts.lookup y).map (.gdin false x)
    |.NotIn,none=>(G.dicts.lookup y).map (.gdin true x)
    |_,_=>none) else none
   |_=>none)
  |_,_,_=>none) else none
def b6J(G:GT)(r:Rec)(N:List Str)(sc:Scope)(a:Expr)(op op':CmpOp)(b d:Expr):Option E:=if a0O d then(match a6B op,a6B op',r.E N sc a,r.E N sc b,r.E N sc d with
 |some o,some p,some x,some y,some z=>some (.chn o p x y z)
 |_,_,_,_,_=>none) else none
def sSl (G:GT) (r:Rec) (N:List Str) (sc:Scope) (a b:Expr):Option E:=match b6C b with
 | some (lo,hi)=>(match r.E N sc a,r.O N sc lo,r.O N sc hi with
         |some x,some l,some u=>some (.sl x l u)
         |_,_,_=>none)
 |none=>if a1Q b then(match r.E N sc a,r.E N sc b with
     |some x,some y=>some (.ix x y)
     | none,some y=>(match a with
       |.Name z _=>if K8 sc z then(G.dicts.lookup z).map (.gdix y) else none
       |_=>none)
     |_,_=>none) else none
def b5F:Expr->Option Str
 |.Constant k _ _=>(match k with
  |.str x=>some x
  |_=>none)
 |_=>none
def b5G:Expr->Option Int
 |.Constant k _ _=>(match k with
  |.int i=>some i
  |_=>none)
 |_=>none
def a8m:List (Option Expr)->List Expr->Option (List (D×D))
 |[],vs=>if vs.isEmpty then some [] else none
 | k::ks,vs=>(match vs with
  |[]=>none
  |v::r=>(match k.bind b5F,b5G v,a8m ks r with
   |some x,some i,some l=>some ((.str x,.int i)::l)
   |_,_,_=>none))
def a4a:List D->Bool
 |[]=>true
 |d::r=>!(r.any fun e=>decide (e=d))&&a4a r
def b5B(kvs:List (D×D)):Bool:=decide (kvs.length<=15)&&a4a (kvs.map (·.1))
def a8y:List Expr->Option (Expr×Expr)
 |[]=>none
 |a::r=>(match r with
  |[]=>none
  |b::q=>if q.isEmpty then some (a,b) else none)
def b2n:List Expr->Option Expr
 |[]=>none
 |a::r=>if r.isEmpty then some a else none
def a9z:Expr->Option Str
 |.Name x _=>some x
 |_=>none
def a8W(as:List Expr):Option (Expr×Expr):=match b2n as with
 |some e=>(match e with
  |.Call f bs ks _=>if ks.isEmpty&&decide (a9z f=some "range") then a8y bs else none
  |_=>none)
 |none=>none
def sCn (G:GT) (r:Rec) (N:List Str) (sc:Scope) (x:Str) (as:List Expr):Option E:=if K8 sc x then(match G.fn.lookup x with
 |some (f,np)=>if as.length=np&&decide (as≠[]) then(r.Es N sc as).map (.call f) else none
 | none=>match G.obj.lookup x with
  |some k=>if as=[] then some (.mk k .nil) else none
  | none=>if G.blt.contains x then(if x="isinstance" then(match a8y as with
   |some (a,b)=>if o9 a then(if decide (a9z b=some "bool")&&K8 sc "bool"&&G.blt.contains "bool" then(r.E N sc a).map (.isi false) else if decide (a9z b=some "int")&&K8 sc "int"&&G.blt.contains "int" then(r.E N sc a).map (.isi true) else none) else none
   |none=>none)
   else match(if decide (x="tuple")&&K8 sc "range"&&G.blt.contains "range" then a8W as else none) with
    |some (a,b)=>if o9 a&&o9 b then(match r.E N sc a,r.E N sc b with
     |some y,some z=>some (.trng y z)
     |_,_=>none) else none
    |none=>match b5N x with
    |some b=>if as≠[] then(r.Es N sc as).map (.bi b) else none
    |none=>none) else none) else none
def b6G(G:GT)(r:Rec)(N:List Str)(sc:Scope)(o:Expr)(as:List Expr):Option E:=match a8y as with
 |some (a,b)=>if o9 a&&o9 b then(match r.E N sc o,r.E N sc a,r.E N sc b with
  |some x,some y,some z=>some (.dget x y z)
  |_,_,_=>none) else none
 |none=>none
def b6I(G:GT)(r:Rec)(N:List Str)(sc:Scope)(o:Expr)(as:List Expr):Option E:=match b2n as with
 |some a=>if o9 a then(match r.E N sc o,r.E N sc a with
  |some x,some y=>some (.cnt x y)
  |_,_=>none) else none
 |none=>none
def sCa(G:GT)(r:Rec)(N:List Str)(sc:Scope)(o:Expr)(m:Str)(apos:Pos)(as:List Expr)(cpos:Pos):Option E:=if U8 o&&(apos.endLine==cpos.line)&&decide (m="get") then b6G G r N sc o as else if U8 o&&(apos.endLine==cpos.line)&&decide (m="count") then b6I G r N sc o as else if U8 o&&(apos.endLine==cpos.line)&&decide (as.length<20)&&decide (as≠[]) then(match b4N m,r.E N sc o,r.Es N sc as with
 |some b,some x,some xs=>some (.mt b x xs)
 |_,_,_=>none) else none
def sLc (G:GT) (r:Rec) (N:List Str) (sc:Scope) (elt tg iter:Expr) (ifs:List Expr) (scope:Scope):Option E:=match r.I N sc tg iter with
 | some it=>match b2z N (D6 scope) with
  | some js=>if b5H sc scope (t9 8 tg) (D6 scope)&&a0O iter then(match a8t false (t9 8 tg++D6 scope) (a6S sc scope) 8 tg,r.E (t9 8 tg++D6 scope) (a6S sc scope) elt with
   |some p,some x=>if(K2 p).all (fun i=>decide (i<(t9 8 tg).length)) then(match ifs with
    |[]=>some (.comp p it (t9 8 tg).length js .yes x)
    |[t]=>(r.T (t9 8 tg++D6 scope) (a6S sc scope) t).map fun z=>.comp p it (t9 8 tg).length js z x
    |_=>none) else none
   |_,_=>none) else none
  |none=>none
 |none=>none
def sE (G:GT) (r:Rec) (N:List Str) (sc:Scope) (e:Expr):Option E:=match e with
 |.Constant k _ _=>b6H k
 |.Name x _=>match slot N sc x with
  |some i=>some (.v i)
  |none=>if K8 sc x then(G.scal.lookup x).map .k else none
 |.BinOp a op b _=>match b8o op,r.E N sc a,r.E N sc b with
  |some o,some x,some y=>some (.bin o x y)
  |_,_,_=>none
 |.UnaryOp op a _=>sUn G r N sc a op
 |.BoolOp op l p=>sBo G r N sc p op l
 | .Compare a ops bs _=>(match ops with
  |[]=>none
  | op::t=>(match bs with
   |[]=>none
   | b::u=>(match t with
    |[]=>(match u with
     |[]=>b6K G r N sc a op b
     |_::_=>none)
    |op'::t'=>(match u with
     |[]=>none
     |d::u'=>if t'.isEmpty&&u'.isEmpty then b6J G r N sc a op op' b d else none))))
 |.Subscript a b _=>sSl G r N sc a b
 |.Attribute a f _=>if U8 a&&G.atts.contains f then(r.E N sc a).map (.fld · f) else none
 |.List es _=>(r.Es N sc es).map .lst
 |.Tuple es _ _=>(r.Es N sc es).map .tup
 | .Dict ks vs _=>(match ks with
  |[]=>(match vs with
   |[]=>some .dnew
   |_::_=>none)
  |_::_=>(a8m ks vs).bind fun kvs=>if b5B kvs then some (.dlit kvs) else none)
 |.Call f as ks cpos=>if ks.isEmpty then(match f with
  |.Name x _=>sCn G r N sc x as
  |.Attribute o m apos=>sCa G r N sc o m apos as cpos
  |_=>none) else none
 |.ListComp elt gens scope _=>(match gens with
  |[]=>none
  |g::t=>if t.isEmpty&&decide (g.is_async=0) then sLc G r N sc elt g.target g.iter g.ifs scope else none)
 |_=>none
def sEs(G:GT)(r:Rec)(N:List Str)(sc:Scope)(es:List Expr):Option Es:=match es with
 |[]=>some .nil
 |e::l=>if o9 e then(match r.E N sc e,r.Es N sc l with
  |some x,some xs=>some (.cons x xs)
  |_,_=>none) else none
def sTd(G:GT)(r:Rec)(N:List Str)(sc:Scope)(e:Expr):Option T:=if b4h e then(r.E N sc e).map .val else none
def b6E (G:GT) (r:Rec) (N:List Str) (sc:Scope) (a:Expr) (op:CmpOp) (b:Expr):Option T:=
 if b5c b&&(a6f op).isSome then(match a6f op with
  |some true=>(r.E N sc a).map .isN
  |_=>(r.E N sc a).map .notN) else
 if a0O b then(match a6B op,r.E N sc a,r.E N sc b with
  |some o,some x,some y=>some (.cmp o x y)
  | some o,some x,none=>(match b with
   |.Name y _=>if K8 sc y then(match op,G.tups.lookup y with
    |.In,some ds=>some (.val (.gin false x ds))
    |.NotIn,some ds=>some (.val (.gin true x ds))
    |.In,none=>(G.dicts.lookup y).map fun kvs=>.val (.gdin false x kvs)
    |.NotIn,none=>(G.dicts.lookup y).map fun kvs=>.val (.gdin true x kvs)
    |_,_=>none) else none
   |_=>none)
  |_,_,_=>none) else none
def b6D(G:GT)(r:Rec)(N:List Str)(sc:Scope)(a:Expr)(op op':CmpOp)(b d:Expr):Option T:=if a0O d then(match a6B op,a6B op',r.E N sc a,r.E N sc b,r.E N sc d with
 |some o,some p,some x,some y,some z=>some (.chn o p x y z)
 |_,_,_,_,_=>none) else none
def sT (G:GT) (r:Rec) (N:List Str) (sc:Scope) (e:Expr):Option T:=match e with
 |.UnaryOp op a p=>(match op with
  |.Not=>(r.T N sc a).map .nt
  |op=>sTd G r N sc (.UnaryOp op a p))
 | .BoolOp op l p=>(match l with
  |[]=>sTd G r N sc (.BoolOp op [] p)
  | a::t=>(match t with
   |[]=>r.T N sc a
   | b::l=>(match op with
    |.And=>(match r.T N sc a,r.T N sc (.BoolOp .And (b::l) p) with
     |some x,some y=>some (.an x y)
     |_,_=>none)
    |.Or=>(match r.T N sc a,r.T N sc (.BoolOp .Or (b::l) p) with
     |some x,some y=>some (.orr x y)
     |_,_=>none))))
 | .Compare a ops bs p=>(match ops with
  |[]=>none
  | op::t=>(match bs with
   |[]=>none
   | b::u=>(match t with
    |[]=>(match u with
     |[]=>b6E G r N sc a op b
     |_::_=>none)
    |op'::t'=>(match u with
     |[]=>none
     |d::u'=>if t'.isEmpty&&u'.isEmpty then b6D G r N sc a op op' b d else none))))
 |e=>sTd G r N sc e
def sO(G:GT)(r:Rec)(N:List Str)(sc:Scope)(o:Option Expr):Option O:=match o with
 |none=>some .no
 |some e=>(r.E N sc e).map .at
def sI (G:GT) (r:Rec) (N:List Str) (sc:Scope) (tg e:Expr):Option I:=match e with
 | .Call (.Name x p) as [] q=>if K8 sc x&&G.blt.contains x&&decide (x="range") then(match as with
  |[a]=>if o9 a then(r.E N sc a).map .rng1 else none
  |_=>none)
  else if K8 sc x&&G.blt.contains x&&decide (x="enumerate") then(match as,tg with
   |[a],.Tuple _ _ _=>if o9 a then(r.E N sc a).map .enum else none
   |_,_=>none)
  else if K8 sc x&&G.blt.contains x&&decide (x="zip") then(match as,tg with
   |[a,b],.Tuple _ _ _=>if o9 a&&o9 b then(match r.E N sc a,r.E N sc b with
    |some u,some v=>some (.zip u v)
    |_,_=>none) else none
   |_,_=>none)
  else(r.E N sc (.Call (.Name x p) as [] q)).map .seq
 |e=>(r.E N sc e).map .seq
def cR(G:GT):Nat->Rec
 |0=>⟨fun _ _ _=>none,fun _ _ _=>none,fun _ _ _=>none,fun _ _ _=>none,fun _ _ _ _=>none⟩
 |n+1=>⟨sE G (cR G n),sEs G (cR G n),sT G (cR G n),sO G (cR G n),sI G (cR G n)⟩
abbrev cE(G:GT)(N:List Str)(sc:Scope)(n:Nat)(e:Expr):Option E:=(cR G n).E N sc e
abbrev cEs(G:GT)(N:List Str)(sc:Scope)(n:Nat)(es:List Expr):Option Es:=(cR G n).Es N sc es
abbrev cT(G:GT)(N:List Str)(sc:Scope)(n:Nat)(e:Expr):Option T:=(cR G n).T N sc e
abbrev cO(G:GT)(N:List Str)(sc:Scope)(n:Nat)(o:Option Expr):Option O:=(cR G n).O N sc o
abbrev cI(G:GT)(N:List Str)(sc:Scope)(n:Nat)(tg e:Expr):Option I:=(cR G n).I N sc tg e
def T0(e:Expr):Bool:=match e with
 |.ListComp .. =>false|.SetComp .. =>false|.DictComp .. =>false
 |_=>true
def b7n(e:Expr):Bool:=match e with
 |.ListComp .. =>true
 |_=>false
def sAs (G:GT) (N:List Str) (sc:Scope) (e:Expr):Expr->Option S
 | .Name x _=>(match a2d true N sc x,cE G N sc 40 e with
         |some i,some y=>if T0 e||b7n e then some (.set i y) else none
         |_,_=>none)
 |.Subscript a i _=>(match cE G N sc 40 a,cE G N sc 40 i,cE G N sc 40 e with
         |some x,some k,some y=>if T0 e&&a1Q i then some (.six x k y) else none
         |_,_,_=>none)
 |.Attribute a f _=>(match cE G N sc 40 a,cE G N sc 40 e with
         |some x,some y=>if T0 e&&G.atts.contains f then some (.sfl x f y) else none
         |_,_=>none)
 |_=>none
def sS(G:GT)(N:List Str)(sc:Scope)(r:List Stmt->Option Ss)(s:Stmt):Option S:=match s with
 |.Assign tgs e _=>(match tgs with
  |[]=>none
  |t::u=>if u.isEmpty then sAs G N sc e t else none)
 |.Expr e _=>if T0 e then(cE G N sc 40 e).map .ex else none
 |.Return o _=>(match o with
  |some e=>(cE G N sc 40 e).map .ret
  |none=>none)
 |.If t a b _=>match cT G N sc 40 t,r a,r b with
  |some z,some x,some y=>some (.iff z x y)
  |_,_,_=>none
 |.For tg it b els _=>if els.isEmpty then(match a8t true N sc 8 tg,cI G N sc 40 tg it,r b with
  |some p,some i,some y=>if a0O it then some (.for p i y) else none
  |_,_,_=>none) else none
 |.Raise _ _ _=>some .bad
 |_=>none
def sSs(G:GT)(N:List Str)(sc:Scope)(r:List Stmt->Option Ss):List Stmt->Option Ss
 |[]=>some .nil
 |s::l=>match sS G N sc r s,sSs G N sc r l with
  |some x,some y=>some (.cons x y)
  |_,_=>none
def cSs(G:GT)(N:List Str)(sc:Scope):Nat->List Stmt->Option Ss
 |0=>fun _=>none
 |n+1=>sSs G N sc (cSs G N sc n)
end EV
namespace EV
open PySem PySem.Spec L2
open PyProof.Rows hiding St
def TEv(Γ:Gm)(E:XK)(f:j9->AH->R D):TE:=fun σ H Q=>∃env ah m,Rel Γ env ah σ H m/\i6 Γ E m H (f env ah) Q
def TAv(Γ:Gm)(E:XK)(f:j9->AH->R (List D)):TA:=fun σ H Q=>∃env ah m,Rel Γ env ah σ H m/\n5 Γ E m H (f env ah) (fun ds _ m1 H1=>∀vs,Rps m1 H1 ds vs->Q vs H1)
def TTv(Γ:Gm)(E:XK)(f:j9->AH->R Bool):TT:=fun σ H Q=>∃env ah m,Rel Γ env ah σ H m/\n5 Γ E m H (f env ah) (fun b _ _ H1=>Q b H1)
def TOv(Γ:Gm)(E:XK)(f:j9->AH->R (Option Int)):TO:=fun σ H Q=>∃env ah m,Rel Γ env ah σ H m/\n5 Γ E m H (f env ah) (fun b _ _ H1=>Q b H1)
section
variable{X:Cx}{Γ:Gm}{E:XK}{σ:St}{H:Hp}{e a b d:Expr}{pos:Pos}
theorem PE.imp{t t':TE}(h:PE X e t)(i:∀σ H Q,t' σ H Q->t σ H Q):PE X e t':=fun pins s σ H Q I q=>h pins s σ H Q I (i _ _ _ q)
theorem PT.imp{t t':TT}(h:PT X e t)(i:∀σ H Q,t' σ H Q->t σ H Q):PT X e t':=fun pins s σ H Q I q=>h pins s σ H Q I (i _ _ _ q)
theorem PW.imp{t t':TT}(h:PW X e t)(i:∀σ H Q,t' σ H Q->t σ H Q):PW X e t':=fun w pins s σ H Q I q=>h w pins s σ H Q I (i _ _ _ q)
theorem PA.imp{es:List Expr}{t t':TA}(h:PA X es t)(i:∀σ H Q,t' σ H Q->t σ H Q):PA X es t':=fun p pins s σ H Q I q=>h p pins s σ H Q I (i _ _ _ q)
theorem PO.imp{e:Option Expr}{t t':TO}(h:PO X e t)(i:∀σ H Q,t' σ H Q->t σ H Q):PO X e t':=fun pins s σ H Q I q=>h pins s σ H Q I (i _ _ _ q)
theorem PS.imp{st:Stmt}{t t':TS}(h:PS X st t)(i:∀D σ H,t' D σ H->t D σ H):PS X st t':=fun pins s σ H D I q=>h pins s σ H D I (i _ _ _ q)
theorem PSs.imp{st:List Stmt}{t t':TS}(h:PSs X st t)(i:∀D σ H,t' D σ H->t D σ H):PSs X st t':=fun pins s σ H D I q=>h pins s σ H D I (i _ _ _ q)
theorem Rel.on{env:j9}{ah ah1:AH}{m m1:List Addr}{H1:Hp}(r:Rel Γ env ah σ H m)(p:Pre m m1)(k:Keep m m1 H H1)(s:Sim Γ ah1 m1 H1):Rel Γ env ah1 σ H1 m1:=⟨s,r.env.mono p k⟩
theorem i6.first{env:j9}{ah:AH}{m:List Addr}{r:R D}{f:D->AH->R D}{Q Q':VK}(rl:Rel Γ env ah σ H m)(h:i6 Γ E m H (r.bind f) Q)
 (k:∀d ah1 m1 H1 v,Pre m m1->Keep m m1 H H1->Rel Γ env ah1 σ H1 m1->Rp m1 H1 d v->i6 Γ E m1 H1 (f d ah1) Q->Q' v H1):i6 Γ E m H r Q':=
 h.bind.val fun d ah1 m1 H1 v p kp s r q=>k d ah1 m1 H1 v p kp (rl.on p kp s) r q
theorem n5.first{β:Type}{env:j9}{ah:AH}{m:List Addr}{r:R D}{f:D->AH->R β}{P:β->AH->List Addr->Hp->Prop}{Q':VK}(rl:Rel Γ env ah σ H m)(h:n5 Γ E m H (r.bind f) P)
 (k:∀d ah1 m1 H1 v,Pre m m1->Keep m m1 H H1->Rel Γ env ah1 σ H1 m1->Rp m1 H1 d v->n5 Γ E m1 H1 (f d ah1) P->Q' v H1):i6 Γ E m H r Q':=
 h.bind.val fun d ah1 m1 H1 v p kp s r q=>k d ah1 m1 H1 v p kp (rl.on p kp s) r q
theorem n5.mp{α:Type}{m:List Addr}{r:R α}{P P':α->AH->List Addr->Hp->Prop}(h:n5 Γ E m H r P)(k:∀a ah1 m1 H1,Pre m m1->Keep m m1 H H1->Sim Γ ah1 m1 H1->P a ah1 m1 H1->P' a ah1 m1 H1):n5 Γ E m H r P':=by
 cases r with
 |ok d ah=>exact fun m2 H2 p2 k2 s2=>k d ah m2 H2 p2 k2 s2 (h m2 H2 p2 k2 s2)
 |no=>exact h
theorem i6.mp{m:List Addr}{r:R D}{Q Q':VK}(h:i6 Γ E m H r Q)(k:∀v H',Q v H'->Q' v H'):i6 Γ E m H r Q':=by
 cases r with
 |ok d ah=>exact fun m2 H2 v p2 k2 s2 r2=>k v H2 (h m2 H2 v p2 k2 s2 r2)
 |no=>exact h
theorem n5.ok{α:Type}{m:List Addr}{a:α}{ah:AH}{P:α->AH->List Addr->Hp->Prop}(h:n5 Γ E m H (.ok a ah) P)(s:Sim Γ ah m H):P a ah m H:=h m H (Pre.refl m) (Keep.refl m H) s
theorem n5.bool{m:List Addr}{r:R D}{P:Bool->AH->List Addr->Hp->Prop}(h:n5 Γ E m H (asB r) P):i6 Γ E m H r (fun x H1=>∃k,x=.bl k/\∃ah1 m1,Pre m m1/\Keep m m1 H H1/\Sim Γ ah1 m1 H1/\P k ah1 m1 H1):=by
 unfold asB at h;refine h.bind.val fun d ah1 m1 H1 v p kp s r q=>?_
 cases d<;>first|exact q.elim|skip
 rename_i k;exact⟨k,r,ah1,m1,p,kp,s,q.ok s⟩
theorem a_v{i:Nat}{x:Str}(hN:X.N[i]? =some x)(hv:Vis X.env.scope x)(hd:(x==("__debug__":Str))=false)(hcd:(x==("__classdict__":Str))=false)(c:CF)(ct:CT):PE X (.Name x pos) (TEv Γ E (ev ct c (.v i))):=by
 refine PE.imp (b4o hN hv hd hcd) ?_
 rintro σ H Q ⟨env,ah,m,rl,q⟩;unfold ev at q
 split at q
 · rename_i d e;obtain⟨v,h1,h2⟩:=rl.env.val i d e;exact⟨v,h1,q.ok rl.sim h2⟩
 · exact q.elim
theorem a_k{dd:D}{v:V}(h:PE X e (tC v))(hr:∀m H,Rp m H dd v)(c:CF)(ct:CT):PE X e (TEv Γ E (ev ct c (.k dd))):=by
 refine PE.imp h ?_
 rintro σ H Q ⟨env,ah,m,rl,q⟩;unfold ev at q;exact q.ok rl.sim (hr m H)
end
section
variable{X:Cx}{Γ:Gm}{Ex:XK}{e a b d:Expr}{pos:Pos}{ct:CT}{c:CF}{x y z:E}
theorem two{r:R2}{g:AH->D->D->R D}(ha:PE X a (TEv Γ Ex (ev ct c x)))(hb:PE X b (TEv Γ Ex (ev ct c y))):∀σ H Q,TEv Γ Ex (fun env h=>(ev ct c x env h).bind fun u h1=>(ev ct c y env h1).bind fun v h2=>g h2 u v) σ H Q→
 tOp (rOf Γ Ex g) (TEv Γ Ex (ev ct c x)) (TEv Γ Ex (ev ct c y)) σ H Q:=by
 rintro σ H Q ⟨env,ah,m,rl,q⟩;refine⟨env,ah,m,rl,i6.first rl q fun d1 ah1 m1 H1 v1 p1 k1 rl1 r1 q1=>?_⟩
 refine⟨env,ah1,m1,rl1,i6.first rl1 q1 fun d2 ah2 m2 H2 v2 p2 k2 rl2 r2 q2=>?_⟩
 exact⟨d1,d2,ah2,m2,rl2.sim,r1.mono p2 k2,r2,q2⟩
theorem b8L{o:B}{op:Operator}(h:o.bin=some op)(ha:PE X a (TEv Γ Ex (ev ct c x)))(hb:PE X b (TEv Γ Ex (ev ct c y))):PE X (.BinOp a op b pos) (TEv Γ Ex (ev ct c (.bin o x y))):=by
 refine PE.imp (b6W (b7X (Γ:=Γ) (E:=Ex) h) ha hb) fun σ H Q q=>two (r:=rOf Γ Ex (op2 o)) ha hb σ H Q ?_
 simpa only[TEv,ev] using q
theorem b8J{o:B}{op:CmpOp}(hu:X.A.units+8<cLine)(hK:X.K=Γ.K)(h:o.cmp=some op)(ha:PE X a (TEv Γ Ex (ev ct c x)))(hb:PE X b (TEv Γ Ex (ev ct c y)))(hm:behindInMarks op b=false):PE X (.Compare a [op] [b] pos) (TEv Γ Ex (ev ct c (.bin o x y))):=by
 refine PE.imp (a3V (a1k (Γ:=Γ) (E:=Ex) hu hK h) ha hb hm) fun σ H Q q=>two (r:=rOf Γ Ex (op2 o)) ha hb σ H Q ?_
 simpa only[TEv,ev] using q
theorem a1G{f:j9->AH->R D}{t:TE}(h:∀σ H Q,TEv Γ Ex f σ H Q->t σ H Q):∀σ H Q,TTv Γ Ex (fun env h=>asB (f env h)) σ H Q->a8H t σ H Q:=by
 rintro σ H Q ⟨env,ah,m,rl,q⟩;exact h σ H _ ⟨env,ah,m,rl,q.bool.mp fun v H1 ⟨k,e,_,_,_,_,_,w⟩=>⟨k,e,w⟩⟩
theorem b6d{o:B}{op:CmpOp}(hu:X.A.units+8<cLine)(hK:X.K=Γ.K)(h:o.cmp=some op)(ha:PE X a (TEv Γ Ex (ev ct c x)))(hb:PE X b (TEv Γ Ex (ev ct c y)))(hm:behindInMarks op b=false):PT X (.Compare a [op] [b] pos) (TTv Γ Ex (tst ct c (.cmp o x y))):=by
 refine PT.imp (a3U (a1k (Γ:=Γ) (E:=Ex) hu hK h) ha hb hm) fun σ H Q q=>a1G (two (r:=rOf Γ Ex (op2 o)) ha hb) σ H Q ?_
 simpa only[TTv,tst] using q
theorem a3R{m:List Addr}{H:Hp}{d:D}{v:V}(r:Rp m H d v):decide (v=.non)=decide (d=.non):=by
 cases d with
 |non=>cases r;rfl
 |bl _=>cases r;rfl
 |int _=>cases r;rfl
 |str _=>cases r;rfl
 |tup _=>obtain⟨_,_,rfl,_⟩:=r;rfl
 |ref _=>obtain⟨_,rfl,_⟩:=r;rfl
theorem b8G{j p'}(ha:PE X a (TEv Γ Ex (ev ct c x))):PE X (.Compare a [.Is] [.Constant .none j p'] pos) (TEv Γ Ex (ev ct c (.isN x))):=by
 refine PE.imp (a9s (a9u ha)) ?_
 rintro σ H Q ⟨env,ah,m,rl,q⟩;rw[ev] at q;refine⟨env,ah,m,rl,i6.first rl q fun d1 ah1 m1 H1 v1 p1 k1 rl1 r1 q1=>?_⟩
 rw[a3R r1];exact q1.ok rl1.sim rfl
theorem b5U{j p'}(ha:PE X a (TEv Γ Ex (ev ct c x))):PE X (.Compare a [.IsNot] [.Constant .none j p'] pos) (TEv Γ Ex (ev ct c (.notN x))):=by
 refine PE.imp (a9s (a6W ha)) ?_
 rintro σ H Q ⟨env,ah,m,rl,q⟩;rw[ev] at q;refine⟨env,ah,m,rl,i6.first rl q fun d1 ah1 m1 H1 v1 p1 k1 rl1 r1 q1=>?_⟩
 rw[a3R r1];exact q1.ok rl1.sim rfl
theorem b5V{j p'}(ha:PE X a (TEv Γ Ex (ev ct c x))):PT X (.Compare a [.Is] [.Constant .none j p'] pos) (TTv Γ Ex (tst ct c (.isN x))):=by
 refine PT.imp (a9c (a9u ha)) ?_
 rintro σ H Q ⟨env,ah,m,rl,q⟩;rw[tst] at q;refine⟨env,ah,m,rl,n5.first rl q fun d1 ah1 m1 H1 v1 p1 k1 rl1 r1 q1=>?_⟩
 rw[a3R r1];exact⟨_,rfl,q1.ok rl1.sim⟩
theorem b3r{j p'}(ha:PE X a (TEv Γ Ex (ev ct c x))):PT X (.Compare a [.IsNot] [.Constant .none j p'] pos) (TTv Γ Ex (tst ct c (.notN x))):=by
 refine PT.imp (a9c (a6W ha)) ?_
 rintro σ H Q ⟨env,ah,m,rl,q⟩;rw[tst] at q;refine⟨env,ah,m,rl,n5.first rl q fun d1 ah1 m1 H1 v1 p1 k1 rl1 r1 q1=>?_⟩
 rw[a3R r1];exact⟨_,rfl,q1.ok rl1.sim⟩
theorem b8E(ha:PE X a (TEv Γ Ex (ev ct c x))):PE X (.UnaryOp .USub a pos) (TEv Γ Ex (ev ct c (.neg x))):=by
 refine PE.imp (b6U b3G ha) ?_
 rintro σ H Q ⟨env,ah,m,rl,q⟩;rw[ev] at q;refine⟨env,ah,m,rl,i6.first rl q fun d1 ah1 m1 H1 v1 p1 k1 rl1 r1 q1=>?_⟩
 cases d1<;>first|exact q1.elim|skip
 cases r1;exact⟨_,rfl,q1.ok rl1.sim rfl⟩
theorem i6.firstB{σ:St}{H:Hp}{env:j9}{ah:AH}{m:List Addr}{r:R D}{f:Bool->AH->R D}{Q Q':VK}(rl:Rel Γ env ah σ H m)(h:i6 Γ Ex m H ((asB r).bind f) Q)
 (k:∀b ah1 m1 H1,Pre m m1->Keep m m1 H H1->Rel Γ env ah1 σ H1 m1->i6 Γ Ex m1 H1 (f b ah1) Q->Q' (.bl b) H1):i6 Γ Ex m H r Q':=by
 refine h.bind.bool.mp fun v H1 hh=>?_
 obtain⟨b,rfl,ah2,m2,p2,k2,s2,w⟩:=hh;exact k b ah2 m2 H1 p2 k2 (rl.on p2 k2 s2) w
theorem b9N(ha:PE X a (TEv Γ Ex (ev ct c x))):PE X (.UnaryOp .Not a pos) (TEv Γ Ex (ev ct c (.nt x))):=by
 refine PE.imp (b4r ha) ?_
 rintro σ H Q ⟨env,ah,m,rl,q⟩;rw[ev] at q;exact⟨env,ah,m,rl,i6.firstB rl q fun b ah1 m1 H1 p1 k1 rl1 q1=>⟨b,rfl,q1.ok rl1.sim rfl⟩⟩
theorem b9S{d9:List Expr}(ha:PE X a (TEv Γ Ex (ev ct c x)))(hb:PE X (.BoolOp .And (b::d9) pos) (TEv Γ Ex (ev ct c y))):PE X (.BoolOp .And (a::b::d9) pos) (TEv Γ Ex (ev ct c (.an x y))):=by
 refine PE.imp (b4w ha hb) ?_
 rintro σ H Q ⟨env,ah,m,rl,q⟩;rw[ev] at q;refine⟨env,ah,m,rl,i6.firstB rl q fun k ah1 m1 H1 p1 k1 rl1 q1=>⟨k,rfl,?_⟩⟩
 cases k with
 |true=>rw[if_pos rfl] at q1⊢;exact⟨env,ah1,m1,rl1,q1⟩
 |false=>rw[if_neg (by decide)] at q1⊢;exact q1.ok rl1.sim rfl
theorem b8A{d9:List Expr}(ha:PE X a (TEv Γ Ex (ev ct c x)))(hb:PE X (.BoolOp .Or (b::d9) pos) (TEv Γ Ex (ev ct c y))):PE X (.BoolOp .Or (a::b::d9) pos) (TEv Γ Ex (ev ct c (.orr x y))):=by
 refine PE.imp (b6V ha hb) ?_
 rintro σ H Q ⟨env,ah,m,rl,q⟩;rw[ev] at q;refine⟨env,ah,m,rl,i6.firstB rl q fun k ah1 m1 H1 p1 k1 rl1 q1=>⟨k,rfl,?_⟩⟩
 cases k with
 |true=>rw[if_pos rfl] at q1⊢;exact q1.ok rl1.sim rfl
 |false=>rw[if_neg (by decide)] at q1⊢;exact⟨env,ah1,m1,rl1,q1⟩
variable{t u:T}{v:List Expr}
theorem b8x(he:∀whole,isTrue e X.env whole=(do let v←whole;standAt e.pos;holding [v] (truthy v)))(ha:PE X e (TEv Γ Ex (ev ct c x))):PT X e (TTv Γ Ex (tst ct c (.val x))):=by
 refine PT.imp (a9a ha he) ?_
 rintro σ H Q ⟨env,ah,m,rl,q⟩;rw[tst] at q;refine⟨env,ah,m,rl,q.bool.mp fun v H1 hh=>?_⟩
 obtain⟨b,rfl,ah2,m2,p2,k2,s2,w⟩:=hh;exact⟨b,rfl,w⟩
theorem TTv.next{σ:St}{H:Hp}{env:j9}{ah:AH}{m:List Addr}{r:R Bool}{f:Bool->AH->R Bool}{Q Q':Bool->Hp->Prop}(rl:Rel Γ env ah σ H m)(h:n5 Γ Ex m H (r.bind f) (fun b _ _ H1=>Q b H1))
 (k:∀b ah1 m1 H1,Pre m m1->Keep m m1 H H1->Rel Γ env ah1 σ H1 m1->n5 Γ Ex m1 H1 (f b ah1) (fun b _ _ H1=>Q b H1)->Q' b H1):n5 Γ Ex m H r (fun b _ _ H1=>Q' b H1):=
 h.bind.mp fun b ah1 m1 H1 p1 k1 s1 q1=>k b ah1 m1 H1 p1 k1 (rl.on p1 k1 s1) q1
theorem b8C(ha:PT X a (TTv Γ Ex (tst ct c t))):PT X (.UnaryOp .Not a pos) (TTv Γ Ex (tst ct c (.nt t))):=by
 refine PT.imp (b4c ha) ?_
 rintro σ H Q ⟨env,ah,m,rl,q⟩;rw[tst] at q;exact⟨env,ah,m,rl,TTv.next rl q fun b ah1 m1 H1 p1 k1 rl1 q1=>q1.ok rl1.sim⟩
theorem b8N{d9:List Expr}(ha:PT X a (TTv Γ Ex (tst ct c t)))(hb:PW X (.BoolOp .And (b::d9) pos) (TTv Γ Ex (tst ct c u))):PW X (.BoolOp .And (a::b::d9) pos) (TTv Γ Ex (tst ct c (.an t u))):=by
 refine PW.imp (b4a ha hb) ?_
 rintro σ H Q ⟨env,ah,m,rl,q⟩;rw[tst] at q;refine⟨env,ah,m,rl,TTv.next rl q fun k ah1 m1 H1 p1 k1 rl1 q1=>?_⟩
 cases k with
 |true=>rw[if_pos rfl] at q1⊢;exact⟨env,ah1,m1,rl1,q1⟩
 |false=>rw[if_neg (by decide)] at q1⊢;exact q1.ok rl1.sim
theorem b8B{d9:List Expr}(ha:PT X a (TTv Γ Ex (tst ct c t)))(hb:PW X (.BoolOp .Or (b::d9) pos) (TTv Γ Ex (tst ct c u))):PW X (.BoolOp .Or (a::b::d9) pos) (TTv Γ Ex (tst ct c (.orr t u))):=by
 refine PW.imp (b6S ha hb) ?_
 rintro σ H Q ⟨env,ah,m,rl,q⟩;rw[tst] at q;refine⟨env,ah,m,rl,TTv.next rl q fun k ah1 m1 H1 p1 k1 rl1 q1=>?_⟩
 cases k with
 |true=>rw[if_pos rfl] at q1⊢;exact q1.ok rl1.sim
 |false=>rw[if_neg (by decide)] at q1⊢;exact⟨env,ah1,m1,rl1,q1⟩
theorem b3C{o p:B}{op op':CmpOp}(ha:PE X a (TEv Γ Ex (ev ct c x))):∀σ H Q,TEv Γ Ex (fun env h=>(ev ct c x env h).bind fun x1 h1=>(ev ct c y env h1).bind fun y1 h2=>(asB (op2 o h2 x1 y1)).bind fun k h3=>if k=true then(ev ct c z env h3).bind fun z1 h4=>op2 p h4 y1 z1 else .ok (.bl false) h3) σ H Q→
 a5X (rOf Γ Ex (op2 o)) (rOf Γ Ex (op2 p)) (TEv Γ Ex (ev ct c x)) (TEv Γ Ex (ev ct c y)) (TEv Γ Ex (ev ct c z)) σ H Q:=by
 rintro σ H Q ⟨env,ah,m,rl,q⟩;refine⟨env,ah,m,rl,i6.first rl q fun d1 ah1 m1 H1 v1 p1 k1 rl1 r1 q1=>?_⟩
 refine⟨env,ah1,m1,rl1,i6.first rl1 q1 fun d2 ah2 m2 H2 v2 p2 k2 rl2 r2 q2=>?_⟩
 refine⟨d1,d2,ah2,m2,rl2.sim,r1.mono p2 k2,r2,i6.firstB rl2 q2 fun k ah3 m3 H3 p3 k3 rl3 q3=>⟨k,rfl,?_⟩⟩
 cases k with
 |false=>rw[if_neg (by decide)] at q3⊢;exact q3.ok rl3.sim rfl
 |true=>
  rw[if_pos rfl] at q3⊢;refine⟨env,ah3,m3,rl3,i6.first rl3 q3 fun d4 ah4 m4 H4 v4 p4 k4 rl4 r4 q4=>?_⟩
  exact⟨d2,d4,ah4,m4,rl4.sim,r2.mono (p3.trans p4) (k3.trans k4),r4,q4⟩
theorem b8K{o p:B}{op op':CmpOp}(hu:X.A.units+8<cLine)(hK:X.K=Γ.K)(h:o.cmp=some op)(h':p.cmp=some op')(ha:PE X a (TEv Γ Ex (ev ct c x)))(hb:PE X b (TEv Γ Ex (ev ct c y)))(hd:PE X d (TEv Γ Ex (ev ct c z)))(hm:lastMarks [op,op'] [b,d]=false):
 PE X (.Compare a [op,op'] [b,d] pos) (TEv Γ Ex (ev ct c (.chn o p x y z))):=by
 refine PE.imp (a9t (a1k (Γ:=Γ) (E:=Ex) hu hK h) (a1k (Γ:=Γ) (E:=Ex) hu hK h') ha hb hd hm) fun σ H Q q=>b3C (op:=op) (op':=op') ha σ H Q ?_
 simpa only[TEv,ev] using q
theorem b6e{o p:B}{op op':CmpOp}(hu:X.A.units+8<cLine)(hK:X.K=Γ.K)(h:o.cmp=some op)(h':p.cmp=some op')(ha:PE X a (TEv Γ Ex (ev ct c x)))(hb:PE X b (TEv Γ Ex (ev ct c y)))(hd:PE X d (TEv Γ Ex (ev ct c z)))(hm:lastMarks [op,op'] [b,d]=false):
 PT X (.Compare a [op,op'] [b,d] pos) (TTv Γ Ex (tst ct c (.chn o p x y z))):=by
 refine PT.imp (a9d (a1k (Γ:=Γ) (E:=Ex) hu hK h) (a1k (Γ:=Γ) (E:=Ex) hu hK h') ha hb hd hm) fun σ H Q q=>a1G (b3C (op:=op) (op':=op') (o:=o) (p:=p) (y:=y) (z:=z) ha) σ H Q ?_
 simpa only[TTv,tst] using q
theorem b9Q(hu:X.A.units+8<cLine)(hK:X.K=Γ.K)(ha:PE X a (TEv Γ Ex (ev ct c x)))(hb:PE X b (TEv Γ Ex (ev ct c y)))(hs:a1U b):PE X (.Subscript a b pos) (TEv Γ Ex (ev ct c (.ix x y))):=by
 refine PE.imp (b3v (b7U (Γ:=Γ) (E:=Ex) hu hK) ha hb hs) fun σ H Q q=>two (r:=rOf Γ Ex ixD) ha hb σ H Q ?_
 simpa only[TEv,ev] using q
theorem b9M:PO X none (TOv Γ Ex (evo ct c .no)):=by
 refine PO.imp b1Y ?_
 rintro σ H Q ⟨env,ah,m,rl,q⟩;rw[evo] at q;exact q.ok rl.sim
theorem b9L(ha:PE X a (TEv Γ Ex (ev ct c x))):PO X (some a) (TOv Γ Ex (evo ct c (.at x))):=by
 refine PO.imp (b1X ha) ?_
 rintro σ H Q ⟨env,ah,m,rl,q⟩;rw[evo,a7j] at q;refine⟨env,ah,m,rl,n5.first rl q fun d1 ah1 m1 H1 v1 p1 k1 rl1 r1 q1=>?_⟩
 cases d1<;>first|exact q1.elim|skip
 cases r1;exact⟨_,rfl,q1.ok rl1.sim⟩
variable{l h:Option Expr}{ol oh:O}
theorem b9K{p2:Pos}(hK:X.K=Γ.K)(ha:PE X a (TEv Γ Ex (ev ct c x)))(hl:PO X l (TOv Γ Ex (evo ct c ol)))(hh:PO X h (TOv Γ Ex (evo ct c oh))):PE X (.Subscript a (.Slice l h none p2) pos) (TEv Γ Ex (ev ct c (.sl x ol oh))):=by
 refine PE.imp (a9n (b9B (Γ:=Γ) (E:=Ex) hK) ha hl hh) ?_
 rintro σ H Q ⟨env,ah,m,rl,q⟩;rw[ev] at q;refine⟨env,ah,m,rl,i6.first rl q fun d1 ah1 m1 H1 v1 p1 k1 rl1 r1 q1=>?_⟩
 refine⟨env,ah1,m1,rl1,q1.bind.mp fun lo ah2 m2 H2 p2 k2 s2 q2=>?_⟩
 refine⟨env,ah2,m2,rl1.on p2 k2 s2,q2.bind.mp fun hi ah3 m3 H3 p3 k3 s3 q3=>?_⟩
 exact⟨d1,ah3,m3,s3,r1.mono (p2.trans p3) (k2.trans k3),q3⟩
variable{es:List Expr}{xs:Es}
theorem b8D:PA X [] (TAv Γ Ex (evs ct c .nil)):=by
 refine PA.imp a0u ?_
 rintro σ H Q ⟨env,ah,m,rl,q⟩;rw[evs] at q;exact q.ok rl.sim [] rfl
theorem b6b(ha:PE X a (TEv Γ Ex (ev ct c x)))(hr:PA X es (TAv Γ Ex (evs ct c xs)))(hs:starEach (a::es) X.env=(false,eval a X.env)::starEach es X.env):PA X (a::es) (TAv Γ Ex (evs ct c (.cons x xs))):=by
 refine PA.imp (M0 ha hr hs) ?_
 rintro σ H Q ⟨env,ah,m,rl,q⟩;rw[evs] at q;refine⟨env,ah,m,rl,n5.first rl q fun d1 ah1 m1 H1 v1 p1 k1 rl1 r1 q1=>?_⟩
 refine⟨env,ah1,m1,rl1,q1.bind.mp fun ds ah2 m2 H2 p2 k2 s2 q2=>fun vs rs=>?_⟩
 exact q2.ok s2 (v1::vs) ⟨v1,vs,rfl,r1.mono p2 k2,rs⟩
theorem b8F(ha:PA X es (TAv Γ Ex (evs ct c xs))):PE X (.List es pos) (TEv Γ Ex (ev ct c (.lst xs))):=by
 refine PE.imp (b4t ha) ?_
 rintro σ H Q ⟨env,ah,m,rl,q⟩;rw[ev] at q;refine⟨env,ah,m,rl,q.bind.mp fun ds ah1 m1 H1 p1 k1 s1 q1=>fun vs rs=>?_⟩
 split at q1
 · rename_i hl;exact⟨by rw[rs.len,←Q3];exact hl,fun p hp=>q1.newc s1 hp ⟨_,g9,rs.mono (Pre.snoc m1 p) (Keep.newc hp)⟩⟩
 · exact q1.elim
theorem b8y{k:Nat}(ha:PA X es (TAv Γ Ex (evs ct c xs))):PE X (.Tuple es k pos) (TEv Γ Ex (ev ct c (.tup xs))):=by
 refine PE.imp (b4p ha) ?_
 rintro σ H Q ⟨env,ah,m,rl,q⟩;rw[ev] at q;refine⟨env,ah,m,rl,q.bind.mp fun ds ah1 m1 H1 p1 k1 s1 q1=>fun vs rs=>?_⟩
 split at q1
 · rename_i hl;exact⟨by rw[rs.len,←Q3];exact hl,fun p hp=>q1.newt s1 hp rs⟩
 · exact q1.elim
theorem b5Y:PE X (.Dict [] [] pos) (TEv Γ Ex (ev ct c .dnew)):=by
 refine PE.imp a9q ?_
 rintro σ H Q ⟨env,ah,m,rl,q⟩;rw[ev] at q;exact fun p hp=>q.newc rl.sim hp (.inl ⟨[],g9,.nil⟩)
theorem b8M{b:Bi}(ha:PA X es (TAv Γ Ex (evs ct c xs))):∀σ H Q,TEv Γ Ex (ev ct c (.bi b xs)) σ H Q->tCB (rBi Γ Ex b) (TAv Γ Ex (evs ct c xs)) σ H Q:=by
 rintro σ H Q ⟨env,ah,m,rl,q⟩;rw[ev] at q;exact⟨env,ah,m,rl,q.bind.mp fun ds ah1 m1 H1 p1 k1 s1 q1=>fun vs rs=>⟨ds,ah1,m1,s1,rs,q1⟩⟩
end
end EV
namespace EV
open PySem PySem.Spec L2
open PyProof.Rows hiding St
def a3M(Γ:Gm)(c:CF)(f np:Nat):Sp:=fun vs H Q E=>∃ds ah m,ds.length=np/\Rps m H ds vs/\Sim Γ ah m H/\i6 Γ E m H (c f ds ah) Q
theorem i9{a:Expr}{es:List Expr}{env:Env}(h:o9 a=true):starEach (a::es) env=(false,eval a env)::starEach es env:=by
 cases a<;>first|rfl|cases h
theorem O9{pos:Pos}{env:Env}:∀{es:List Expr},es.all o9=true->(backTo pos (starEach es env)).any (·.1)=false
 |[],_=>rfl
 |a::es,h=>by
  rw[List.all_cons,Bool.and_eq_true] at h;rw[i9 h.1];exact O9 (es:=es) h.2
theorem a2Z{pos:Pos}{env:Env}:∀{es:List Expr},es.all o9=true->(backTo pos (starEach es env)).all (fun x=>!x.1)=true
 |[],_=>rfl
 |a::es,h=>by
  rw[List.all_cons,Bool.and_eq_true] at h;rw[i9 h.1];exact a2Z (es:=es) h.2
theorem V9{o:Expr}{f:Str}{env:Env}{w:Sem Value}(h:U8 o=true):attributeBase o f env w=w:=by
 unfold attributeBase
 split
 · cases h
 · rfl
def a8u(P:Program)(w:World)(K:PySem.W.Frag)(a:Addr)(gs:List (Key×V)):Prop:=(a==sysModules)=false/\∃vs,KV gs vs/\∀h:Heap,K.In h->h.DictOf (u5 P w) a vs
structure Cxt(X:Cx)(Γ:Gm)(G:GT)(ct:CT)(c:CF)(Ex:XK)(N:List Str)(sc:Scope)(dfn:Bool):Prop where
 hN:X.N=N
 nd:N.Nodup
 sc:X.env.scope=sc
 calm:X.calm=true
 hu:X.A.units+8<cLine
 K:X.K=Γ.K
 fnb:dfn=true->∀x,X.fn x=true
 scal:∀x d,G.scal.lookup x=some d->∃u v,X.mg x=some u/\n4 v u/\∀m H,Rp m H d v
 tups:∀x ds,G.tups.lookup x=some ds->∃a vs,X.mg x=some (.ref a)/\(∀H,SqT X.K H a vs)/\∀m H,Rps m H ds vs
 dicts:∀x kvs,G.dicts.lookup x=some kvs->∃a gs,X.mg x=some (.ref a)/\a8u X.prog X.w X.K a gs/\∀m H,DK m H kvs gs
 blt:∀x,G.blt.contains x=true->X.mg x=none
 fn:∀x f np,G.fn.lookup x=some (f,np)->∃k a fd ps,ps.length=np/\Room k X.A/\X.mg x=some (.ref a)/\PySem.W.keepIn X.K (.ref a)=true/\R7 X.K fd ps []/\FnOk X.prog X.w X.K X.mg X.base CX0 k a fd ps (a3M Γ c f np)/\∀ds h,ds.length≠np->c f ds h=.no
 obj:∀x k,G.obj.lookup x=some k->k∈Γ.ob/\∃r a fd ps,ps.length=1/\Room (r+1) X.A/\Mk X.K (Γ.cA k) a/\X.mg x=some (.ref (Γ.cA k))/\R7 X.K fd ps []/\FnOk X.prog X.w X.K X.mg X.base CX0 r a fd ps (a3M Γ c (ct.init k) 1)
 att:∀k,k∈Γ.ob->Cls X.K (Γ.cA k)/\∀f,G.atts.contains f=true->Z0 X.K (Γ.cA k) f
section
variable{X:Cx}{Γ:Gm}{G:GT}{ct:CT}{c:CF}{Ex:XK}{N:List Str}{sc:Scope}{dfn:Bool}{e a b:Expr}{es:List Expr}{pos p:Pos}{x y z:E}{xs:Es}
theorem X9{n:Str}(h:K8 sc n=true):sc.names.lookup n=some .globalImplicit/\(n==("__debug__":Str))=false/\n≠"__name__":=by
 unfold K8 at h;rw[Bool.and_eq_true,Bool.and_eq_true] at h;exact⟨of_decide_eq_true h.1.1,beq_eq_false_iff_ne.mpr (of_decide_eq_true h.1.2),of_decide_eq_true h.2⟩
theorem Cxt.gl(C:Cxt X Γ G ct c Ex N sc dfn){n:Str}(h:K8 sc n=true):Gl X n:=by
 show X.env.scope.names.lookup n=_
 rw[C.sc];exact(X9 h).1
theorem Cxt.vis(C:Cxt X Γ G ct c Ex N sc dfn){n:Str}(h:a9R sc n=true):Vis X.env.scope n:=by
 rw[C.sc];unfold a9R at h;unfold Vis
 split at h
 · rename_i e;exact .inl e
 · rename_i e;exact .inr (.inl e)
 · rename_i e;exact .inr (.inr e)
 · cases h
theorem a4n{N:List Str}{n:Str}{i:Nat}(h:N.idxOf? n=some i):N[i]? =some n:=by
 unfold List.idxOf? at h;rw[List.findIdx?_eq_some_iff_getElem] at h
 obtain⟨h1,h2,_⟩:=h;rw[List.getElem?_eq_getElem h1]
 exact congrArg some (eq_of_beq h2)
theorem b6f{n:Str}{f np:Nat}(C:Cxt X Γ G ct c Ex N sc dfn)(hf:G.fn.lookup n=some (f,np))(hg:K8 sc n=true)(hp:(a::es).all o9=true)(ha:PA X (a::es) (TAv Γ Ex (evs ct c xs))):
 PE X (.Call (.Name n p) (a::es) [] pos) (TEv Γ Ex (ev ct c (.call f xs))):=by
 obtain⟨k,ad,fd,ps,h1,h2,h3,h4,h5,h6,h7⟩:=C.fn n f np hf;rw[List.all_cons,Bool.and_eq_true] at hp;refine PE.imp (b2g h6 h2 (C.gl hg) h3 h4 h5 .nil b3w ha (X9 hg).2.1 (i9 hp.1) (O9 hp.2)) ?_
 rintro σ H Q ⟨env,ah,m,rl,q⟩;rw[ev] at q;refine⟨env,ah,m,rl,q.bind.mp fun ds ah1 m1 H1 p1 k1 s1 q1=>fun vs rs=>⟨ds,ah1,m1,?_,by rw[List.append_nil];exact rs,s1,q1⟩⟩
 by_cases hl:ds.length=np
 · exact hl
 · rw[h7 ds ah1 hl] at q1;exact q1.elim
theorem b9P{n:Str}{k:Nat}(C:Cxt X Γ G ct c Ex N sc dfn)(hf:G.obj.lookup n=some k)(hg:K8 sc n=true):PE X (.Call (.Name n p) [] [] pos) (TEv Γ Ex (ev ct c (.mk k .nil))):=by
 obtain⟨hk,r,ad,fd,ps,h1,h2,h3,h4,h5,h6⟩:=C.obj n k hf;refine PE.imp (a9o h3 h6 h2 (C.gl hg) h4 h5 .nil b3w (X9 hg).2.1) ?_
 rintro σ H Q ⟨env,ah,m,rl,q⟩;rw[ev,evs,k7] at q;intro x dx hx hdx hne
 have kp:Keep m (m++[x]) H (upd (upd H dx (.own x)) x (.ins (Γ.cA k) dx [])):=(Keep.new hdx).trans (Keep.newc (by rw[l8 (Ne.symm hne)];exact hx))
 have s1:Sim Γ (ah++[.obj k []]) (m++[x]) (upd (upd H dx (.own x)) x (.ins (Γ.cA k) dx [])):=(rl.sim.new (o:=.own x) hdx).alloc (by rw[l8 (Ne.symm hne)];exact hx) ⟨dx,[],g9,.nil,hk⟩
 refine⟨[.ref ah.length],ah++[.obj k []],m++[x],rfl,⟨.ref x,[],rfl,⟨x,rfl,?_⟩,rfl⟩,s1,?_⟩
 · rw[←rl.sim.len,List.getElem?_append_right (Nat.le_refl _)];simp
 · refine(q.bind.later (Pre.snoc m x) kp).val fun d ah1 m1 H1 v p1 k1 s1 r1 q1=>?_
   cases d<;>first|exact q1.elim|skip
   cases r1;refine⟨rfl,q1.ok s1 ⟨x,rfl,p1.get ?_⟩⟩
   rw[←rl.sim.len,List.getElem?_append_right (Nat.le_refl _)];simp
theorem b8H{f:Str}(C:Cxt X Γ G ct c Ex N sc dfn)(hb:U8 a=true)(hf:G.atts.contains f=true)(ha:PE X a (TEv Γ Ex (ev ct c x))):PE X (.Attribute a f pos) (TEv Γ Ex (ev ct c (.fld x f))):=by
 refine PE.imp (b4u (pos:=pos) ha (V9 (f:=f) hb)) ?_
 rintro σ H Q ⟨env,ah,m,rl,q⟩;rw[ev] at q;refine⟨env,ah,m,rl,i6.first rl q fun d1 ah1 m1 H1 v1 p1 k1 rl1 r1 q1=>?_⟩
 unfold V2 at q1
 split at q1
 · split at q1
   · rename_i k fs e2
     split at q1
     · rename_i d e3;obtain⟨ad,rfl,hm1⟩:=r1;obtain⟨dx,gs,g1,g2,g3⟩:=rl1.sim.at hm1 e2;obtain⟨w,hw,rw'⟩:=g2.look e3;obtain⟨a1,a2⟩:=C.att k g3;exact⟨ad,Γ.cA k,dx,gs,w,rfl,g1,a1,a2 f hf,hw,q1.ok rl1.sim rw'⟩
     · exact q1.elim
   · exact q1.elim
 · exact q1.elim
theorem b3E{t:Bool}{y:Str}(ht:(y="bool"/\t=false)∨(y="int"/\t=true))(C:Cxt X Γ G ct c Ex N sc dfn)(hg:K8 sc "isinstance"=true)(hm:X.mg "isinstance"=none)(hg2:K8 sc y=true)(hm2:X.mg y=none)(hp:o9 a=true)(ha:PE X a (TEv Γ Ex (ev ct c x))){p2:Pos}:
 PE X (.Call (.Name "isinstance" p) [a,.Name y p2] [] pos) (TEv Γ Ex (ev ct c (.isi t x))):=by
 obtain⟨T,hT,k1,k2⟩:∃T:String,PE X (.Name y p2) (tC (.ty T))/\PySem.W.kitOne X.K (.type "bool") (.type T)=some true/\PySem.W.kitOne X.K (.type "int") (.type T)=some t:=by
  rcases ht with⟨rfl,rfl⟩|⟨rfl,rfl⟩
  · exact⟨"bool",a6V (C.gl hg2) hm2 PyProof.Rows.boot_bool rfl (by decide) (by decide),by unfold PySem.W.kitOne;rw[if_pos (by simp)],by with_unfolding_all rfl⟩
  · exact⟨"int",a6V (C.gl hg2) hm2 PyProof.Rows.boot_int rfl (by decide) (by decide),by with_unfolding_all rfl,by unfold PySem.W.kitOne;rw[if_pos (by simp)]⟩
 have PAab:PA X [a,.Name y p2] (a4W (TEv Γ Ex (ev ct c x)) (a4W (tC (.ty T)) b1B)):=M0 ha (M0 hT a0u (i9 rfl)) (i9 hp)
 refine PE.imp (T9 b0I (C.gl hg) hm PyProof.Rows.boot_isinstance PAab (by decide) (by decide) (i9 hp) (O9 rfl)) ?_
 rintro σ H Q ⟨env,ah,m,rl,q⟩;rw[ev] at q;refine⟨env,ah,m,rl,i6.first rl q fun d1 ah1 m1 H1 v1 p1 k1' rl1 r1 q1=>?_⟩
 cases d1<;>first|exact q1.elim|skip
 · cases r1;exact⟨_,T,_,true,rfl,.bl _,k1,q1.ok rl1.sim rfl⟩
 · cases r1;exact⟨_,T,_,t,rfl,.int _,k2,q1.ok rl1.sim rfl⟩
theorem a7m{neg:Bool}{ds:List D}{ad:Addr}{vs:List V}(h1:∀H,SqT X.K H ad vs)(h2:∀m H,Rps m H ds vs):∀σ H Q,TEv Γ Ex (ev ct c (.gin neg x ds)) σ H Q->tOp (rIn X.K neg) (TEv Γ Ex (ev ct c x)) (tC (.ref ad)) σ H Q:=by
 rintro σ H Q ⟨env,ah,m,rl,q⟩;rw[ev] at q;refine⟨env,ah,m,rl,i6.first rl q fun d1 ah1 m1 H1 v1 p1 k1 rl1 r1 q1=>?_⟩
 split at q1
 · rename_i hf;refine⟨ad,vs,rfl,.inr (h1 H1),K5 r1 hf.1,F6 (h2 m1 H1) hf.2,?_⟩
   rw[Y0 r1 hf.1 (h2 m1 H1) hf.2] at q1
   cases neg with
   |false=>rw[a2H] at q1;exact q1.ok rl1.sim rfl
   |true=>rw[a2G] at q1;exact q1.ok rl1.sim rfl
 · exact q1.elim
theorem b3F{n:Str}{ds:List D}{op:CmpOp}{neg:Bool}(C:Cxt X Γ G ct c Ex N sc dfn)(ho:(op=.In/\neg=false)∨(op=.NotIn/\neg=true))(hg:K8 sc n=true)(ht:G.tups.lookup n=some ds)(ha:PE X a (TEv Γ Ex (ev ct c x))):
 PE X (.Compare a [op] [.Name n p] pos) (TEv Γ Ex (ev ct c (.gin neg x ds)))/\PT X (.Compare a [op] [.Name n p] pos) (TTv Γ Ex (tst ct c (.val (.gin neg x ds)))):=by
 obtain⟨ad,vs,h1,h2,h3⟩:=C.tups n ds ht
 have hb:PE X (.Name n p) (tC (.ref ad)):=a1M (C.gl hg) h1 rfl (X9 hg).2.1
 have ho':OpR X (compareOp op) (rIn X.K neg):=by
  rcases ho with⟨rfl,rfl⟩|⟨rfl,rfl⟩
  · exact Z4
  · exact N4
 refine⟨PE.imp (a3V ho' ha hb rfl) (a7m h2 h3),PT.imp (a3U ho' ha hb rfl) fun σ H Q q=>a1G (a7m (neg:=neg) h2 h3) σ H Q ?_⟩
 simpa only[TTv,tst] using q
def rMd(a:Addr)(gs:List (Key×V))(neg:Bool):R2:=fun x y H Q=>∃k,x=kV k/\y=.ref a/\Q (.bl ((T7 gs k).isSome !=neg)) H
theorem b4D{ad:Addr}{gs:List (Key×V)}(d:a8u X.prog X.w X.K ad gs):OpR X (compareOp .In) (rMd ad gs false):=by
 intro pins s σ H x y v u Q I rx ry h;obtain⟨k,rfl,rfl,q⟩:=h;cases ry;obtain⟨hd,vs,rel,dd⟩:=d;refine wpAny_in_of (X5 rx) hd (dd _ I.kIn).mapOf ?_
 rw[←(rel.val k).isSome_eq];rw[a2H] at q;exact⟨.bl _,H,I.tok _,rfl,q⟩
theorem a7T{ad:Addr}{gs:List (Key×V)}(d:a8u X.prog X.w X.K ad gs):OpR X (compareOp .NotIn) (rMd ad gs true):=by
 intro pins s σ H x y v u Q I rx ry h;obtain⟨k,rfl,rfl,q⟩:=h;cases ry;obtain⟨hd,vs,rel,dd⟩:=d;refine wpAny_notIn_of (X5 rx) hd (dd _ I.kIn).mapOf ?_
 rw[←(rel.val k).isSome_eq];rw[a2G] at q;exact⟨.bl _,H,I.tok _,rfl,q⟩
def rMx(a:Addr)(gs:List (Key×V)):R2:=fun x y H Q=>∃k v,x=.ref a/\y=kV k/\T7 gs k=some v/\Q v H
theorem b9r{ad:Addr}{gs:List (Key×V)}(d:a8u X.prog X.w X.K ad gs):IxR X (rMx ad gs):=by
 rintro value slice pins s σ H x y v u Q I rx ry ⟨k,z,rfl,rfl,hz,q⟩ hs;cases rx;obtain⟨hd,vs,rel,dd⟩:=d;have dd:=dd _ I.kIn;obtain⟨w',hw,rw'⟩:=a0h.some_of (v:=z) (o:=valueAt vs k) (by rw[←hz];exact rel.val k)
 exact b7U.ixd_tail dd.typeIs hs (wpAny_getItem_of (X5 ry) dd.mapOf hw ⟨z,H,I.tok _,rw',q⟩)
theorem a5C{neg:Bool}{kvs:List (D×D)}{ad:Addr}{gs:List (Key×V)}(h2:∀m H,DK m H kvs gs):∀σ H Q,TEv Γ Ex (ev ct c (.gdin neg x kvs)) σ H Q->tOp (rMd ad gs neg) (TEv Γ Ex (ev ct c x)) (tC (.ref ad)) σ H Q:=by
 rintro σ H Q ⟨env,ah,m,rl,q⟩;rw[ev] at q;refine⟨env,ah,m,rl,i6.first rl q fun d1 ah1 m1 H1 v1 p1 k1 rl1 r1 q1=>?_⟩
 split at q1
 · rename_i hf;obtain⟨k,hk⟩:=Option.isSome_iff_exists.mp hf;refine⟨k,Z6 hk r1,rfl,?_⟩
   rw[(h2 m1 H1).some_eq hk] at q1;exact q1.ok rl1.sim rfl
 · exact q1.elim
theorem b0S{n:Str}{kvs:List (D×D)}{op:CmpOp}{neg:Bool}(C:Cxt X Γ G ct c Ex N sc dfn)(ho:(op=.In/\neg=false)∨(op=.NotIn/\neg=true))(hg:K8 sc n=true)(ht:G.dicts.lookup n=some kvs)(ha:PE X a (TEv Γ Ex (ev ct c x))):
 PE X (.Compare a [op] [.Name n p] pos) (TEv Γ Ex (ev ct c (.gdin neg x kvs)))/\PT X (.Compare a [op] [.Name n p] pos) (TTv Γ Ex (tst ct c (.val (.gdin neg x kvs)))):=by
 obtain⟨ad,gs,h1,h2,h3⟩:=C.dicts n kvs ht
 have hb:PE X (.Name n p) (tC (.ref ad)):=a1M (C.gl hg) h1 rfl (X9 hg).2.1
 have ho':OpR X (compareOp op) (rMd ad gs neg):=by
  rcases ho with⟨rfl,rfl⟩|⟨rfl,rfl⟩
  · exact b4D h2
  · exact a7T h2
 refine⟨PE.imp (a3V ho' ha hb rfl) (a5C h3),PT.imp (a3U ho' ha hb rfl) fun σ H Q q=>a1G (a5C (neg:=neg) (ad:=ad) h3) σ H Q ?_⟩
 simpa only[TTv,tst] using q
theorem b5W{n:Str}{kvs:List (D×D)}(C:Cxt X Γ G ct c Ex N sc dfn)(hg:K8 sc n=true)(ht:G.dicts.lookup n=some kvs)(hb:PE X b (TEv Γ Ex (ev ct c y)))(hs:a1U b):
 PE X (.Subscript (.Name n p) b pos) (TEv Γ Ex (ev ct c (.gdix y kvs))):=by
 obtain⟨ad,gs,h1,h2,h3⟩:=C.dicts n kvs ht
 have ha:PE X (.Name n p) (tC (.ref ad)):=a1M (C.gl hg) h1 rfl (X9 hg).2.1
 refine PE.imp (b3v (b9r h2) ha hb hs) ?_
 rintro σ H Q ⟨env,ah,m,rl,q⟩;rw[ev] at q;refine⟨env,ah,m,rl,i6.first rl q fun d1 ah1 m1 H1 v1 p1 k1 rl1 r1 q1=>?_⟩
 split at q1
 · rename_i hf;obtain⟨k,hk⟩:=Option.isSome_iff_exists.mp hf
   split at q1
   · rename_i d hd;obtain⟨v,hv,rv⟩:=((h3 m1 H1).val hk).1 d hd;exact⟨k,v,rfl,Z6 hk r1,hv,q1.ok rl1.sim rv⟩
   · exact q1.elim
 · exact q1.elim
theorem b9R{n:Str}{b:Bi}(C:Cxt X Γ G ct c Ex N sc dfn)(hb:b5N n=some b)(hg:K8 sc n=true)(hm:X.mg n=none)(hp:(a::es).all o9=true)(ha:PA X (a::es) (TAv Γ Ex (evs ct c xs))):
 PE X (.Call (.Name n p) (a::es) [] pos) (TEv Γ Ex (ev ct c (.bi b xs))):=by
 obtain⟨_,hd,hn⟩:=X9 hg;rw[List.all_cons,Bool.and_eq_true] at hp;have s1:=i9 (es:=es) (env:=X.env) hp.1;have s2:=O9 (pos:=pos) (env:=X.env) hp.2
 have go:∀{b:Bi} {t:TE},PE X (.Call (.Name n p) (a::es) [] pos) (tCB (rBi Γ Ex b) (TAv Γ Ex (evs ct c xs)))->PE X (.Call (.Name n p) (a::es) [] pos) (TEv Γ Ex (ev ct c (.bi b xs))):=fun h=>PE.imp h (b8M ha)
 unfold b5N at hb
 repeat' split at hb
 all_goals (first|(cases hb;done)|(cases hb;rename_i e;subst e))
 · exact go (t:=tCB (rBi Γ Ex .len) (TAv Γ Ex (evs ct c xs))) (T9 (b8k C.K) (C.gl hg) hm PySem.boot_len ha hn hd s1 s2)
 · exact go (t:=tCB (rBi Γ Ex .len) (TAv Γ Ex (evs ct c xs))) (L3 b8i (C.gl hg) hm PyProof.Rows.boot_str ha hn hd s1 s2)
 · exact go (t:=tCB (rBi Γ Ex .len) (TAv Γ Ex (evs ct c xs))) (L3 b8l (C.gl hg) hm PyProof.Rows.boot_int ha hn hd s1 s2)
 · exact go (t:=tCB (rBi Γ Ex .len) (TAv Γ Ex (evs ct c xs))) (L3 (b3g C.K) (C.gl hg) hm PyProof.Rows.boot_tuple ha hn hd s1 s2)
 · exact go (t:=tCB (rBi Γ Ex .len) (TAv Γ Ex (evs ct c xs))) (L3 (b5J C.K) (C.gl hg) hm PyProof.Rows.boot_list ha hn hd s1 s2)
 · exact go (t:=tCB (rBi Γ Ex .len) (TAv Γ Ex (evs ct c xs))) (T9 (b8n C.calm C.K) (C.gl hg) hm PyProof.Rows.boot_all ha hn hd s1 s2)
 · exact go (t:=tCB (rBi Γ Ex .len) (TAv Γ Ex (evs ct c xs))) (T9 (b8m C.calm C.K) (C.gl hg) hm PyProof.Rows.boot_any ha hn hd s1 s2)
 · exact go (t:=tCB (rBi Γ Ex .len) (TAv Γ Ex (evs ct c xs))) (T9 (b8j C.calm) (C.gl hg) hm PyProof.Rows.boot_max ha hn hd s1 s2)
 · exact go (t:=tCB (rBi Γ Ex .len) (TAv Γ Ex (evs ct c xs))) (T9 (b8h C.calm C.K) (C.gl hg) hm PyProof.Rows.boot_sum ha hn hd s1 s2)
 · exact go (t:=tCB (rBi Γ Ex .len) (TAv Γ Ex (evs ct c xs))) (L3 (b5K C.calm C.K) (C.gl hg) hm PyProof.Rows.boot_dict ha hn hd s1 s2)
theorem a4d{b:Mt}{T:String}(hK:X.K=Γ.K)(hT:(T="list"/\b=.append)∨(T="str"/\(b=.split∨b=.join∨b=.starts))):∀σ H Q,TEv Γ Ex (ev ct c (.mt b x xs)) σ H Q->tBM X.K T (rMt Γ Ex b) (TEv Γ Ex (ev ct c x)) (TAv Γ Ex (evs ct c xs)) σ H Q:=by
 rintro σ H Q ⟨env,ah,m,rl,q⟩;rw[ev] at q;refine⟨env,ah,m,rl,i6.first rl q fun d1 ah1 m1 H1 v1 p1 k1 rl1 r1 q1=>?_⟩
 split at q1
 · rename_i ht;refine⟨?_,env,ah1,m1,rl1,q1.bind.mp fun ds ah2 m2 H2 p2 k2 s2 q2=>fun vs rs=>⟨d1,ds,ah2,m2,s2,r1.mono p2 k2,rs,q2⟩⟩
   unfold mtT at ht
   split at ht
   · cases r1
     rcases hT with⟨rfl,rfl⟩|⟨rfl,_⟩
     · cases ht
     · rfl
   · rename_i n
     rcases hT with⟨rfl,hb⟩|⟨rfl,rfl|rfl|rfl⟩
     · have hs:(rdL ah1 n).isSome=true:=by subst hb;exact ht
       obtain⟨l,hl⟩:=Option.isSome_iff_exists.mp hs;obtain⟨ad,vs,rfl,_,h1,_⟩:=rl1.sim.rdL hl r1;exact .inl ⟨rfl,vs,by rw[hK];exact h1⟩
     · cases ht
     · cases ht
     · cases ht
   · cases ht
 · exact q1.elim
theorem b9O{n:Str}{b:Mt}{apos:Pos}(C:Cxt X Γ G ct c Ex N sc dfn)(hb:b4N n=some b)(hpb:U8 e=true)(hline:(apos.endLine==pos.line)=true)(hlen:(a::es).length<20)(hp:(a::es).all o9=true)(ho:PE X e (TEv Γ Ex (ev ct c x)))(ha:PA X (a::es) (TAv Γ Ex (evs ct c xs))):
 PE X (.Call (.Attribute e n apos) (a::es) [] pos) (TEv Γ Ex (ev ct c (.mt b x xs))):=by
 have hp':=hp
 rw[List.all_cons,Bool.and_eq_true] at hp;have s1:=i9 (es:=es) (env:=X.env) hp.1;have s2:=O9 (pos:=pos) (env:=X.env) hp.2;have hbase:=V9 (f:=n) (env:=X.env) (w:=eval e X.env) hpb
 have hfew:((backTo pos (starEach (a::es) X.env)).all (fun x=>!x.1)&&(backToKw pos (keywordEach [] X.env)).all (fun x=>x.1.isSome)
  &&decide ((a::es).length+([]:List Keyword).length+(if([]:List Keyword).isEmpty then 0 else 1)<30))=true:=by
  rw[Bool.and_eq_true,Bool.and_eq_true];refine⟨⟨a2Z hp',rfl⟩,decide_eq_true ?_⟩
  show(a::es).length+0+0<30
  omega
 unfold b4N at hb
 repeat' split at hb
 all_goals (first|(cases hb;done)|(cases hb;rename_i e0;subst e0))
 · exact PE.imp (a6U PySem.F.plainAttrs_list PySem.F.slot_list_append PySem.F.type_list_append (a9G (Γ:=Γ) (E:=Ex)) ho ha hbase hfew hline s1 s2) (a4d C.K (.inl ⟨rfl,rfl⟩))
 · exact PE.imp (a6U PySem.F.plainAttrs_str PySem.F.slot_str_split PySem.F.type_str_split (b2s (Γ:=Γ) (E:=Ex)) ho ha hbase hfew hline s1 s2) (a4d C.K (.inr ⟨rfl,.inl rfl⟩))
 · exact PE.imp (a6U PySem.F.plainAttrs_str PySem.F.slot_str_join PySem.F.type_str_join (b4P (Γ:=Γ) (E:=Ex) C.K) ho ha hbase hfew hline s1 s2) (a4d C.K (.inr ⟨rfl,.inr (.inl rfl)⟩))
 · exact PE.imp (a6U PySem.F.plainAttrs_str PySem.F.slot_str_startswith PySem.F.type_str_startswith (a9F (Γ:=Γ) (E:=Ex)) ho ha hbase hfew hline s1 s2) (a4d C.K (.inr ⟨rfl,.inr (.inr rfl)⟩))
end
end EV
namespace L2
open PySem PySem.Spec PyProof.Rows
theorem a2C{x:V}:∀{xs:List V} {us:List Value},n8 xs us->xs.all K6=true->us.countP (eqU x)=xs.countP fun y=>eqV y x
 |_,_,.nil,_=>rfl
 |y::xs,u::us,.cons r t,f=>by
  rw[List.all_cons,Bool.and_eq_true] at f;rw[List.countP_cons,List.countP_cons,a6w r f.1,a2C t f.2]
def b9c(to te:TE):TE:=fun σ H Q=>to σ H fun x H1=>∃p xs,x=.ref p/\H1 p=some (.tup xs)/\te σ H1 fun y H2=>∃ys,H2 p=some (.tup ys)/\K6 y=true/\ys.all K6=true/\Q (.int (ys.countP fun z=>eqV z y:Nat)) H2
theorem b4v{X:Cx}{o e:Expr}{to te:TE}{apos cpos:Pos}(ho:PE X o to)(he:PE X e te)(m:M1 X o "count" apos e cpos):PE X (.Call (.Attribute o "count" apos) [e] [] cpos) (b9c to te):=by
 intro pins s σ H Q I h;refine wpAny_Call_method m.base m.few m.line PySem.F.plainAttrs_tuple PySem.F.slot_tuple_count PySem.F.type_tuple_count (thn (ho pins s σ H _ I h) fun u s1 ⟨x,H1,I1,rx,p,xs,ex,hp,q1⟩=>?_)
 subst ex;obtain rfl:u=Value.ref p:=rx;obtain⟨_,its,_,ob,e1,c1,d1,_⟩:=I1.hok p _ hp;refine⟨⟨ob,e1,c1⟩,fun a e=>(by cases e;exact⟨ob,e1,d1⟩),?_⟩
 rw[m.trees];refine Calls.callWith_builtin rfl (Calls.evalArgs_plain (Calls.spliced_cons (thn (he pins s1 σ H1 _ I1 q1) fun iv s2 ⟨y,H2,I2,ry,ys,hp2,fy,fs,q2⟩=>Calls.spliced_nil ?_)))
 obtain⟨_,its2,r2,ob2,e2,c2,d2,n2,dd2⟩:=I2.hok p _ hp2;obtain⟨cls,dict,data,slots⟩:=ob2
 cases (show cls=.type "tuple" from c2)
 cases (show data=.seq its2.toArray n2 from dd2)
 refine call_meets PySem.F.slot_tuple_count ⟨_,e2,rfl⟩ PySem.F.entry_tuple_count (PySem.F.args_tuple_count_2 _ _) (SeqAt.tuple_countAt p its2.toArray n2 dict slots iv (eqU y)) ⟨e2,fun w hw=>U1 ry fy r2 fs w (by simpa using hw),⟨.int _,H2,I2.tok _,⟨_,rfl⟩,?_⟩⟩
 rw[show its2.toArray.toList.countP (eqU y)=ys.countP fun z=>eqV z y from a2C r2 fs]
 exact q2
theorem a2q:∀(gs acc:List (Key×V)),((acc++gs).map (·.1)).Nodup->V0 acc gs=acc++gs
 |[],acc,_=>by rw[List.append_nil];rfl
 | g::gs,acc,h=>by
  have h2:((acc++[g]++gs).map (·.1)).Nodup:=by rw[List.append_assoc];exact h
  have hn:(acc.any fun kv=>decide (kv.1=g.1))=false:=by
   rw[List.any_eq_false];intro p hp
   have e:p.1≠g.1:=by
    rw[List.map_append,List.nodup_append] at h;exact h.2.2 p.1 (List.mem_map.mpr ⟨p,hp,rfl⟩) g.1 (by simp)
   simp[e]
  show V0 (M8 acc g.1 g.2) gs=_
  rw[show M8 acc g.1 g.2=acc++[g] by unfold M8;rw[hn];rfl,a2q gs _ h2,List.append_assoc]
  rfl
theorem a7z{H:Hp}{p:Addr}{a b:HO}:upd (upd H p a) p b=upd H p b:=by
 funext x
 by_cases h:x=p
 · subst h;rw[g9,g9]
 · rw[l8 h,l8 h,l8 h]
end L2
namespace EV
open PySem PySem.Spec L2
open PyProof.Rows hiding St
def kDg:Key->D
 |.inl i=>.int i
 |.inr x=>.str x
theorem a3i:∀{l:List D},a4a l=true->l.Nodup
 |[],_=>.nil
 |d::r,h=>by
  rw[a4a,Bool.and_eq_true] at h;refine List.nodup_cons.mpr ⟨fun m=>?_,a3i h.2⟩
  have:=h.1
  rw[List.any_eq_true.mpr ⟨d,m,decide_eq_true rfl⟩] at this;cases this
section
variable{X:Cx}{Γ:Gm}{G:GT}{ct:CT}{c:CF}{Ex:XK}{N:List Str}{sc:Scope}{dfn:Bool}{e a b:Expr}{pos p:Pos}{x y z:E}
theorem b3d{e:Expr}{x:Str}(h:b5F e=some x):∃k q,e=.Constant (.str x) k q:=by
 unfold b5F at h
 split at h
 · split at h
   · cases h;exact⟨_,_,rfl⟩
   · cases h
 · cases h
theorem b3e{e:Expr}{i:Int}(h:b5G e=some i):∃k q,e=.Constant (.int i) k q:=by
 unfold b5G at h
 split at h
 · split at h
   · cases h;exact⟨_,_,rfl⟩
   · cases h
 · cases h
theorem b3z:∀{ks:List (Option Expr)} {vs:List Expr} {kvs:List (D×D)},a8m ks vs=some kvs->∃trs gs,PPs X pos ks vs trs/\ks.all (·.isSome)=true/\ks.length=vs.length/\ks.length=kvs.length/\gs.length=kvs.length/\kvs.map (·.1)=(gs.map (·.1)).map kDg∧
 (∀σ H Q,Q (gs.map fun kv=>(kV kv.1,kv.2)) H->a3J trs σ H Q)/\∀m H,DK m H kvs gs
 |[],vs,kvs,h=>by
  unfold a8m at h
  split at h
  · rename_i e
    cases List.isEmpty_iff.mp e
    cases h;exact⟨[],[],b1W,rfl,rfl,rfl,rfl,rfl,fun _ _ _ q=>q,fun _ _=>.nil⟩
  · cases h
 |k::ks,vs,kvs,h=>by
  unfold a8m at h
  split at h
  · cases h
  · rename_i v r
    split at h
    · rename_i s i l h1 h2 h3;cases h;obtain⟨e,rfl,h1⟩:=Option.bind_eq_some_iff.mp h1;obtain⟨_,_,rfl⟩:=b3d h1;obtain⟨_,_,rfl⟩:=b3e h2;obtain⟨trs,gs,g1,g2,g3,g4,g5,g6,g7,g8⟩:=b3z h3;exact⟨(tC (.str s),tC (.int i))::trs,(.inr s,.int i)::gs,a9k a9m a9p g1,g2,congrArg (· +1) g3,congrArg (· +1) g4,congrArg (· +1) g5,by rw[List.map_cons,g6];rfl,fun σ H Q q=>g7 σ H _ q,fun m H=>.cons ⟨rfl,rfl⟩ (g8 m H)⟩
    · cases h
theorem b5Z{ks:List (Option Expr)}{vs:List Expr}{kvs:List (D×D)}(h0:ks≠[])(h:a8m ks vs=some kvs)(hk:b5B kvs=true):PE X (.Dict ks vs pos) (TEv Γ Ex (ev ct c (.dlit kvs))):=by
 unfold b5B at hk;rw[Bool.and_eq_true] at hk;have h15:=of_decide_eq_true hk.1;obtain⟨trs,gs,g1,g2,g3,g4,g5,g6,g7,g8⟩:=b3z (X:=X) (pos:=pos) h
 have nd:(gs.map (·.1)).Nodup:=by
  have:=a3i hk.2
  rw[g6] at this;exact List.Pairwise.of_map _ (fun a b h e=>h (by rw[e])) this
 refine PE.imp (b2f g1 g2 g3 h0 (by omega)) ?_
 rintro σ H Q ⟨env,ah,m,rl,q⟩;rw[ev] at q;intro p hp;refine g7 σ _ _ ⟨g9,gs,rfl,by omega,?_⟩
 rw[a7z,a2q gs [] nd];exact q.newc rl.sim hp (.inl ⟨gs,g9,g8 _ _⟩)
theorem b8b{m:List Addr}{H:Hp}{k:D}:∀{kvs:List (D×D)} {gs:List (List Key×V)},DT m H kvs gs->E9 k kvs=true->(K0 k).isSome=true->kvs.isEmpty=true
 |_,_,.nil,_,_=>rfl
 |p::ps,_,.cons h t,hk,hs=>by
  obtain⟨⟨l,e1,e2⟩,_⟩:=h;unfold E9 at hk;rw[List.all_cons,e1] at hk;simp only[J0,e2,Option.isSome_some,if_true] at hk
  cases k<;>simp[K0,J0] at hk hs
theorem b6a {apos:Pos} (C:Cxt X Γ G ct c Ex N sc dfn) (hpb:U8 e=true) (hline:(apos.endLine==pos.line)=true) (hpa:o9 a=true) (hpc:o9 b=true) (ho:PE X e (TEv Γ Ex (ev ct c x))) (ha:PE X a (TEv Γ Ex (ev ct c y))) (hb:PE X b (TEv Γ Ex (ev ct c z))):
 PE X (.Call (.Attribute e "get" apos) [a,b] [] pos) (TEv Γ Ex (ev ct c (.dget x y z))):=by
 have t:backTo pos (starEach [a,b] X.env)=[(false,eval a X.env),(false,eval b X.env)]:=by rw[i9 hpa,i9 hpc];rfl
 refine PE.imp (a9r (hu1 C.hu) ho ha hb ⟨V9 hpb,by rw[t];rfl,hline,t⟩) ?_
 rintro σ H Q ⟨env,ah,m,rl,q⟩;rw[ev] at q;refine⟨env,ah,m,rl,i6.first rl q fun d1 ah1 m1 H1 v1 p1 k1 rl1 r1 q1=>?_⟩
 split at q1
 · rename_i hd; unfold b7o at hd
   split at hd
   · rename_i n
     split at hd
     · rename_i kvs0 e0;obtain⟨ad,rfl,hm⟩:=r1;refine⟨ad,rfl,?_,env,ah1,m1,rl1,i6.first rl1 q1 fun d2 ah2 m2 H2 v2 p2 k2 rl2 r2 q2=>⟨env,ah2,m2,rl2,i6.first rl2 q2 fun d3 ah3 m3 H3 v3 p3 k3 rl3 r3 q3=>?_⟩⟩
       · rcases rl1.sim.at hm e0 with⟨kvs,h1,_⟩|⟨kvs,h1,_⟩
         · exact .inl ⟨kvs,.inl h1⟩
         · exact .inr ⟨kvs,.inl h1⟩
       · unfold b3B at q3
         simp only at q3
         split at q3
         · rename_i kvs e3
           split at q3
           · rename_i hk;rw[Bool.and_eq_true,Bool.and_eq_true] at hk;obtain⟨⟨hk1,hk2⟩,hk3⟩:=hk;obtain⟨k,hk⟩:=Option.isSome_iff_exists.mp hk2;have hm3:=p3.get (p2.get hm)
             rcases rl3.sim.at hm3 e3 with⟨gs,h1,h2⟩|⟨gs,h1,h2⟩
             · obtain⟨o,g,o1,o2⟩:=a0U (Keep.refl m3 H3) (r2.mono p3 k3) (.inl ⟨k,gs,hk,h1,h2⟩);refine⟨o,g,?_⟩
               cases hg:o5 kvs d2 with
               |none=>
                rw[hg] at o1 q3
                cases o with
                |none=>exact q3.ok rl3.sim r3
                |some w=>cases o1
               |some w=>
                rw[hg] at q3;obtain⟨v,rfl,rv⟩:=o2 w hg;exact q3.ok rl3.sim rv
             · rw[b8b h2 hk1 hk2] at hk3;cases hk3
           · exact q3.elim
         · exact q3.elim
     · cases hd
   · cases hd
 · exact q1.elim
theorem b0D{m:List Addr}{H:Hp}{d:D}{x:V}(r:Rp m H d x)(f:p7 d=true):∀{l:List D} {vs:List V},Rps m H l vs->l.all p7=true->(l.countP fun y=>eqF y d)=vs.countP fun z=>eqV z x
 |[],vs,h,_=>by rw[show vs=[] from h];rfl
 |e::t,vs,⟨v,u,ev,q1,q2⟩,fl=>by
  subst ev;rw[List.all_cons,Bool.and_eq_true] at fl;rw[List.countP_cons,List.countP_cons,a4z q1 r fl.1 f,b0D r f q2 fl.2]
theorem b8I{apos:Pos}(C:Cxt X Γ G ct c Ex N sc dfn)(hpb:U8 e=true)(hline:(apos.endLine==pos.line)=true)(hpa:o9 a=true)(ho:PE X e (TEv Γ Ex (ev ct c x)))(ha:PE X a (TEv Γ Ex (ev ct c y))):
 PE X (.Call (.Attribute e "count" apos) [a] [] pos) (TEv Γ Ex (ev ct c (.cnt x y))):=by
 have t:backTo pos (starEach [a] X.env)=[(false,eval a X.env)]:=by rw[i9 hpa];rfl
 refine PE.imp (b4v ho ha ⟨V9 hpb,by rw[t];rfl,hline,t⟩) ?_
 rintro σ H Q ⟨env,ah,m,rl,q⟩;rw[ev] at q;refine⟨env,ah,m,rl,i6.first rl q fun d1 ah1 m1 H1 v1 p1 k1 rl1 r1 q1=>?_⟩
 split at q1
 · rename_i hd;unfold b7m at hd
   split at hd
   · rename_i l;obtain⟨ad,vs,rfl,h1,rs⟩:=r1;refine⟨ad,vs,rfl,h1,env,ah1,m1,rl1,i6.first rl1 q1 fun d2 ah2 m2 H2 v2 p2 k2 rl2 r2 q2=>?_⟩
     unfold b8g at q2
     simp only at q2
     split at q2
     · rename_i hf;rw[Bool.and_eq_true] at hf;have rs2:=rs.mono p2 k2;rw[b0D r2 hf.1 rs2 hf.2] at q2;exact⟨vs,k2.tup h1,K5 r2 hf.1,F6 rs2 hf.2,q2.ok rl2.sim rfl⟩
     · exact q2.elim
   · cases hd
 · exact q1.elim
end
end EV
namespace EV
open PySem PySem.Spec L2
open PyProof.Rows hiding St
theorem a6M{m:List Addr}{H:Hp}{lo:Int}:∀l:List Nat,Rps m H (l.map fun i=>D.int (lo+(i:Nat))) (l.map fun(i:Nat)=>V.int (lo+i))
 |[]=>rfl
 |_::r=>⟨_,_,rfl,rfl,a6M r⟩
theorem b5S{X:Cx}{Γ:Gm}{G:GT}{ct:CT}{c:CF}{Ex:XK}{N:List Str}{sc:Scope}{dfn:Bool}{a b:Expr}{pos p pos2 p2:Pos}{x y:E}(C:Cxt X Γ G ct c Ex N sc dfn)(hg:K8 sc "tuple"=true)(hm:X.mg "tuple"=none)(hg2:K8 sc "range"=true)(hm2:X.mg "range"=none)(hp:o9 a=true)(hpb:o9 b=true)(ha:PE X a (TEv Γ Ex (ev ct c x)))(hb:PE X b (TEv Γ Ex (ev ct c y))):
 PE X (.Call (.Name "tuple" p) [.Call (.Name "range" p2) [a,b] [] pos2] [] pos) (TEv Γ Ex (ev ct c (.trng x y))):=by
 have hr:PE X (.Call (.Name "range" p2) [a,b] [] pos2) (tCB b6N (a4W (TEv Γ Ex (ev ct c x)) (a4W (TEv Γ Ex (ev ct c y)) b1B))):=L3 b0H (C.gl hg2) hm2 boot_range (M0 ha (M0 hb a0u (i9 hpb)) (i9 hp)) (by decide) (by decide) (i9 hp) (O9 (by simp[hpb]))
 refine PE.imp (L3 (a8r C.calm) (C.gl hg) hm PyProof.Rows.boot_tuple (M0 hr a0u (i9 rfl)) (by decide) (by decide) (i9 rfl) rfl) ?_
 rintro σ H Q ⟨env,ah,m,rl,q⟩;rw[ev] at q;refine⟨env,ah,m,rl,i6.first rl q fun d1 ah1 m1 H1 v1 p1 k1 rl1 r1 q1=>⟨env,ah1,m1,rl1,i6.first rl1 q1 fun d2 ah2 m2 H2 v2 p2 k2 rl2 r2 q2=>?_⟩⟩
 unfold a4V at q2
 split at q2
 · rename_i i j;cases r1;cases r2
   split at q2
   · rename_i hh;refine⟨i,j,rfl,fun r hr=>⟨r,i,j,rfl,g9,⟨(E3 hh.1.1).1,(E3 hh.1.1).2,(E3 hh.1.2).1,(E3 hh.1.2).2⟩,hh.2,fun t ht=>?_⟩⟩
     exact(q2.later (Pre.refl m2) (Keep.new hr)).newt (rl2.sim.new hr) ht (a6M _)
   · exact q2.elim
 · exact q2.elim
end EV
namespace EV
open PySem PySem.Spec L2
open PyProof.Rows hiding St
def TGv(Γ:Gm)(p:Pat):TG:=fun v σ H Q=>∃env d m env',EnvRel m H env σ/\Rp m H d v/\G9 p d env=some env'/\∀σ',EnvRel m H env' σ'->σ'.length=σ.length->(∀(j:Nat),j∉K2 p->σ'[j]? =σ[j]?)->Q σ' H
def b9U(Γ:Gm)(p:Pats):TGs:=fun vs σ H Q=>∃env ds m env',EnvRel m H env σ/\Rps m H ds vs/\N1 p ds env=some env'/\∀σ',EnvRel m H env' σ'->σ'.length=σ.length->(∀(j:Nat),j∉Z3 p->σ'[j]? =σ[j]?)->Q σ' H
def a1N:Pats->Nat
 |.nil=>0
 |.cons _ r=>a1N r+1
theorem a0D:∀(ps:Pats) {ds:List D} {env env':j9},N1 ps ds env=some env'->ds.length=a1N ps
 |.nil,ds,env,env',h=>by
  cases ds with
  |nil=>rfl
  |cons d r=>simp only[N1] at h;cases h
 | .cons p r,ds,env,env',h=>by
  cases ds with
  |nil=>simp only[N1] at h;cases h
  |cons d t=>
   simp only[N1] at h
   split at h
   · rw[List.length_cons,a0D r h];rfl
   · cases h
section
variable{X:Cx}{Γ:Gm}{G:GT}{ct:CT}{c:CF}{Ex:XK}{N:List Str}{sc:Scope}{dfn:Bool}
theorem PG.imp{e:Expr}{t t':TG}(h:PG X e t)(i:∀v σ H Q,t' v σ H Q->t v σ H Q):PG X e t':=fun pins s σ H v u Q I r q=>h pins s σ H v u Q I r (i _ _ _ _ q)
theorem PGs.imp{es:List Expr}{t t':TGs}(h:PGs X es t)(i:∀v σ H Q,t' v σ H Q->t v σ H Q):PGs X es t':=fun pins s σ H v u Q I r q=>h pins s σ H v u Q I r (i _ _ _ _ q)
theorem a2J{env:Env}:∀{es:List Expr},(assignEach es env).length=es.length
 |[]=>rfl
 |e::r=>by
  have:=a2J (env:=env) (es:=r)
  cases e<;>simp only[assignEach,List.length_cons]<;>rw[this]
theorem Cxt.loc(C:Cxt X Γ G ct c Ex N sc dfn){n:Str}(h:a9S dfn sc n=true):Loc X.env.scope n/\(X.fn n=true∨X.env.scope.names.lookup n=some .local):=by
 rw[C.sc];unfold a9S at h;unfold L2.Loc
 split at h
 · rename_i e;exact⟨.inl e,.inr e⟩
 · rename_i e;exact⟨.inr e,.inl (C.fnb h n)⟩
 · cases h
theorem a2c(C:Cxt X Γ G ct c Ex N sc dfn){n:Str}{i:Nat}(h:a2d dfn N sc n=some i):X.N[i]? =some n/\Loc X.env.scope n/\(X.fn n=true∨X.env.scope.names.lookup n=some .local):=by
 unfold a2d at h
 split at h
 · rename_i hl;rw[C.hN];exact⟨a4n h,C.loc hl⟩
 · cases h
theorem b3D (C:Cxt X Γ G ct c Ex N sc dfn):∀n,(∀e p,a8t dfn N sc n e=some p->PG X e (TGv Γ p)/\o9 e=true)/\∀es ps,a2F dfn N sc n es=some ps->PGs X es (b9U Γ ps)/\a1N ps=es.length/\(assignEach es X.env).findIdx? (·.1)=none:=by
 intro n
 induction n with
 |zero=>exact⟨fun e p h=>(by simp only[a8t] at h;cases h),fun es ps h=>(by simp only[a2F] at h;cases h)⟩
 | succ n ih=>
  obtain⟨ih1,ih2⟩:=ih;refine⟨fun e p h=>?_,fun es ps h=>?_⟩
  · cases e<;>simp only[a8t] at h<;>first|(cases h;done)|skip
    · rename_i nm pos
      cases hs:a2d dfn N sc nm with
      |none=>rw[hs] at h;cases h
      |some i=>
       rw[hs] at h;cases h
       obtain⟨h1,h2,h3⟩:=a2c C hs;refine⟨PG.imp (b2e (by rw[C.hN];exact C.nd) h1 h2 h3) ?_,rfl⟩
       rintro v σ H Q ⟨env,d,m,env',er,r,hb,q⟩;simp only[G9] at hb;cases hb;exact q _ (er.set r) (by simp) fun j hj=>List.getElem?_set_ne (fun e=>hj (by simp[K2,e]))
    · rename_i es k pos
      cases hs:a2F dfn N sc n es with
      |none=>rw[hs] at h;cases h
      |some ps=>
       rw[hs] at h;cases h
       obtain⟨h1,h2,h3⟩:=ih2 es ps hs;refine⟨PG.imp (b4m C.calm h1 a2J h3) ?_,rfl⟩
       rintro v σ H Q ⟨env,d,m,env',er,r,hb,q⟩;simp only[G9] at hb
       cases d<;>first|(cases hb;done)|skip
       rename_i ds;obtain⟨a,vs,rfl,ha,rs⟩:=r;refine⟨a,vs,rfl,.inl (.inl ha),by rw[rs.len,a0D ps hb,h2],env,ds,m,env',er,rs,hb,fun σ' r' l' s'=>q σ' r' l' s'⟩
  · cases es with
    | nil=>
     simp only[a2F] at h;cases h;refine⟨PGs.imp b2d ?_,rfl,rfl⟩
     rintro vs σ H Q ⟨env,ds,m,env',er,rs,hb,q⟩;have hl:=a0D .nil hb
     have:vs=[]:=List.length_eq_zero_iff.mp (rs.len.trans hl)
     subst this
     cases ds with
     |nil=>
      simp only[N1] at hb;cases hb;exact⟨rfl,q σ er rfl fun _ _=>rfl⟩
     |cons d r=>cases hl
    |cons e r=>
     simp only[a2F] at h
     split at h
     · rename_i p ps' h1 h2;cases h;obtain⟨g1,g2⟩:=ih1 e p h1;obtain⟨g3,g4,g5⟩:=ih2 r ps' h2
       have hst:(assignEach (e::r) X.env)=(false,assign e X.env)::assignEach r X.env:=by cases e<;>first|rfl|cases g2
       refine⟨PGs.imp (a9l g1 g3 (by rw[hst];rfl)) ?_,by simp only[a1N,List.length_cons,g4],by rw[hst,List.findIdx?_cons,g5];rfl⟩
       rintro vs σ H Q ⟨env,ds,m,env',er,rs,hb,q⟩
       cases ds with
       |nil=>simp only[N1] at hb;cases hb
       |cons d t=>
        simp only[N1] at hb
        split at hb
        · rename_i env1 hb1;obtain⟨v,vt,rfl,rd,rt⟩:=rs;refine⟨v,vt,rfl,env,d,m,env1,er,rd,hb1,fun σ1 er1 l1 s1=>⟨env1,t,m,env',er1,rt,hb,fun σ' er' l' s'=>q σ' er' (l'.trans l1) fun j hj=>?_⟩⟩
          simp only[Z3,List.mem_append,not_or] at hj;rw[s' j hj.2,s1 j hj.1]
        · cases hb
     · cases h
def a6G(Γ:Gm)(J:It)(its:List D)(g:List (Nat×Cell))(m0:List Addr)(H0:Hp):Prop:=∀(i:Nat) (ah:AH) (m:List Addr) (H:Hp),Pre m0 m->Keep m0 m H0 H->Sim Γ ah m H->gOk g ah=true→
 (i=its.length->J.stop i H)/\∀d,its[i]? =some d->J.go i H/\∀v H',J.yld i H v H'->Keep m m H H'/\Sim Γ ah m H'/\Rp m H' d v
def TIv(Γ:Gm)(E:XK)(f:j9->AH->R Its):TI:=fun σ H R=>∃env ah m,Rel Γ env ah σ H m/\n5 Γ E m H (f env ah) (fun x ah1 m1 H1=>Sim Γ ah1 m1 H1->∀J,a6G Γ J x.1 x.2 m1 H1->R J H1)
theorem b5j{n:Nat}{cc:Cell}{ah:AH}(h:gOk [(n,cc)] ah=true):ah[n]? =some cc:=by
 unfold gOk at h;rw[List.all_cons,Bool.and_eq_true] at h;exact of_decide_eq_true h.1
theorem O6{K:PySem.W.Frag}(hK:K=Γ.K){n:Nat}{a:Addr}{l:List D}{cc:Cell}(h:cc=.lst l∨cc=.rol l){ah:AH}{m:List Addr}{H:Hp}(S:Sim Γ ah m H)(hm:m[n]? =some a)(e:ah[n]? =some cc):∃vs,SqL K H a vs/\Rps m H l vs:=by
 have:rdL ah n=some l:=by
  unfold rdL
  rcases h with rfl|rfl<;>rw[e]
 obtain⟨a',vs,e1,e2,e3,e4⟩:=S.rdL this ⟨a,rfl,hm⟩;rw[hm] at e2;cases e2;exact⟨vs,by rw[hK];exact e3,e4⟩
theorem a7g{K:PySem.W.Frag}(hK:K=Γ.K){n:Nat}{a:Addr}{l:List D}{m0:List Addr}{H0:Hp}{cc:Cell}(h:cc=.lst l∨cc=.rol l)(hm:m0[n]? =some a):a6G Γ (Itl K a) l [(n,cc)] m0 H0:=by
 intro i ah m H p k0 S g;obtain⟨vs,h1,h2⟩:=O6 hK h S (p.get hm) (b5j g);refine⟨fun hi=>⟨vs,h1,by rw[h2.len,hi];exact Nat.le_refl _⟩,fun d hd=>?_⟩
 obtain⟨v,hv,rv⟩:=h2.get hd;refine⟨⟨vs,v,h1,hv⟩,?_⟩
 rintro w H' ⟨rfl,hw⟩
 have:=hw vs h1
 rw[hv] at this;cases this;exact⟨Keep.refl _ _,S,rv⟩
theorem a3t:∀{l:List D} {n i:Nat} {d:D},(z3 n l)[i]? =some d->∃x,l[i]? =some x/\d=.tup [.int ((n+i:Nat):Int),x]
 |[],_,_,_,h=>by simp[z3] at h
 |x::r,n,0,d,h=>by
  simp only[z3,List.getElem?_cons_zero] at h
  cases h;exact⟨x,rfl,rfl⟩
 |x::r,n,i+1,d,h=>by
  simp only[z3,List.getElem?_cons_succ] at h
  obtain⟨y,h1,h2⟩:=a3t h;exact⟨y,by simpa using h1,by rw[h2];congr 3;omega⟩
theorem a3s:∀{l:List D} {n:Nat},(z3 n l).length=l.length
 |[],_=>rfl
 |x::r,n=>by simp only[z3,List.length_cons,a3s]
theorem a7h{K:PySem.W.Frag}(hK:K=Γ.K){n:Nat}{a:Addr}{l:List D}{m0:List Addr}{H0:Hp}{cc:Cell}(h:cc=.lst l∨cc=.rol l)(hm:m0[n]? =some a):a6G Γ (Ite K a) (z3 0 l) [(n,cc)] m0 H0:=by
 intro i ah m H p k0 S g;obtain⟨vs,h1,h2⟩:=O6 hK h S (p.get hm) (b5j g);refine⟨fun hi=>⟨vs,h1,by rw[h2.len,hi,a3s];exact Nat.le_refl _⟩,fun d hd=>?_⟩
 obtain⟨x,hx,rfl⟩:=a3t hd;obtain⟨v,hv,rv⟩:=h2.get hx;refine⟨⟨vs,v,h1,hv⟩,?_⟩
 rintro w H' ⟨T,y,hT,rfl,hw,rfl⟩
 have:=hw vs h1
 rw[hv] at this;cases this;refine⟨Keep.new hT,S.new hT,T,[.int i,v],rfl,g9,.int i,[v],rfl,?_,v,[],rfl,rv.mono (Pre.refl m) (Keep.new hT),rfl⟩
 show V.int (i:Int)=V.int ((0+i:Nat):Int)
 rw[Nat.zero_add]
theorem b4Z{K:PySem.W.Frag}{a:Addr}{l:List D}{vs:List V}{m0:List Addr}{H0:Hp}(ha:H0 a=some (.tup vs))(r:Rps m0 H0 l vs):a6G Γ (Itt K a) l [] m0 H0:=by
 intro i ah m H p k0 S g;have h1:=k0.tup ha;have h2:=r.mono p k0;refine⟨fun hi=>⟨vs,.inl (.inl h1),by rw[h2.len,hi];exact Nat.le_refl _⟩,fun d hd=>?_⟩
 obtain⟨v,hv,rv⟩:=h2.get hd;refine⟨⟨vs,v,.inl (.inl h1),hv⟩,?_⟩
 rintro w H' ⟨rfl,hw⟩
 have:=hw vs (.inl (.inl h1))
 rw[hv] at this;cases this;exact⟨Keep.refl _ _,S,rv⟩
theorem b5a{z:Str}{m0:List Addr}{H0:Hp}:a6G Γ (L2.Its z) (V8 z) [] m0 H0:=by
 intro i ah m H p k0 S g;refine⟨fun hi=>?_,fun d hd=>?_⟩
 · show i=z.cps.size
   rw[hi];simp[V8]
 · unfold V8 at hd;rw[List.getElem?_map] at hd
   cases hc:z.cps.toList[i]? with
   |none=>rw[hc] at hd;cases hd
   | some cc=>
    rw[hc] at hd;cases hd
    have hi:i<z.cps.size:=by
     have:=(List.getElem?_eq_some_iff.mp hc).1
     simpa using this
    refine⟨hi,?_⟩
    rintro v H' ⟨rfl,c',h1,rfl⟩;rw[Array.getElem?_toList] at hc
    rw[hc] at h1;cases h1;exact⟨Keep.refl _ _,S,rfl⟩
theorem b5b{lo:Int}{n:Nat}{m0:List Addr}{H0:Hp}:a6G Γ (Itr lo n) (a0t lo n) [] m0 H0:=by
 intro i ah m H p k0 S g;refine⟨fun hi=>?_,fun d hd=>?_⟩
 · show n<=i
   rw[hi];simp[a0t]
 · unfold a0t at hd;rw[List.getElem?_map] at hd
   cases hc:(List.range n)[i]? with
   |none=>rw[hc] at hd;cases hd
   |some j=>
    rw[hc] at hd;cases hd;obtain⟨h1,h2⟩:=List.getElem?_eq_some_iff.mp hc
    rw[List.getElem_range] at h2;rw[List.length_range] at h1;subst h2;refine⟨h1,?_⟩
    rintro v H' ⟨rfl,rfl⟩;exact⟨Keep.refl _ _,S,rfl⟩
variable{tg a b:Expr}{x y:E}{pos p:Pos}
theorem b8z(C:Cxt X Γ G ct c Ex N sc dfn)(ha:PE X a (TEv Γ Ex (ev ct c x))):PI X tg a (TIv Γ Ex (evi ct c (.seq x))):=by
 intro pins s σ H R I ⟨env,ah,m,rl,q⟩;rw[evi] at q
 cases hr:ev ct c x env ah with
 | ok d ah1=>
  rw[hr,k7] at q;unfold a0q at q
  split at q
  · refine b4l ha pins s σ H R I ⟨env,ah,m,rl,?_⟩
    rw[hr];intro m1 H1 v p1 k1 s1 r1;cases r1;exact⟨_,rfl,(q m1 H1 p1 k1 s1) s1 _ b5a⟩
  · refine b4k ha pins s σ H R I ⟨env,ah,m,rl,?_⟩
    rw[hr];intro m1 H1 v p1 k1 s1 r1;obtain⟨ad,vs,rfl,h1,q1⟩:=r1;exact⟨ad,rfl,⟨vs,.inl (.inl h1)⟩,(q m1 H1 p1 k1 s1) s1 _ (b4Z h1 q1)⟩
  · rename_i n;refine b2b ha pins s σ H R I ⟨env,ah,m,rl,?_⟩
    rw[hr];intro m1 H1 v p1 k1 s1 r1
    split at q
    · rename_i l e;obtain⟨ad,vs,rfl,hm,h1,q1⟩:=s1.lst e r1;exact⟨ad,rfl,⟨vs,.inl (.inl h1)⟩,(q m1 H1 p1 k1 s1) s1 _ (a7g C.K (.inl rfl) hm)⟩
    · rename_i l e;obtain⟨ad,vs,rfl,hm,h1,q1⟩:=s1.rdL (l:=l) (by unfold rdL;rw[e]) r1
      exact⟨ad,rfl,⟨vs,by rw[C.K];exact h1⟩,(q m1 H1 p1 k1 s1) s1 _ (a7g C.K (.inr rfl) hm)⟩
    · exact q.elim
  · exact q.elim
 |no=>rw[hr] at q;exact q.elim
theorem b5T(C:Cxt X Γ G ct c Ex N sc dfn)(hg:K8 sc "range"=true)(hm:X.mg "range"=none)(hp:o9 a=true)(ha:PE X a (TEv Γ Ex (ev ct c x))):PI X tg (.Call (.Name "range" p) [a] [] pos) (TIv Γ Ex (evi ct c (.rng1 x))):=by
 intro pins s σ H R I ⟨env,ah,m,rl,q⟩;refine a7S (C.gl hg) hm (M0 ha a0u (i9 hp)) (i9 hp) pins s σ H R I ⟨env,ah,m,rl,?_⟩
 rw[evi] at q;refine n5.first rl q fun d1 ah1 m1 H1 v1 p1 k1 rl1 r1 q1=>?_
 unfold a8X at q1
 split at q1
 · rename_i i j e1;cases e1;cases r1
   split at q1
   · rename_i hh;refine⟨j,rfl,(E3 hh.2).1,(E3 hh.2).2,?_⟩
     have:=q1.ok rl1.sim rl1.sim (Itr 0 (j-0).toNat) b5b
     rwa [Int.sub_zero] at this
   · exact q1.elim
 · exact q1.elim
theorem b9x{g:Nat×Cell}{g':List (Nat×Cell)}{ah:AH}(h:gOk (g::g') ah=true):ah[g.1]? =some g.2/\gOk g' ah=true:=by
 unfold gOk at h⊢;rw[List.all_cons,Bool.and_eq_true] at h;exact⟨of_decide_eq_true h.1,h.2⟩
theorem a5r{ah:AH}{n:Nat}{a:List D×Cell}(h:a5s ah n=some a):ah[n]? =some a.2/\(a.2=.lst a.1∨a.2=.rol a.1):=by
 unfold a5s at h
 split at h
 · rename_i l e;cases h;exact⟨e,.inl rfl⟩
 · rename_i l e;cases h;exact⟨e,.inr rfl⟩
 · cases h
theorem a4P:∀{l l':List D} {i:Nat} {d:D},(a0H l l')[i]? =some d->∃x y,l[i]? =some x/\l'[i]? =some y/\d=.tup [x,y]
 |[],l',i,d,h=>by simp[a0H] at h
 |x::xs,[],i,d,h=>by simp[a0H] at h
 |x::xs,y::ys,0,d,h=>by
  simp only[a0H,List.getElem?_cons_zero] at h
  cases h;exact⟨x,y,rfl,rfl,rfl⟩
 |x::xs,y::ys,i+1,d,h=>by
  simp only[a0H,List.getElem?_cons_succ] at h
  obtain⟨a,b,h1,h2,h3⟩:=a4P h;exact⟨a,b,by simpa using h1,by simpa using h2,h3⟩
theorem a4O:∀{l l':List D},l.length<=(a0H l l').length∨l'.length<=(a0H l l').length
 |[],l'=>.inl (Nat.zero_le _)
 |x::xs,[]=>.inr (Nat.zero_le _)
 |x::xs,y::ys=>by
  simp only[a0H,List.length_cons]
  rcases a4O (l:=xs) (l':=ys) with h|h
  · exact .inl (Nat.succ_le_succ h)
  · exact .inr (Nat.succ_le_succ h)
theorem b4Y{K:PySem.W.Frag}(hK:K=Γ.K){n n':Nat}{a a':Addr}{l l':List D}{m0:List Addr}{H0:Hp}{cc cc':Cell}(h:cc=.lst l∨cc=.rol l)(h':cc'=.lst l'∨cc'=.rol l')(hm:m0[n]? =some a)(hm':m0[n']? =some a'):
 a6G Γ (Itz K a a') (a0H l l') [(n,cc),(n',cc')] m0 H0:=by
 intro i ah m H p k0 S g;obtain⟨g1,g2⟩:=b9x g;obtain⟨vs,h1,h2⟩:=O6 hK h S (p.get hm) g1;obtain⟨ws,h3,h4⟩:=O6 hK h' S (p.get hm') (b5j g2);refine⟨fun hi=>⟨vs,ws,h1,h3,?_⟩,fun d hd=>?_⟩
 · rw[h2.len,h4.len,hi];exact a4O
 · obtain⟨x,y,hx,hy,rfl⟩:=a4P hd;obtain⟨v,hv,rv⟩:=h2.get hx;obtain⟨u,hu,ru⟩:=h4.get hy;refine⟨⟨vs,ws,v,u,h1,h3,hv,hu⟩,?_⟩
   rintro w H' ⟨T,z,z',hT,rfl,hw,hw',rfl⟩;have e1:=hw vs h1;have e2:=hw' ws h3;rw[hv] at e1;rw[hu] at e2;cases e1;cases e2;exact⟨Keep.new hT,S.new hT,T,[v,u],rfl,g9,v,[u],rfl,rv.mono (Pre.refl m) (Keep.new hT),u,[],rfl,ru.mono (Pre.refl m) (Keep.new hT),rfl⟩
theorem b8w{elts:List Expr}{kk:Nat}{tp:Pos}(C:Cxt X Γ G ct c Ex N sc dfn)(hg:K8 sc "zip"=true)(hm:X.mg "zip"=none)(hp:o9 a=true)(hpb:o9 b=true)(ha:PE X a (TEv Γ Ex (ev ct c x)))(hb:PE X b (TEv Γ Ex (ev ct c y))):PI X (.Tuple elts kk tp) (.Call (.Name "zip" p) [a,b] [] pos) (TIv Γ Ex (evi ct c (.zip x y))):=by
 intro pins s σ H R I ⟨env,ah,m,rl,q⟩;refine b4j (C.gl hg) hm (M0 ha (M0 hb a0u (i9 hpb)) (i9 hp)) (i9 hp) (O9 (by simp[hpb])) pins s σ H R I ⟨env,ah,m,rl,?_⟩
 rw[evi] at q;refine n5.first rl q fun d1 ah1 m1 H1 v1 p1 k1 rl1 r1 q1=>?_
 refine⟨env,ah1,m1,rl1,n5.first rl1 q1 fun d2 ah2 m2 H2 v2 p2 k2 rl2 r2 q2=>?_⟩
 unfold b1l at q2
 split at q2
 · split at q2
   · rename_i e1 e2;obtain⟨c1,w1⟩:=a5r e1;obtain⟨c2,w2⟩:=a5r e2;obtain⟨ad,rfl,hm1⟩:=r1.mono p2 k2;obtain⟨ad',rfl,hm2⟩:=r2;obtain⟨vs,h1,_⟩:=O6 C.K w1 rl2.sim hm1 c1;obtain⟨ws,h2,_⟩:=O6 C.K w2 rl2.sim hm2 c2;exact⟨ad,ad',vs,ws,rfl,h1,h2,q2.ok rl2.sim rl2.sim _ (b4Y C.K w1 w2 hm1 hm2)⟩
   · exact q2.elim
 · exact q2.elim
theorem b5X{elts:List Expr}{kk:Nat}{tp:Pos}(C:Cxt X Γ G ct c Ex N sc dfn)(hg:K8 sc "enumerate"=true)(hm:X.mg "enumerate"=none)(hp:o9 a=true)(ha:PE X a (TEv Γ Ex (ev ct c x))):PI X (.Tuple elts kk tp) (.Call (.Name "enumerate" p) [a] [] pos) (TIv Γ Ex (evi ct c (.enum x))):=by
 intro pins s σ H R I ⟨env,ah,m,rl,q⟩;refine b2c (C.gl hg) hm (M0 ha a0u (i9 hp)) (i9 hp) pins s σ H R I ⟨env,ah,m,rl,?_⟩
 rw[evi] at q;refine n5.first rl q fun d1 ah1 m1 H1 v1 p1 k1 rl1 r1 q1=>?_
 unfold a0m at q1
 split at q1
 · split at q1
   · rename_i l e;obtain⟨ad,vs,rfl,hm,h1,_⟩:=rl1.sim.lst e r1;exact⟨ad,vs,rfl,.inl (.inl h1),q1.ok rl1.sim rl1.sim _ (a7h C.K (.inl rfl) hm)⟩
   · rename_i l e;obtain⟨ad,vs,rfl,hm,h1,_⟩:=rl1.sim.rdL (l:=l) (by unfold rdL;rw[e]) r1
     exact⟨ad,vs,rfl,by rw[C.K];exact h1,q1.ok rl1.sim rl1.sim _ (a7h C.K (.inr rfl) hm)⟩
   · exact q1.elim
 · exact q1.elim
end
end EV
namespace EV
open PySem PySem.Spec L2
open PyProof.Rows hiding St
section
variable{X:Cx}{Γ:Gm}{G:GT}{ct:CT}{c:CF}{Ex:XK}{N:List Str}{sc:Scope}{dfn:Bool}
theorem a5F{m:List Addr}{H:Hp}{env:j9}{σ:St}(h:EnvRel m H env σ)(own:List Str)(js:List Nat):EnvRel m H (D9 own.length js env) (D8 own js σ):=by
 refine⟨by simp[D9,D8],fun i d e=>?_⟩
 unfold D9 at e;unfold D8
 by_cases hi:i<own.length
 · rw[List.getElem?_append_left (by simpa using hi),List.getElem?_replicate,if_pos hi] at e
   cases e
 · have hi':own.length<=i:=Nat.le_of_not_lt hi
   rw[List.getElem?_append_right (by simpa using hi'),List.length_replicate,List.getElem?_map] at e
   rw[List.getElem?_append_right (by simpa using hi'),List.length_map,List.getElem?_map]
   cases hj:js[i-own.length]? with
   |none=>rw[hj] at e;cases e
   | some j=>
    rw[hj] at e
    have e':(env[j]?).join=some d:=Option.some.inj e
    have e2:env[j]? =some (some d):=by
     cases q:env[j]? with
     |none=>rw[q] at e';cases e'
     |some z=>rw[q] at e';exact congrArg some e'
    obtain⟨v,h1,h2⟩:=h.val j d e2;exact⟨v,by rw[Option.map_some,h1];rfl,h2⟩
theorem b1m{own:List Str}{js:List Nat}{σ σ4:St}{p:Pat}(hp:(K2 p).all (fun i=>decide (i<own.length))=true)(hl:σ4.length=(D8 own js σ).length)(hs:∀(j:Nat),j∉K2 p->σ4[j]? =(D8 own js σ)[j]?):Wk (D8 own js σ) σ4:=by
 refine⟨hl.symm,fun i v h=>?_⟩
 rw[hs i]
 · exact h
 · intro hm
   have:=of_decide_eq_true (List.all_eq_true.mp hp i hm)
   unfold D8 at h;rw[List.getElem?_append_left (by simpa using this),List.getElem?_map] at h
   cases q:own[i]? with
   |none=>rw[q] at h;cases h
   |some z=>rw[q] at h;cases h
theorem a7a{α:Type}{m:List Addr}{H:Hp}{r:R α}{f:α->AH->R D}{Q:VK}(h:i6 Γ Ex m H (r.bind f) Q):∃a ah,r=.ok a ah/\i6 Γ Ex m H (f a ah) Q:=by
 cases r with
 |ok a ah=>exact⟨a,ah,rfl,h⟩
 |no=>exact h.elim
theorem a5K {own:List Str} {js:List Nat} {p:Pat} {it:I} {t:T} {e:E} (hp:(K2 p).all (fun i=>decide (i<own.length))=true):∀σ H Q,TEv Γ Ex (ev ct c (.comp p it own.length js t e)) σ H Q->a6J own js (TIv Γ Ex (evi ct c it)) (TGv Γ p) (TTv Γ E0 (tst ct c t)) (TEv Γ E0 (ev ct c e)) σ H Q:=by
 rintro σ H Q ⟨env,ah,m,rl,q⟩;rw[ev] at q;refine⟨env,ah,m,rl,q.bind.mp fun x ah1 m1 H1 p1 k1 s1 q1=>fun _ J hJ D hD=>?_⟩
 have er1:=rl.env.mono p1 k1
 refine⟨fun i mm ys H2=>mm=x.1.length-i/\i<=x.1.length/\∃acc ah2 m2,Sim Γ ah2 m2 H2/\Pre m1 m2/\Keep m1 m2 H1 H2/\D∉m2/\H2 D=some (.lst ys)/\Rps m2 H2 acc ys∧
  i6 Γ Ex m1 H1 ((R6 x.2 p (tst ct c t) (ev ct c e) (D9 own.length js env) (x.1.drop i) acc ah2).bind fun ds h2=>x5 (.lst ds) h2) Q,?_,?_⟩
 · exact⟨_,rfl,Nat.zero_le _,[],ah1,m1,s1.new hD,Pre.refl _,Keep.new hD,s1.fresh hD,g9,rfl,q1⟩
 · rintro i mm ys H2 ⟨hmm,hil,acc,ah2,m2,s2,p2,k2,nD,hD2,rs2,q2⟩
   by_cases hend:i=x.1.length
   · refine .inl ?_
     rw[hend,List.drop_length] at q2;obtain⟨ds,ah3,e3,q3⟩:=a7a q2;unfold R6 at e3
     split at e3
     · rename_i hgk;cases e3;refine⟨(hJ i ah2 m2 H2 p2 k2 s2 hgk).1 hend,?_⟩
       have sm:Sim Γ (ah2++[.lst acc]) (m2++[D]) H2:=by
        refine⟨by simp[s2.len],a0w s2.nd nD,fun n a cc hn hcc=>?_⟩
        have kk:Keep m2 m2 H2 H2:=Keep.refl _ _
        by_cases hl:n<m2.length
        · rw[List.getElem?_append_left hl] at hn
          rw[List.getElem?_append_left (by rw[←s2.len];exact hl)] at hcc
          exact(s2.at hn hcc).mono' (Pre.snoc m2 D) (fun _ _ _ z=>z) rfl
        · have hn':n=m2.length:=by
           have:=(List.getElem?_eq_some_iff.mp hn).1
           simp at this;omega
          subst hn';rw[List.getElem?_append_right (Nat.le_refl _)] at hn
          rw[s2.len,List.getElem?_append_right (Nat.le_refl _)] at hcc
          simp at hn hcc;subst hn;subst hcc
          exact⟨ys,hD2,rs2.mono' (Pre.snoc m2 D) fun _ _ _ z=>z⟩
       refine q3 (m2++[D]) H2 (.ref D) (p2.trans (Pre.snoc m2 D)) ⟨k2.im,k2.out,fun a ha=>?_⟩ sm ⟨D,rfl,?_⟩
       · rcases List.mem_append.mp ha with z|z
         · exact k2.fr a z
         · simp at z;subst z;exact .inr hD
       · rw[←s2.len,List.getElem?_append_right (Nat.le_refl _)];simp
     · cases e3
   · refine .inr ?_
     have hlt:i<x.1.length:=Nat.lt_of_le_of_ne hil hend
     have hdi:x.1[i]? =some x.1[i]:=List.getElem?_eq_getElem hlt
     rw[List.drop_eq_getElem_cons hlt] at q2;generalize hdd:x.1[i]=dd at q2 hdi;obtain⟨ds,ah3,e3,q3⟩:=a7a q2;unfold R6 at e3
     split at e3
     · rename_i hgk;obtain⟨go,yl⟩:=(hJ i ah2 m2 H2 p2 k2 s2 hgk).2 dd hdi;refine⟨go,fun v H3 hy=>?_⟩
       obtain⟨k3,s3,r3⟩:=yl v H3 hy
       split at e3
       · cases e3
       · rename_i envb hb
         have er3:EnvRel m2 H3 (D9 own.length js env) (D8 own js σ):=a5F ((er1.mono p2 k2).mono (Pre.refl m2) k3) own js
         refine⟨_,dd,m2,envb,er3,r3,hb,fun σ4 er4 l4 s4=>⟨b1m hp l4 s4,envb,ah2,m2,⟨s3,er4⟩,?_⟩⟩
         have hD3:H3 D=some (.lst ys):=k3.out D _ nD hD2
         have ab:∀{m9:List Addr} {H9:Hp},Pre m2 m9->Keep m2 m9 H3 H9->D∉m9/\H9 D=some (.lst ys):=fun{m9 H9} p9 k9=>
          ⟨fun z=>(k9.fr D z).elim nD fun y=>(by rw[hD3] at y;cases y),k9.out D _ nD hD3⟩
         cases ht:tst ct c t envb ah2 with
         |no=>rw[ht] at e3;cases e3
         | ok bb ah4=>
          rw[ht,k7] at e3;intro m5 H5 p5 k5 s5;obtain⟨nD5,hD5⟩:=ab p5 k5;have k25:=k3.trans k5
          cases bb with
          |false=>
           rw[if_neg (by decide)] at e3
           refine b7l ⟨x.1.length-(i+1),by omega,rfl,hlt,acc,ah4,m5,s5,p2.trans p5,k2.trans k25,nD5,hD5,rs2.mono p5 k25,?_⟩
           rw[e3];exact q3
          | true=>
           rw[if_pos rfl] at e3;refine b7k ⟨envb,ah4,m5,⟨s5,er4.mono p5 k5⟩,?_⟩
           cases hv:ev ct c e envb ah4 with
           |no=>rw[hv] at e3;cases e3
           | ok d6 ah6=>
            rw[hv,k7] at e3
            split at e3
            · rename_i hz;intro m6 H6 v6 p6 k6 s6 r6;have k36:=k5.trans k6;obtain⟨nD6,hD6⟩:=ab (p5.trans p6) k36;have rs6:=rs2.mono (p5.trans p6) (k25.trans k6)
              have im6:KIm H6 (upd H6 D (.lst (ys++[v6]))):=fun b o io hbo=>by
               have:b≠D:=fun z=>by rw[z,hD6] at hbo;cases hbo;exact io
               rw[l8 this];exact hbo
              refine⟨hD6,by rw[rs6.len,←Q3];exact hz,x.1.length-(i+1),by omega,rfl,hlt,acc++[d6],ah6,m6,?_,p2.trans (p5.trans p6),?_,nD6,g9,(rs6.snoc r6).mono' (Pre.refl m6) im6,?_⟩
              · refine⟨s6.len,s6.nd,fun n a cc hn hcc=>(s6.at hn hcc).mono' (Pre.refl m6) im6 ?_⟩
                exact l8 fun z=>nD6 (by rw[←z];exact List.mem_of_getElem? hn)
              · have kall:=k2.trans (k25.trans k6);refine⟨fun b o io hb=>im6 b o io (kall.im b o io hb),fun b o nb hb=>?_,kall.fr⟩
                rw[l8 (u0 hb hD)];exact kall.out b o nb hb
              · rw[e3];exact q3
            · cases e3
     · cases e3
theorem b6c{elt iter tg:Expr}{ifs:List Expr}{scope:Scope}{pos:Pos}{own frees:List Str}{js:List Nat}{p:Pat}{it:I}{t:T}{e:E}(C:Cxt X Γ G ct c Ex N sc dfn)(hi:PI X tg iter (TIv Γ Ex (evi ct c it)))(S:CompScope X.env.scope scope own frees)(hj:frees.map some=js.map (X.N[·]?))
 (hg:∀C s₀ H₀ ex,PG (t8 X own frees scope C s₀ H₀ ex) tg (TGv Γ p)) (hc:∀C s₀ H₀ ex,a5S (t8 X own frees scope C s₀ H₀ ex) ifs (TTv Γ E0 (tst ct c t))) (he:∀C s₀ H₀ ex,PE (t8 X own frees scope C s₀ H₀ ex) elt (TEv Γ E0 (ev ct c e)))
 (hs:∀x,foldedSetIterable iter X.env x=pure x) (hp:(K2 p).all (fun i=>decide (i<own.length))=true):PE X (.ListComp elt [⟨tg,iter,ifs,0⟩] scope pos) (TEv Γ Ex (ev ct c (.comp p it own.length js t e))):=by
 exact PE.imp (a5i C.calm hi S hj hg hc he hs) (a5K hp)
theorem Cxt.comp{scope:Scope}{own frees:List Str}(C:Cxt X Γ G ct c Ex N sc dfn)(S:CompScope sc scope own frees)(D:Addr)(s₀:Shared)(H₀:Hp)(ex:List Addr):Cxt (t8 X own frees scope D s₀ H₀ ex) Γ G ct c E0 (own++frees) (a6S sc scope) false where
 hN:=rfl
 nd:=S.nd
 sc:=by rw[←C.sc];rfl
 calm:=C.calm
 hu:=C.hu
 K:=C.K
 fnb:=fun h=>by cases h
 scal:=C.scal
 tups:=C.tups
 dicts:=C.dicts
 blt:=C.blt
 fn:=C.fn
 obj:=C.obj
 att:=C.att
theorem a7k:∀{l:List Str} {js:List Nat},b2z N l=some js->l.map some=js.map (N[·]?)
 |[],js,h=>by cases h;rfl
 |x::r,js,h=>by
  unfold b2z at h
  split at h
  · rename_i i is h1 h2;cases h;rw[List.map_cons,List.map_cons,a4n h1,a7k h2]
  · cases h
theorem a0e{op:CmpOp}{o:B}(h:a6B op=some o):o.cmp=some op:=by cases op<;>cases h<;>rfl
theorem b3m{op:Operator}{o:B}(h:b8o op=some o):o.bin=some op:=by cases op<;>cases h<;>rfl
theorem Q4{op:CmpOp}{b:Expr}(h:a0O b=true):behindInMarks op b=false:=by cases b<;>first|rfl|cases h
theorem a0x{e:Expr}{env:Env}(h:a0O e=true):∀x,foldedSetIterable e env x=pure x:=by intro x;cases e<;>first|rfl|cases h
theorem a2n{b:Expr}(h:a1Q b=true):a1U b:=by intro o i;cases b<;>first|rfl|cases h
def a1b(Γ:Gm)(G:GT)(ct:CT)(c:CF)(n:Nat):Prop:=∀(X:Cx) (Ex:XK) (N:List Str) (sc:Scope) (dfn:Bool),Cxt X Γ G ct c Ex N sc dfn→
 (∀e x,cE G N sc n e=some x->PE X e (TEv Γ Ex (ev ct c x)))/\(∀es xs,cEs G N sc n es=some xs->PA X es (TAv Γ Ex (evs ct c xs))/\es.all o9=true)∧
 (∀e t,cT G N sc n e=some t->PT X e (TTv Γ Ex (tst ct c t))/\∀op l p,e=.BoolOp op l p->PW X e (TTv Γ Ex (tst ct c t)))/\(∀o x,cO G N sc n o=some x->PO X o (TOv Γ Ex (evo ct c x)))∧
 ∀tg e it,cI G N sc n tg e=some it->PI X tg e (TIv Γ Ex (evi ct c it))
theorem b0P:a1b Γ G ct c 0:=fun X Ex N sc dfn C=>
 ⟨fun e x h=>absurd (show none=some x from h) (by simp),fun e x h=>absurd (show none=some x from h) (by simp),fun e x h=>absurd (show none=some x from h) (by simp),fun e x h=>absurd (show none=some x from h) (by simp),fun tg e x h=>absurd (show none=some x from h) (by simp)⟩
theorem b0M{n:Nat}(ih:a1b Γ G ct c n)(C:Cxt X Γ G ct c Ex N sc dfn):∀es xs,cEs G N sc (n+1) es=some xs->PA X es (TAv Γ Ex (evs ct c xs))/\es.all o9=true:=by
 intro es xs h;obtain⟨i1,i2,_⟩:=ih X Ex N sc dfn C
 replace h:sEs G (cR G n) N sc es=some xs:=h
 unfold sEs at h
 split at h
 · cases h;exact⟨b8D,rfl⟩
 · split at h
   · rename_i hp
     split at h
     · rename_i x xs' h1 h2;cases h;obtain⟨g1,g2⟩:=i2 _ xs' h2;exact⟨b6b (i1 _ x h1) g1 (i9 hp),by rw[List.all_cons,hp,g2];rfl⟩
     · cases h
   · cases h
theorem map_some{α β:Type}{o:Option α}{f:α->β}{b:β}(h:o.map f=some b):∃a,o=some a/\f a=b:=Option.map_eq_some_iff.mp h
theorem b3i{n:Nat}(ih:a1b Γ G ct c n)(C:Cxt X Γ G ct c Ex N sc dfn):∀o x,cO G N sc (n+1) o=some x->PO X o (TOv Γ Ex (evo ct c x)):=by
 intro o x h;obtain⟨i1,i2,_⟩:=ih X Ex N sc dfn C
 replace h:sO G (cR G n) N sc o=some x:=h
 unfold sO at h
 split at h
 · cases h;exact b9M
 · obtain⟨y,h1,rfl⟩:=map_some h;exact b9L (i1 _ y h1)
theorem b3j{n:Nat}(ih:a1b Γ G ct c n)(C:Cxt X Γ G ct c Ex N sc dfn):∀tg e it,cI G N sc (n+1) tg e=some it->PI X tg e (TIv Γ Ex (evi ct c it)):=by
 intro tg e it h;obtain⟨i1,i2,_⟩:=ih X Ex N sc dfn C
 have seq:∀{e:Expr} {it:I},(cE G N sc n e).map I.seq=some it->PI X tg e (TIv Γ Ex (evi ct c it)):=by
  intro e it h;obtain⟨x,h1,rfl⟩:=map_some h;exact b8z C (i1 _ _ h1)
 replace h:sI G (cR G n) N sc tg e=some it:=h
 unfold sI at h
 split at h
 · split at h
   · rename_i hc;rw[Bool.and_eq_true,Bool.and_eq_true] at hc;obtain⟨⟨hg,hb⟩,hx⟩:=hc;have hx:=of_decide_eq_true hx;subst hx;have hm:=C.blt _ hb
     split at h
     · split at h
       · rename_i hp;obtain⟨x,h1,rfl⟩:=map_some h;exact b5T C hg hm hp (i1 _ _ h1)
       · cases h
     · cases h
   · split at h
     · rename_i hc;rw[Bool.and_eq_true,Bool.and_eq_true] at hc;obtain⟨⟨hg,hb⟩,hx⟩:=hc;have hx:=of_decide_eq_true hx;subst hx;have hm:=C.blt _ hb
       split at h
       · split at h
         · rename_i hp;obtain⟨x,h1,rfl⟩:=map_some h;exact b5X C hg hm hp (i1 _ _ h1)
         · cases h
       · cases h
     · split at h
       · rename_i hc;rw[Bool.and_eq_true,Bool.and_eq_true] at hc;obtain⟨⟨hg,hb⟩,hx⟩:=hc;have hx:=of_decide_eq_true hx;subst hx;have hm:=C.blt _ hb
         split at h
         · split at h
           · rename_i hp;rw[Bool.and_eq_true] at hp
             split at h
             · rename_i h1 h2;cases h;exact b8w C hg hm hp.1 hp.2 (i1 _ _ h1) (i1 _ _ h2)
             · cases h
           · cases h
         · cases h
       · exact seq h
 · exact seq h
theorem b7A{n:Nat}{a b:Expr}{pos:Pos}{op:CmpOp}{x:E}(ih:a1b Γ G ct c n)(C:Cxt X Γ G ct c Ex N sc dfn)(h1:cE G N sc n a=some x){α:Type}{k:E->α}{y:α}(h:(match b with
       | .Name y _=>if K8 sc y then(match op,G.tups.lookup y with
         |.In,some ds=>some (k (.gin false x ds))
         |.NotIn,some ds=>some (k (.gin true x ds))
         |.In,none=>(G.dicts.lookup y).map fun kvs=>k (.gdin false x kvs)
         |.NotIn,none=>(G.dicts.lookup y).map fun kvs=>k (.gdin true x kvs)
         |_,_=>none) else none
       |_=>none)=some y):∃g,y=k g/\PE X (.Compare a [op] [b] pos) (TEv Γ Ex (ev ct c g))/\PT X (.Compare a [op] [b] pos) (TTv Γ Ex (tst ct c (.val g))):=by
 obtain⟨i1,i2,_⟩:=ih X Ex N sc dfn C
 split at h
 · split at h
   · rename_i hg
     split at h
     · rename_i ds hd;cases h;exact⟨_,rfl,b3F C (.inl ⟨rfl,rfl⟩) hg hd (i1 _ _ h1)⟩
     · rename_i ds hd;cases h;exact⟨_,rfl,b3F C (.inr ⟨rfl,rfl⟩) hg hd (i1 _ _ h1)⟩
     · obtain⟨kvs,hd,rfl⟩:=map_some h;exact⟨_,rfl,b0S C (.inl ⟨rfl,rfl⟩) hg hd (i1 _ _ h1)⟩
     · obtain⟨kvs,hd,rfl⟩:=map_some h;exact⟨_,rfl,b0S C (.inr ⟨rfl,rfl⟩) hg hd (i1 _ _ h1)⟩
     · cases h
   · cases h
 · cases h
theorem a7i{b:Expr}(h:b5c b=true):∃p q,b=.Constant .none p q:=by
 cases b<;>first|(cases h;done)|skip
 rename_i k p q
 cases k<;>first|(cases h;done)|exact⟨_,_,rfl⟩
theorem a9v{op:CmpOp}(h:a6f op=some true):op=.Is:=by cases op<;>first|rfl|(cases h;done)
theorem a9w{op:CmpOp}(h:(a6f op).isSome=true)(h':a6f op=some true->False):op=.IsNot:=by cases op<;>first|rfl|(cases h;done)|exact(h' rfl).elim
theorem b1J{b:Expr}{lo hi:Option Expr}(h:b6C b=some (lo,hi)):∃p,b=.Slice lo hi none p:=by
 cases b<;>first|(cases h;done)|skip
 rename_i a c st p
 cases st<;>first|(cases h;done)|(cases h;exact⟨_,rfl⟩)
theorem b3h {n:Nat} (ih:a1b Γ G ct c n) (C:Cxt X Γ G ct c Ex N sc dfn):∀e t,cT G N sc (n+1) e=some t->PT X e (TTv Γ Ex (tst ct c t))/\∀op l p,e=.BoolOp op l p->PW X e (TTv Γ Ex (tst ct c t)):=by
 intro e t h;obtain⟨i1,i2,i3,_⟩:=ih X Ex N sc dfn C
 replace h:sT G (cR G n) N sc e=some t:=h
 have dflt:∀{e:Expr},sTd G (cR G n) N sc e=some t->PT X e (TTv Γ Ex (tst ct c t))/\∀op l p,e=.BoolOp op l p->PW X e (TTv Γ Ex (tst ct c t)):=by
  intro e h;unfold sTd at h
  split at h
  · rename_i hp;obtain⟨y,h1,rfl⟩:=map_some h;refine⟨b8x ?_ (i1 _ y h1),fun _ _ _ z=>?_⟩
    · intro whole
      cases e<;>first|rfl|(cases hp;done)
    · subst z;cases hp
  · cases h
 unfold sT at h
 split at h
 · split at h
   · obtain⟨y,h1,rfl⟩:=map_some h;exact⟨b8C (i3 _ y h1).1,fun _ _ _ z=>nomatch z⟩
   · exact dflt h
 · rename_i op l p
   split at h
   · exact dflt h
   · split at h
     · rename_i a _
       have g:PW X (.BoolOp op [a] p) (TTv Γ Ex (tst ct c t)):=by
        cases op
        · exact b1S (i3 _ t h).1
        · exact b3Z (i3 _ t h).1
       exact⟨g.pt,fun _ _ _ _=>g⟩
     · split at h
       · split at h
         · rename_i h1 h2;cases h;have g:=b8N (i3 _ _ h1).1 ((i3 _ _ h2).2 _ _ _ rfl);exact⟨g.pt,fun _ _ _ _=>g⟩
         · cases h
       · split at h
         · rename_i h1 h2;cases h;have g:=b8B (i3 _ _ h1).1 ((i3 _ _ h2).2 _ _ _ rfl);exact⟨g.pt,fun _ _ _ _=>g⟩
         · cases h
 · split at h
   · cases h
   · split at h
     · cases h
     · split at h
       · split at h
         · unfold b6E at h
           split at h
           · rename_i hc;rw[Bool.and_eq_true] at hc;obtain⟨p,q,rfl⟩:=a7i hc.1
             split at h
             · rename_i ho
               cases a9v ho
               obtain⟨y,h1,rfl⟩:=map_some h;exact⟨b5V (i1 _ y h1),fun _ _ _ z=>nomatch z⟩
             · rename_i ho
               cases a9w hc.2 ho
               obtain⟨y,h1,rfl⟩:=map_some h;exact⟨b3r (i1 _ y h1),fun _ _ _ z=>nomatch z⟩
           · split at h
             · rename_i hs
               split at h
               · rename_i h0 h1 h2;cases h;exact⟨b6d C.hu C.K (a0e h0) (i1 _ _ h1) (i1 _ _ h2) (Q4 hs),fun _ _ _ z=>nomatch z⟩
               · rename_i h0 h1 h2;obtain⟨gg,rfl,_,g⟩:=b7A (k:=T.val) ih C h1 h;exact⟨g,fun _ _ _ z=>nomatch z⟩
               · cases h
             · cases h
         · cases h
       · split at h
         · cases h
         · split at h
           · rename_i ht;rw[Bool.and_eq_true] at ht;obtain⟨t1,t2⟩:=ht
             cases List.isEmpty_iff.mp t1
             cases List.isEmpty_iff.mp t2
             unfold b6D at h
             split at h
             · rename_i hs
               split at h
               · rename_i h0 h0' h1 h2 h3;cases h;exact⟨b6e C.hu C.K (a0e h0) (a0e h0') (i1 _ _ h1) (i1 _ _ h2) (i1 _ _ h3) (Q4 hs),fun _ _ _ z=>nomatch z⟩
               · cases h
             · cases h
           · cases h
 · exact dflt h
end
end EV
namespace EV
open PySem PySem.Spec L2
open PyProof.Rows hiding St
section
variable{X:Cx}{Γ:Gm}{G:GT}{ct:CT}{c:CF}{Ex:XK}{N:List Str}{sc:Scope}{dfn:Bool}
theorem a3G{l:List Expr}{a b:Expr}(h:a8y l=some (a,b)):l=[a,b]:=by
 unfold a8y at h
 split at h
 · cases h
 · split at h
   · cases h
   · split at h
     · rename_i e
       cases List.isEmpty_iff.mp e
       cases h;rfl
     · cases h
theorem a6Z{l:List Expr}{a:Expr}(h:b2n l=some a):l=[a]:=by
 unfold b2n at h
 split at h
 · cases h
 · split at h
   · rename_i e
     cases List.isEmpty_iff.mp e
     cases h;rfl
   · cases h
theorem a4b{e:Expr}{x:Str}(h:a9z e=some x):∃p,e=.Name x p:=by
 unfold a9z at h
 split at h
 · cases h;exact⟨_,rfl⟩
 · cases h
theorem a8V{as:List Expr}{a b:Expr}(h:a8W as=some (a,b)):∃p q,as=[.Call (.Name "range" p) [a,b] [] q]:=by
 unfold a8W at h
 split at h
 · rename_i h1
   cases a6Z h1
   split at h
   · split at h
     · rename_i hc;rw[Bool.and_eq_true] at hc
       cases List.isEmpty_iff.mp hc.1
       obtain⟨p,rfl⟩:=a4b (of_decide_eq_true hc.2)
       cases a3G h
       exact⟨_,_,rfl⟩
     · cases h
   · cases h
 · cases h
theorem a1y{n:Nat}{elt tg iter:Expr}{ifs:List Expr}{scope:Scope}{x:E}(ih:a1b Γ G ct c n)(C:Cxt X Γ G ct c Ex N sc dfn)(h:sLc G (cR G n) N sc elt tg iter ifs scope=some x):
 ∃p it js t y,x=.comp p it (t9 8 tg).length js t y/\PI X tg iter (TIv Γ Ex (evi ct c it))/\CompScope X.env.scope scope (t9 8 tg) (D6 scope)/\(D6 scope).map some=js.map (X.N[·]?)∧
  (∀D s₀ H₀ ex,PG (t8 X (t9 8 tg) (D6 scope) scope D s₀ H₀ ex) tg (TGv Γ p))/\(∀D s₀ H₀ ex,a5S (t8 X (t9 8 tg) (D6 scope) scope D s₀ H₀ ex) ifs (TTv Γ E0 (tst ct c t)))/\(∀D s₀ H₀ ex,PE (t8 X (t9 8 tg) (D6 scope) scope D s₀ H₀ ex) elt (TEv Γ E0 (ev ct c y)))∧
  (∀v,foldedSetIterable iter X.env v=pure v)/\(K2 p).all (fun i=>decide (i<(t9 8 tg).length))=true:=by
 obtain⟨i1,i2,i3,i4,i5⟩:=ih X Ex N sc dfn C;unfold sLc at h
 split at h
 · rename_i it hit
   split at h
   · rename_i js hjs
     split at h
     · rename_i hc;rw[Bool.and_eq_true] at hc
       have S0:CompScope sc scope (t9 8 tg) (D6 scope):=b8e hc.1
       have S:CompScope X.env.scope scope (t9 8 tg) (D6 scope):=by rw[C.sc];exact S0
       have hj:(D6 scope).map some=js.map (X.N[·]?):=by rw[C.hN];exact a7k hjs
       split at h
       · rename_i p y hp hy
         split at h
         · rename_i hall
           have pg:∀D s₀ H₀ ex,PG (t8 X (t9 8 tg) (D6 scope) scope D s₀ H₀ ex) tg (TGv Γ p):=fun D s₀ H₀ ex=>((b3D (C.comp S0 D s₀ H₀ ex) 8).1 tg p hp).1
           have pe:∀D s₀ H₀ ex,PE (t8 X (t9 8 tg) (D6 scope) scope D s₀ H₀ ex) elt (TEv Γ E0 (ev ct c y)):=fun D s₀ H₀ ex=>(ih _ _ _ _ _ (C.comp S0 D s₀ H₀ ex)).1 elt y hy
           split at h
           · cases h;refine⟨p,it,js,.yes,y,rfl,i5 _ _ _ hit,S,hj,pg,fun D s₀ H₀ ex=>?_,pe,a0x hc.2,hall⟩
             intro pins s σ H Q I q;refine b4i pins s σ H Q I ?_
             obtain⟨env,ah,m,rl,q⟩:=q;rw[tst] at q;exact q.ok rl.sim
           · obtain⟨z,h1,rfl⟩:=map_some h;exact⟨p,it,js,z,y,rfl,i5 _ _ _ hit,S,hj,pg,fun D s₀ H₀ ex=>b1Z ((ih _ _ _ _ _ (C.comp S0 D s₀ H₀ ex)).2.2.1 _ z h1).1,pe,a0x hc.2,hall⟩
           · cases h
         · cases h
       · cases h
     · cases h
   · cases h
 · cases h
theorem b3k {n : Nat} (ih:a1b Γ G ct c n) (C:Cxt X Γ G ct c Ex N sc dfn):∀e x,cE G N sc (n+1) e=some x->PE X e (TEv Γ Ex (ev ct c x)):=by
 intro e x h;obtain⟨i1,i2,i3,i4,i5⟩:=ih X Ex N sc dfn C
 replace h:sE G (cR G n) N sc e=some x:=h
 unfold sE at h
 split at h
 · unfold b6H at h
   split at h
   · cases h;exact a_k (dd:=.int _) a9p (fun _ _=>rfl) c ct
   · cases h;exact a_k (dd:=.str _) a9m (fun _ _=>rfl) c ct
   · cases h;exact a_k (dd:=.bl _) b6X (fun _ _=>rfl) c ct
   · cases h;exact a_k (dd:=.non) b4s (fun _ _=>rfl) c ct
   · cases h
 · -- Name
   split at h
   · rename_i i hs;cases h;unfold slot at hs
     split at hs
     · rename_i hv;rw[Bool.and_eq_true,Bool.and_eq_true] at hv;exact a_v (by rw[C.hN];exact a4n hs) (C.vis hv.1.1) (beq_eq_false_iff_ne.mpr (of_decide_eq_true hv.1.2)) (beq_eq_false_iff_ne.mpr (of_decide_eq_true hv.2)) c ct
     · cases hs
   · split at h
     · rename_i hg;obtain⟨d,h1,rfl⟩:=map_some h;obtain⟨u,v,s1,s2,s3⟩:=C.scal _ d h1;exact a_k (a1M (C.gl hg) s1 s2 (X9 hg).2.1) s3 c ct
     · cases h
 · split at h
   · rename_i h0 h1 h2;cases h;exact b8L (b3m h0) (i1 _ _ h1) (i1 _ _ h2)
   · cases h
 · unfold sUn at h
   split at h
   · obtain⟨y,h1,rfl⟩:=map_some h;exact b8E (i1 _ y h1)
   · obtain⟨y,h1,rfl⟩:=map_some h;exact b9N (i1 _ y h1)
   · cases h
 · unfold sBo at h
   split at h
   · cases h
   · split at h
     · exact b4q (i1 _ x h)
     · split at h
       · split at h
         · rename_i h1 h2;cases h;exact b9S (i1 _ _ h1) (i1 _ _ h2)
         · cases h
       · split at h
         · rename_i h1 h2;cases h;exact b8A (i1 _ _ h1) (i1 _ _ h2)
         · cases h
 · split at h
   · cases h
   · split at h
     · cases h
     · split at h
       · split at h
         · unfold b6K at h
           split at h
           · rename_i hc;rw[Bool.and_eq_true] at hc;obtain⟨p,q,rfl⟩:=a7i hc.1
             split at h
             · rename_i ho
               cases a9v ho
               obtain⟨y,h1,rfl⟩:=map_some h;exact b8G (i1 _ y h1)
             · rename_i ho
               cases a9w hc.2 ho
               obtain⟨y,h1,rfl⟩:=map_some h;exact b5U (i1 _ y h1)
           · split at h
             · rename_i hs
               split at h
               · rename_i h0 h1 h2;cases h;exact b8J C.hu C.K (a0e h0) (i1 _ _ h1) (i1 _ _ h2) (Q4 hs)
               · rename_i h0 h1 h2;obtain⟨gg,rfl,g,_⟩:=b7A (k:=fun g=>g) ih C h1 h
                 exact g
               · cases h
             · cases h
         · cases h
       · split at h
         · cases h
         · split at h
           · rename_i ht;rw[Bool.and_eq_true] at ht;obtain⟨t1,t2⟩:=ht
             cases List.isEmpty_iff.mp t1
             cases List.isEmpty_iff.mp t2
             unfold b6J at h
             split at h
             · rename_i hs
               split at h
               · rename_i h0 h0' h1 h2 h3;cases h;exact b8K C.hu C.K (a0e h0) (a0e h0') (i1 _ _ h1) (i1 _ _ h2) (i1 _ _ h3) (Q4 hs)
               · cases h
             · cases h
           · cases h
 · unfold sSl at h
   split at h
   · rename_i hs0;obtain⟨q,rfl⟩:=b1J hs0
     split at h
     · rename_i h1 h2 h3;cases h;exact b9K C.K (i1 _ _ h1) (i4 _ _ h2) (i4 _ _ h3)
     · cases h
   · split at h
     · rename_i hs
       split at h
       · rename_i h1 h2;cases h;exact b9Q C.hu C.K (i1 _ _ h1) (i1 _ _ h2) (a2n hs)
       · rename_i h1 h2
         split at h
         · split at h
           · rename_i hg;obtain⟨kvs,hd,rfl⟩:=map_some h;exact b5W C hg hd (i1 _ _ h2) (a2n hs)
           · cases h
         · cases h
       · cases h
     · cases h
 · split at h
   · rename_i hb;rw[Bool.and_eq_true] at hb;obtain⟨y,h1,rfl⟩:=map_some h;exact b8H C hb.1 hb.2 (i1 _ y h1)
   · cases h
 · obtain⟨y,h1,rfl⟩:=map_some h;exact b8F (i2 _ y h1).1
 · obtain⟨y,h1,rfl⟩:=map_some h;exact b8y (i2 _ y h1).1
 · split at h
   · split at h
     · cases h;exact b5Y
     · cases h
   · obtain⟨kvs,h1,h⟩:=Option.bind_eq_some_iff.mp h
     split at h
     · rename_i hk;cases h;exact b5Z (List.cons_ne_nil _ _) h1 hk
     · cases h
 · rename_i f as ks cpos
   split at h
   · rename_i hk0
     cases List.isEmpty_iff.mp hk0
     split at h
     · rename_i nm np0;unfold sCn at h
       split at h
       · rename_i hg
         split at h
         · rename_i f np hf
           split at h
           · rename_i hl;obtain⟨y,h1,rfl⟩:=map_some h;obtain⟨g1,g2⟩:=i2 _ y h1;rw[Bool.and_eq_true] at hl;have hne:=of_decide_eq_true hl.2
             cases as with
             |nil=>exact absurd rfl hne
             |cons a r=>exact b6f C hf hg g2 g1
           · cases h
         · split at h
           · rename_i k hk
             split at h
             · rename_i he;cases h;subst he;exact b9P C hk hg
             · cases h
           · split at h
             · rename_i hb;have hm:=C.blt _ hb
               split at h
               · rename_i hx;subst hx
                 split at h
                 · rename_i h2
                   cases a3G h2
                   split at h
                   · rename_i hp
                     split at h
                     · rename_i hq;rw[Bool.and_eq_true,Bool.and_eq_true] at hq;obtain⟨⟨q2,q3⟩,q4⟩:=hq;obtain⟨pp,rfl⟩:=a4b (of_decide_eq_true q2);obtain⟨y,h1,rfl⟩:=map_some h;exact b3E (.inl ⟨rfl,rfl⟩) C hg hm q3 (C.blt _ q4) hp (i1 _ y h1)
                     · split at h
                       · rename_i hq;rw[Bool.and_eq_true,Bool.and_eq_true] at hq;obtain⟨⟨q2,q3⟩,q4⟩:=hq;obtain⟨pp,rfl⟩:=a4b (of_decide_eq_true q2);obtain⟨y,h1,rfl⟩:=map_some h;exact b3E (.inr ⟨rfl,rfl⟩) C hg hm q3 (C.blt _ q4) hp (i1 _ y h1)
                       · cases h
                   · cases h
                 · cases h
               · split at h
                 · rename_i hq
                   split at hq
                   · rename_i hc;rw[Bool.and_eq_true,Bool.and_eq_true] at hc;obtain⟨⟨c1,c2⟩,c3⟩:=hc
                     cases of_decide_eq_true c1
                     obtain⟨pp,qq,rfl⟩:=a8V hq
                     split at h
                     · rename_i hp;rw[Bool.and_eq_true] at hp
                       split at h
                       · rename_i h3 h4;cases h;exact b5S C hg hm c2 (C.blt _ c3) hp.1 hp.2 (i1 _ _ h3) (i1 _ _ h4)
                       · cases h
                     · cases h
                   · cases hq
                 · split at h
                   · rename_i b hbi
                     split at h
                     · rename_i hne;obtain⟨y,h1,rfl⟩:=map_some h;obtain⟨g1,g2⟩:=i2 _ y h1
                       cases as with
                       |nil=>exact absurd rfl hne
                       |cons a r=>exact b9R C hbi hg hm g2 g1
                     · cases h
                   · cases h
             · cases h
       · cases h
     · rename_i o mm apos;unfold sCa at h
       split at h
       · rename_i hc;rw[Bool.and_eq_true,Bool.and_eq_true] at hc;obtain⟨⟨c1,c2⟩,c3⟩:=hc
         cases of_decide_eq_true c3
         unfold b6G at h
         split at h
         · rename_i h2
           cases a3G h2
           split at h
           · rename_i hp;rw[Bool.and_eq_true] at hp
             split at h
             · rename_i h3 h4 h5;cases h;exact b6a C c1 c2 hp.1 hp.2 (i1 _ _ h3) (i1 _ _ h4) (i1 _ _ h5)
             · cases h
           · cases h
         · cases h
       split at h
       · rename_i hc;rw[Bool.and_eq_true,Bool.and_eq_true] at hc;obtain⟨⟨c1,c2⟩,c3⟩:=hc
         cases of_decide_eq_true c3
         unfold b6I at h
         split at h
         · rename_i h2
           cases a6Z h2
           split at h
           · rename_i hp
             split at h
             · rename_i h3 h4;cases h;exact b8I C c1 c2 hp (i1 _ _ h3) (i1 _ _ h4)
             · cases h
           · cases h
         · cases h
       split at h
       · rename_i hc;rw[Bool.and_eq_true,Bool.and_eq_true,Bool.and_eq_true] at hc;obtain⟨⟨⟨c1,c2⟩,c3⟩,c4⟩:=hc;have c3:=of_decide_eq_true c3;have c4:=of_decide_eq_true c4
         split at h
         · rename_i h0 h1 h2;cases h;obtain⟨g1,g2⟩:=i2 _ _ h2
           cases as with
           |nil=>exact absurd rfl c4
           |cons a r=>exact b9O C h0 c1 c2 c3 g2 (i1 _ _ h1) g1
         · cases h
       · cases h
     · cases h
   · cases h
 · split at h
   · cases h
   · rename_i g t
     split at h
     · rename_i hg0;rw[Bool.and_eq_true] at hg0;obtain⟨tg,iter,ifs,a⟩:=g
       cases List.isEmpty_iff.mp hg0.1
       have ha:a=0:=of_decide_eq_true hg0.2
       subst ha;obtain⟨p,it,js,t,y,rfl,j1,j2,j3,j4,j5,j6,j7,j8⟩:=a1y ih C h;exact b6c C j1 j2 j3 j4 j5 j6 j7 j8
     · cases h
 · cases h
theorem a0F:∀n,a1b Γ G ct c n
 |0=>b0P
 |n+1=>fun X Ex N sc dfn C=>⟨b3k (a0F n) C,b0M (a0F n) C,b3h (a0F n) C,b3i (a0F n) C,b3j (a0F n) C⟩
end
end EV
namespace EV
open PySem PySem.Spec L2
open PyProof.Rows hiding St
def SQ(D:Ends):Out->AH->List Addr->Hp->Prop:=fun o _ m1 H1=>match o with
 |.nx env'=>∀σ',EnvRel m1 H1 env' σ'->D.nx σ' H1
 |.rt d=>∀v,Rp m1 H1 d v->D.rt v H1
def TSv(Γ:Gm)(E:XK)(f:j9->AH->R Out):TS:=fun D σ H=>∃env ah m,Rel Γ env ah σ H m/\n5 Γ E m H (f env ah) (SQ D)
section
variable{X:Cx}{Γ:Gm}{G:GT}{ct:CT}{c:CF}{Ex:XK}{N:List Str}{sc:Scope}{e a b:Expr}{pos p':Pos}{x y z:E}{i:Nat}
theorem a1H{e:Expr}{t:Option Expr}{l:Nat}{env:Env}(h:T0 e=true):swapsWith e t l env=pure false:=by cases e<;>first|rfl|cases h
theorem b8r{n:Str}(C:Cxt X Γ G ct c Ex N sc true)(hs:a2d true N sc n=some i)(hw:T0 e=true)(he:PE X e (TEv Γ Ex (ev ct c x))):PS X (.Assign [.Name n p'] e pos) (TSv Γ Ex (ex ct c (.set i x))):=by
 obtain⟨h1,h2,h3⟩:=a2c C hs;refine PS.imp (a9g (by rw[C.hN];exact C.nd) h1 h2 he (a1H hw) h3) ?_
 rintro D σ H ⟨env,ah,m,rl,q⟩;rw[ex] at q;refine⟨env,ah,m,rl,n5.first rl q fun d1 ah1 m1 H1 v1 p1 k1 rl1 r1 q1=>?_⟩
 exact q1.ok rl1.sim _ (rl1.env.set r1)
theorem b5O{n:Str}{k:Nat}{elt tg iter:Expr}{ifs:List Expr}{scope:Scope}{cpos:Pos}(C:Cxt X Γ G ct c Ex N sc true)(hs:a2d true N sc n=some i)(h:cE G N sc (k+1) (.ListComp elt [⟨tg,iter,ifs,0⟩] scope cpos)=some x):PS X (.Assign [.Name n p'] (.ListComp elt [⟨tg,iter,ifs,0⟩] scope cpos) pos) (TSv Γ Ex (ex ct c (.set i x))):=by
 obtain⟨h1,h2,h3⟩:=a2c C hs;obtain⟨p,it,js,t,y,rfl,j1,j2,j3,j4,j5,j6,j7,j8⟩:=a1y (a0F k) C (show sLc G (cR G k) N sc elt tg iter ifs scope=some x from h);refine PS.imp (b1V C.calm j1 j2 j3 j4 j5 j6 j7 (by rw[C.hN];exact C.nd) h1 h2 h3) ?_
 rintro D σ H ⟨env,ah,m,rl,q⟩;rw[ex] at q;refine a5K j8 σ H _ ⟨env,ah,m,rl,n5.first rl q fun d1 ah1 m1 H1 v1 p1 k1 rl1 r1 q1=>?_⟩
 exact q1.ok rl1.sim _ (rl1.env.set r1)
theorem b9I(hw:T0 e=true)(he:PE X e (TEv Γ Ex (ev ct c x))):PS X (.Expr e pos) (TSv Γ Ex (ex ct c (.ex x))):=by
 refine PS.imp (b1U he (a1H hw)) ?_
 rintro D σ H ⟨env,ah,m,rl,q⟩;rw[ex] at q;refine⟨env,ah,m,rl,n5.first rl q fun d1 ah1 m1 H1 v1 p1 k1 rl1 r1 q1=>?_⟩
 exact q1.ok rl1.sim _ rl1.env
theorem b8s(he:PE X e (TEv Γ Ex (ev ct c x))):PS X (.Return (some e) pos) (TSv Γ Ex (ex ct c (.ret x))):=by
 refine PS.imp (b4d he) ?_
 rintro D σ H ⟨env,ah,m,rl,q⟩;rw[ex] at q;refine⟨env,ah,m,rl,n5.first rl q fun d1 ah1 m1 H1 v1 p1 k1 rl1 r1 q1=>?_⟩
 exact q1.ok rl1.sim _ r1
theorem b8v{st:Stmt}:PS X st (TSv Γ Ex (ex ct c .bad)):=by
 rintro pins s σ H D I ⟨env,ah,m,rl,q⟩;rw[ex] at q;exact q.elim
variable{t:T}{as bs:List Stmt}{sa sb:Ss}
theorem b8t:PSs X [] (TSv Γ Ex (exs ct c .nil)):=by
 refine PSs.imp b1T ?_
 rintro D σ H ⟨env,ah,m,rl,q⟩;rw[exs] at q;exact q.ok rl.sim σ rl.env
theorem b5Q{st:Stmt}{s:S}(h1:PS X st (TSv Γ Ex (ex ct c s)))(h2:PSs X as (TSv Γ Ex (exs ct c sa))):PSs X (st::as) (TSv Γ Ex (exs ct c (.cons s sa))):=by
 refine PSs.imp (a9f h1 h2) ?_
 rintro D σ H ⟨env,ah,m,rl,q⟩;rw[exs] at q;refine⟨env,ah,m,rl,q.bind.mp fun o ah1 m1 H1 p1 k1 s1 q1=>?_⟩
 cases o with
 |nx env'=>exact fun σ' er=>⟨env',ah1,m1,⟨s1,er⟩,q1⟩
 |rt d=>exact q1.ok s1
theorem b9H{tt:Expr}(hc:PT X tt (TTv Γ Ex (tst ct c t)))(ha:PSs X as (TSv Γ Ex (exs ct c sa)))(hb:PSs X bs (TSv Γ Ex (exs ct c sb))):PS X (.If tt as bs pos) (TSv Γ Ex (ex ct c (.iff t sa sb))):=by
 refine PS.imp (b6T hc ha hb) ?_
 rintro D σ H ⟨env,ah,m,rl,q⟩;rw[ex] at q;refine⟨env,ah,m,rl,q.bind.mp fun k ah1 m1 H1 p1 k1 s1 q1=>?_⟩
 cases k with
 |true=>exact b7k ⟨env,ah1,m1,rl.on p1 k1 s1,q1⟩
 |false=>exact b7l ⟨env,ah1,m1,rl.on p1 k1 s1,q1⟩
theorem b8u{tg it:Expr}{p:Pat}{ii:I}(C:Cxt X Γ G ct c Ex N sc true)(own:PassesOwn (model X.prog X.w) X.A X.env X.xe)(hi:PI X tg it (TIv Γ Ex (evi ct c ii)))(hg:PG X tg (TGv Γ p))(hb:PSs X bs (TSv Γ Ex (exs ct c sb)))(hs:a0O it=true):
 PS X (.For tg it bs [] pos) (TSv Γ Ex (ex ct c (.for p ii sb))):=by
 refine PS.imp (b4e own C.calm hi hg hb (a0x hs)) ?_
 rintro D σ H ⟨env,ah,m,rl,q⟩;rw[ex] at q;refine⟨env,ah,m,rl,q.bind.mp fun x ah1 m1 H1 p1 k1 s1 q1=>fun _ J hJ=>?_⟩
 refine⟨fun i mm σ H2=>mm=x.1.length-i/\i<=x.1.length/\∃env ah2 m2,Rel Γ env ah2 σ H2 m2/\Pre m1 m2/\Keep m1 m2 H1 H2/\n5 Γ Ex m2 H2 (N5 x.2 p (exs ct c sb) (x.1.drop i) env ah2) (SQ D),?_,?_⟩
 · exact⟨_,rfl,Nat.zero_le _,env,ah1,m1,rl.on p1 k1 s1,Pre.refl _,Keep.refl _ _,q1⟩
 · rintro i mm σ H2 ⟨hmm,hil,env,ah2,m2,rl2,p2,k2,q2⟩
   by_cases hend:i=x.1.length
   · refine .inl ?_
     rw[hend,List.drop_length] at q2;unfold N5 at q2
     split at q2
     · rename_i hgk;exact⟨(hJ i ah2 m2 H2 p2 k2 rl2.sim hgk).1 hend,q2.ok rl2.sim σ rl2.env⟩
     · exact q2.elim
   · refine .inr ?_
     have hlt:i<x.1.length:=Nat.lt_of_le_of_ne hil hend
     have hdi:x.1[i]? =some x.1[i]:=List.getElem?_eq_getElem hlt
     rw[List.drop_eq_getElem_cons hlt] at q2;generalize x.1[i]=dd at q2 hdi;unfold N5 at q2
     split at q2
     · rename_i hgk;obtain⟨go,yl⟩:=(hJ i ah2 m2 H2 p2 k2 rl2.sim hgk).2 dd hdi;refine⟨go,fun σ' H'=>∃m',m'<mm/\(m'=x.1.length-(i+1)/\i+1<=x.1.length/\∃env ah2 m2,Rel Γ env ah2 σ' H' m2/\Pre m1 m2/\Keep m1 m2 H1 H'/\n5 Γ Ex m2 H' (N5 x.2 p (exs ct c sb) (x.1.drop (i+1)) env ah2) (SQ D)),fun σ' H' h=>h,fun v H3 hy=>?_⟩
       obtain⟨k3,s3,r3⟩:=yl v H3 hy
       split at q2
       · exact q2.elim
       · rename_i envb hb;refine⟨env,dd,m2,envb,rl2.env.mono (Pre.refl m2) k3,r3,hb,fun σ4 er4 l4 s4=>⟨envb,ah2,m2,⟨s3,er4⟩,?_⟩⟩
         refine(q2.later (Pre.refl m2) k3).bind.mp fun o ah5 m5 H5 p5 k5 s5 q5=>?_
         cases o with
         |nx env'=>exact fun σ' er'=>⟨_,by omega,rfl,hlt,env',ah5,m5,⟨s5,er'⟩,p2.trans p5,k2.trans (k3.trans k5),q5⟩
         |rt d=>exact q5.ok s5
     · exact q2.elim
theorem b8p{o k:Expr}(C:Cxt X Γ G ct c Ex N sc true)(ho:PE X o (TEv Γ Ex (ev ct c x)))(hk:PE X k (TEv Γ Ex (ev ct c y)))(hv:PE X e (TEv Γ Ex (ev ct c z)))(hw:T0 e=true)(hns:a1Q k=true):PS X (.Assign [.Subscript o k p'] e pos) (TSv Γ Ex (ex ct c (.six x y z))):=by
 have hg:PG X (.Subscript o k p') (b7D (TEv Γ Ex (ev ct c x)) (TEv Γ Ex (ev ct c y)) _):=b4n ho hk (b9e (Γ:=Γ) (E:=Ex) C.hu) (by intro v;cases k<;>first|rfl|cases hns)
 refine PS.imp (b4g hv hg (show swapsWith e (some (.Subscript o k p')) pos.line X.env=pure false from a1H hw) (by cases e<;>rfl) rfl) ?_
 rintro D σ H ⟨env,ah,m,rl,q⟩;rw[ex] at q;refine⟨env,ah,m,rl,n5.first rl q fun d1 ah1 m1 H1 v1 p1 k1 rl1 r1 q1=>?_⟩
 refine⟨env,ah1,m1,rl1,n5.first rl1 q1 fun d2 ah2 m2 H2 v2 p2 k2 rl2 r2 q2=>?_⟩
 refine⟨env,ah2,m2,rl2,n5.first rl2 q2 fun d3 ah3 m3 H3 v3 p3 k3 rl3 r3 q3=>?_⟩
 refine⟨d2,d3,d1,ah3,m3,rl3.sim,r2.mono p3 k3,r3,r1.mono (p2.trans p3) (k2.trans k3),q3.bind.mp fun _ ah4 m4 H4 p4 k4 s4 q4=>?_⟩
 exact q4.ok s4 σ (rl3.env.mono p4 k4)
theorem b8q{o:Expr}{f:Str}(C:Cxt X Γ G ct c Ex N sc true)(ho:PE X o (TEv Γ Ex (ev ct c x)))(hv:PE X e (TEv Γ Ex (ev ct c z)))(hw:T0 e=true)(hf:G.atts.contains f=true):PS X (.Assign [.Attribute o f p'] e pos) (TSv Γ Ex (ex ct c (.sfl x f z))):=by
 refine PS.imp (b4f ho hv (a1H hw)) ?_
 rintro D σ H ⟨env,ah,m,rl,q⟩;rw[ex] at q;refine⟨env,ah,m,rl,n5.first rl q fun d1 ah1 m1 H1 v1 p1 k1 rl1 r1 q1=>?_⟩
 refine⟨env,ah1,m1,rl1,n5.first rl1 q1 fun d2 ah2 m2 H2 v2 p2 k2 rl2 r2 q2=>?_⟩
 unfold a3O at q2
 split at q2
 · split at q2
   · rename_i k fs e2
     split at q2
     · rename_i hl;obtain⟨ad,rfl,hm⟩:=r2;obtain⟨dx,gs,g1,g2,g3⟩:=rl2.sim.at hm e2;obtain⟨a1,a2⟩:=C.att k g3
       have kp:Keep m2 m2 H2 (upd H2 ad (.ins (Γ.cA k) dx (U7 f v1 gs))):=Keep.put hm g1 fun z=>z
       refine⟨ad,Γ.cA k,dx,gs,rfl,g1,a1,a2 f hf,by rw[←Paired.length g2];exact hl,?_⟩
       have s3:=rl2.sim.write (c:=.obj k (a3e f d1 fs)) hm g1 (fun z=>z) ⟨dx,_,g9,(Fl.put (r1.mono p2 k2) g2).mono (Pre.refl m2) kp.im,g3⟩
       exact n5.ok (n5.later q2 (Pre.refl m2) kp) s3 σ (rl2.env.mono (Pre.refl m2) kp)
     · exact q2.elim
   · exact q2.elim
 · exact q2.elim
end
end EV
namespace EV
open PySem PySem.Spec L2
open PyProof.Rows hiding St
structure Cxs(X:Cx)(Γ:Gm)(G:GT)(ct:CT)(c:CF)(Ex:XK)(N:List Str)(sc1:Scope):Prop extends Cxt X Γ G ct c Ex N sc1 true where
 own:PassesOwn (model X.prog X.w) X.A X.env X.xe
section
variable{X:Cx}{Γ:Gm}{G:GT}{ct:CT}{c:CF}{Ex:XK}{N:List Str}{sc:Scope}
theorem b2v{k:Nat}{elt:Expr}{gens:List Comprehension}{scope:Scope}{pos:Pos}{y:E}(h:cE G N sc (k+1) (.ListComp elt gens scope pos)=some y):∃tg iter ifs,gens=[⟨tg,iter,ifs,0⟩]:=by
 cases gens with
 |nil=>exact absurd (show none=some y from h) (by simp)
 |cons g t=>
  replace h:(if t.isEmpty&&decide (g.is_async=0) then sLc G (cR G k) N sc elt g.target g.iter g.ifs scope else none)=some y:=h
  split at h
  · rename_i hg;rw[Bool.and_eq_true] at hg;obtain⟨tg,iter,ifs,a⟩:=g
    cases List.isEmpty_iff.mp hg.1
    have ha:a=0:=of_decide_eq_true hg.2
    subst ha;exact⟨_,_,_,rfl⟩
  · cases h
theorem b6F (C:Cxs X Γ G ct c Ex N sc) {r:List Stmt->Option Ss} (hr:∀l ss,r l=some ss->PSs X l (TSv Γ Ex (exs ct c ss))):∀st s,sS G N sc r st=some s->PS X st (TSv Γ Ex (ex ct c s)):=by
 intro st s h;obtain⟨i1,i2,i3,i4,i5⟩:=a0F 40 X Ex N sc true C.toCxt;unfold sS at h
 split at h
 · rename_i tgs e pe
   split at h
   · cases h
   · split at h
     · rename_i hu
       cases List.isEmpty_iff.mp hu
       unfold sAs at h
       split at h
       · rename_i x px
         split at h
         · rename_i i y h1 h2
           split at h
           · rename_i hw;cases h
             by_cases hn:T0 e=true
             · exact b8r C.toCxt h1 hn (i1 _ _ h2)
             · rw[Bool.or_eq_true] at hw
               have hl:b7n e=true:=hw.resolve_left hn
               cases e<;>first|(cases hl;done)|skip
               obtain⟨tg,iter,ifs,rfl⟩:=b2v h2;exact b5O C.toCxt h1 h2
           · cases h
         · cases h
       · split at h
         · rename_i h1 h2 h3
           split at h
           · rename_i hw;cases h;rw[Bool.and_eq_true] at hw;exact b8p C.toCxt (i1 _ _ h1) (i1 _ _ h2) (i1 _ _ h3) hw.1 hw.2
           · cases h
         · cases h
       · split at h
         · rename_i h1 h2
           split at h
           · rename_i hw;cases h;rw[Bool.and_eq_true] at hw;exact b8q C.toCxt (i1 _ _ h1) (i1 _ _ h2) hw.1 hw.2
           · cases h
         · cases h
       · cases h
     · cases h
 · split at h
   · rename_i hw;obtain⟨y,h1,rfl⟩:=map_some h;exact b9I hw (i1 _ _ h1)
   · cases h
 · split at h
   · obtain⟨y,h1,rfl⟩:=map_some h;exact b8s (i1 _ _ h1)
   · cases h
 · split at h
   · rename_i h1 h2 h3;cases h;exact b9H (i3 _ _ h1).1 (hr _ _ h2) (hr _ _ h3)
   · cases h
 · split at h
   · rename_i hel
     cases List.isEmpty_iff.mp hel
     split at h
     · rename_i h1 h2 h3
       split at h
       · rename_i hs;cases h;exact b8u C.toCxt C.own (i5 _ _ _ h2) ((b3D C.toCxt 8).1 _ _ h1).1 (hr _ _ h3) hs
       · cases h
     · cases h
   · cases h
 · cases h;exact b8v
 · cases h
theorem a8N(C:Cxs X Γ G ct c Ex N sc){r:List Stmt->Option Ss}(hr:∀l ss,r l=some ss->PSs X l (TSv Γ Ex (exs ct c ss))):∀l ss,sSs G N sc r l=some ss->PSs X l (TSv Γ Ex (exs ct c ss))
 |[],ss,h=>by unfold sSs at h;cases h;exact b8t
 |st::l,ss,h=>by
  unfold sSs at h
  split at h
  · rename_i h1 h2;cases h;exact b5Q (b6F C hr _ _ h1) (a8N C hr l _ h2)
  · cases h
theorem b0L(C:Cxs X Γ G ct c Ex N sc):∀n l ss,cSs G N sc n l=some ss->PSs X l (TSv Γ Ex (exs ct c ss))
 |0,l,ss,h=>absurd (show none=some ss from h) (by simp)
 |n+1,l,ss,h=>a8N C (b0L C n) l ss h
end
end EV
namespace EV
open PySem PySem.Spec L2
open PyProof.Rows hiding St
structure RowOk(K:PySem.W.Frag)(G:GT)(F:Nat->Option Fn)(x qual:Str)(id np0:Nat)(f:Addr)(fd:FuncData)(st:Stmt)(N ps:List Str):Prop where
 fn:Fun K x qual st f fd
 sc:FnScope N ps (b5 st)
 bd:R7 K fd ps []
 np:ps.length=np0
 F:∃fn,F id=some fn/\fn.np=np0/\fn.ns=N.length/\cSs G N (b5 st) 20 (c9 st)=some fn.body
structure Stat(P:Program)(w:World)(Γ:Gm)(G:GT)(ct:CT)(F:Nat->Option Fn)(mg:Str->Option Value):Prop where
 scal:∀x d,G.scal.lookup x=some d->∃u v,mg x=some u/\n4 v u/\∀m H,Rp m H d v
 tups:∀x ds,G.tups.lookup x=some ds->∃a vs,mg x=some (.ref a)/\(∀H,SqT Γ.K H a vs)/\∀m H,Rps m H ds vs
 dicts:∀x kvs,G.dicts.lookup x=some kvs->∃a gs,mg x=some (.ref a)/\a8u P w Γ.K a gs/\∀m H,DK m H kvs gs
 blt:∀x,G.blt.contains x=true->mg x=none
 fn:∀x id np,G.fn.lookup x=some (id,np)->∃f fd st N ps,mg x=some (.ref f)/\RowOk Γ.K G F x x id np f fd st N ps
 obj:∀x k,G.obj.lookup x=some k->k∈Γ.ob/\mg x=some (.ref (Γ.cA k))/\∃f fd st N ps qual,Mk Γ.K (Γ.cA k) f/\RowOk Γ.K G F "__init__" qual (ct.init k) 1 f fd st N ps
 att:∀k,k∈Γ.ob->Cls Γ.K (Γ.cA k)/\∀f,G.atts.contains f=true->Z0 Γ.K (Γ.cA k) f
section
variable{P:Program}{w:World}{Γ:Gm}{G:GT}{ct:CT}{F:Nat->Option Fn}{mg:Str->Option Value}
theorem a8l{m:List Addr}{H:Hp}{ds:List D}{vs:List V}{N:List Str}{ns np:Nat}(rs:Rps m H ds vs)(hn:ns=N.length)(hd:ds.length=np):EnvRel m H (ds.map some++List.replicate (ns-np) none) (L2.a0J N vs):=by
 unfold L2.a0J;refine⟨by simp[rs.len,hn,hd],fun i d e=>?_⟩
 by_cases hi:i<ds.length
 · rw[List.getElem?_append_left (by simpa using hi),List.getElem?_map] at e
   rw[List.getElem?_append_left (by simpa [rs.len] using hi),List.getElem?_map]
   cases hd':ds[i]? with
   |none=>rw[hd'] at e;cases e
   |some d'=>
    rw[hd'] at e;cases e;obtain⟨v,h1,h2⟩:=rs.get hd';exact⟨v,by rw[h1];rfl,h2⟩
 · rw[List.getElem?_append_right (by simpa using hi),List.getElem?_replicate] at e
   split at e<;>cases e
def b6Y:R Out->R D
 |.ok (.nx _) h=>.ok .non h
 |.ok (.rt d) h=>.ok d h
 |.no=>.no
theorem a2E(n:Nat)(f:Nat)(ds:List D)(h:AH):b6 ct F (n+1) f ds h=match F f with
 |none=>.no
 |some fd=>if ds.length=fd.np then gcR fd.gc h (b6Y (exs ct (b6 ct F n) fd.body (ds.map some++List.replicate (fd.ns-fd.np) none) h)) else .no:=by
 show(match F f with
  |none=>R.no
  |some fd=>if ds.length=fd.np then gcR fd.gc h (match exs ct (b6 ct F n) fd.body (ds.map some++List.replicate (fd.ns-fd.np) none) h with
   |.ok (.nx _) h'=>.ok .non h'
   |.ok (.rt d) h'=>.ok d h'
   |.no=>.no) else .no)=_
 cases F f with
 |none=>rfl
 |some fd=>
  simp only
  generalize exs ct (b6 ct F n) fd.body (ds.map some++List.replicate (fd.ns-fd.np) none) h=r
  cases r with
  |ok o h=>cases o<;>rfl
  |no=>rfl
theorem a6N{m':List Addr}{n:Nat}{H:Hp}:(∀d v v' m0 H0,m0.length=n->Rp m0 H0 d v'->Rp m' H d v->Rp (m'.take n) H d v)/\∀l vs vs' m0 H0,m0.length=n->Rps m0 H0 l vs'->Rps m' H l vs->Rps (m'.take n) H l vs:=by
 refine D.ind (P:=fun d=>∀v v' m0 H0,m0.length=n->Rp m0 H0 d v'->Rp m' H d v->Rp (m'.take n) H d v) (Q:=fun l=>∀vs vs' m0 H0,m0.length=n->Rps m0 H0 l vs'->Rps m' H l vs->Rps (m'.take n) H l vs) ?_ ?_ ?_ ?_ ?_ ?_ ?_ ?_
 · intro v v' m0 H0 _ _ h;exact h
 · intro b v v' m0 H0 _ _ h;exact h
 · intro b v v' m0 H0 _ _ h;exact h
 · intro b v v' m0 H0 _ _ h;exact h
 · rintro l ih v v' m0 H0 hn ⟨a',vs',_,_,q'⟩ ⟨a,vs,rfl,e,q⟩;exact⟨a,vs,rfl,e,ih vs vs' m0 H0 hn q' q⟩
 · rintro k v v' m0 H0 hn ⟨a',_,e'⟩ ⟨a,rfl,e⟩;refine⟨a,rfl,?_⟩
   have:=(List.getElem?_eq_some_iff.mp e').1
   rw[List.getElem?_take_of_lt (by omega)];exact e
 · intro vs vs' m0 H0 _ _ h;exact h
 · rintro d r ih ihs vs vs' m0 H0 hn ⟨v',t',_,q1',q2'⟩ ⟨v,t,rfl,q1,q2⟩;exact⟨v,t,rfl,ih v v' m0 H0 hn q1' q1,ihs t t' m0 H0 hn q2' q2⟩
theorem a1s{α β β':Type}{R R':α->β->Prop}{R0:α->β'->Prop}(f:∀a b b',R0 a b'->R a b->R' a b):∀{l:List α} {l':List β'} {l2:List β},Paired R0 l l'->Paired R l l2->Paired R' l l2
 |_,_,_,.nil,.nil=>.nil
 |_,_,_,.cons h t,.cons h' t'=>.cons (f _ _ _ h h') (a1s f t t')
theorem a8q{m m':List Addr}{n:Nat}{H0 H:Hp}{a a0:Addr}{c:Cell}(hn:m.length=n)(h0:E7 Γ m H0 a0 c)(h:E7 Γ m' H a c):E7 Γ (m'.take n) H a c:=by
 have rp:=fun d v v' (h1:Rp m H0 d v') (h2:Rp m' H d v)=>(a6N (m':=m') (n:=n) (H:=H)).1 d v v' m H0 hn h1 h2
 have rps:=fun d v v' (h1:Rps m H0 d v') (h2:Rps m' H d v)=>(a6N (m':=m') (n:=n) (H:=H)).2 d v v' m H0 hn h1 h2
 have pr:∀{κ κ' κ'':Type} {l:List (κ×D)} {l':List (κ'×V)} {l2:List (κ''×V)} {A:κ->κ'->Prop} {B:κ->κ''->Prop},Paired (fun p q=>A p.1 q.1/\Rp m H0 p.2 q.2) l l'->Paired (fun p q=>B p.1 q.1/\Rp m' H p.2 q.2) l l2->Paired (fun p q=>B p.1 q.1/\Rp (m'.take n) H p.2 q.2) l l2:=
  fun h0 h=>a1s (fun a b b' x y=>⟨y.1,rp _ _ _ x.2 y.2⟩) h0 h
 cases c with
 |lst l=>obtain⟨vs',_,r'⟩:=h0;obtain⟨vs,e,r⟩:=h;exact⟨vs,e,rps _ _ _ r' r⟩
 |rol l=>obtain⟨vs',_,r',_⟩:=h0;obtain⟨vs,e,r,z⟩:=h;exact⟨vs,e,rps _ _ _ r' r,z⟩
 |dict l=>
  rcases h with⟨kvs,e,r⟩|⟨kvs,e,r⟩
  · rcases h0 with⟨kvs',_,r'⟩|⟨kvs',_,r'⟩
    · exact .inl ⟨kvs,e,pr (A:=fun p q=>K0 p=some q) (B:=fun p q=>K0 p=some q) r' r⟩
    · exact .inl ⟨kvs,e,pr (A:=fun(p:D) q=>∃l,p=D.tup l/\F0 l=some q) (B:=fun p q=>K0 p=some q) r' r⟩
  · rcases h0 with⟨kvs',_,r'⟩|⟨kvs',_,r'⟩
    · exact .inr ⟨kvs,e,pr (A:=fun p q=>K0 p=some q) (B:=fun(p:D) q=>∃l,p=D.tup l/\F0 l=some q) r' r⟩
    · exact .inr ⟨kvs,e,pr (A:=fun(p:D) q=>∃l,p=D.tup l/\F0 l=some q) (B:=fun(p:D) q=>∃l,p=D.tup l/\F0 l=some q) r' r⟩
 |obj k fs=>obtain⟨dx',gs',_,r',_⟩:=h0;obtain⟨dx,gs,e,r,z⟩:=h;exact⟨dx,gs,e,pr (A:=fun p q=>p=q) (B:=fun p q=>p=q) r' r,z⟩
theorem Sim.drop{ah ah':AH}{m m':List Addr}{H H':Hp}(s:Sim Γ ah m H)(s':Sim Γ ah' m' H')(p:Pre m m')(k:Keep m m' H H')(h:ah'.take ah.length=ah):Sim Γ ah m H':=by
 have hm:m'.take ah.length=m:=by
  obtain⟨t,rfl⟩:=p;rw[←s.len,List.take_left]
 refine⟨s.len,s.nd,fun n a c hn hc=>?_⟩
 have hl:=(List.getElem?_eq_some_iff.mp hc).1
 have hc':ah'[n]? =some c:=by
  rw[←h,List.getElem?_take_of_lt hl] at hc
  exact hc
 have:=a8q (n:=ah.length) s.len (s.at hn hc) (s'.at (p.get hn) hc')
 rwa [hm] at this
theorem a8k{m m':List Addr}{H:Hp}{a:Addr}{c:Cell}(f:c.flat=true)(h:E7 Γ m H a c):E7 Γ m' H a c:=by
 cases c with
 |lst l=>obtain⟨vs,e,r⟩:=h;exact⟨vs,e,(a3S (m':=m')).2 _ _ f r⟩
 | dict l=>
  have go:∀{κ:Type} {A:D->κ->Prop} {l:List (D×D)} {l2:List (κ×V)},(l.all fun p=>p.1.flat&&p.2.flat)=true->Paired (fun p q=>A p.1 q.1/\Rp m H p.2 q.2) l l2->Paired (fun p q=>A p.1 q.1/\Rp m' H p.2 q.2) l l2:=by
   intro κ A l l2 hf hp
   induction hp with
   |nil=>exact .nil
   |cons h t ih=>
    rw[List.all_cons,Bool.and_eq_true,Bool.and_eq_true] at hf;exact .cons ⟨h.1,(a3S (m':=m')).1 _ _ hf.1.2 h.2⟩ (ih hf.2)
  rcases h with⟨kvs,e,r⟩|⟨kvs,e,r⟩
  · exact .inl ⟨kvs,e,go (A:=fun p q=>K0 p=some q) f r⟩
  · exact .inr ⟨kvs,e,go (A:=fun(p:D) q=>∃l,p=D.tup l/\F0 l=some q) f r⟩
 |_=>cases f
theorem b7B {E :XK} {m:List Addr} {H:Hp} {ah:AH} {g:Nat} {r:R Out} {Q:VK} (s:Sim Γ ah m H) (h:i6 Γ E m H (gcR g ah (b6Y r)) Q):n5 Γ E m H r (SQ {nx:=fun _ H'=>Q .non H',rt:=Q}):=by
 have main : ∀{d:D} {ah':AH},i6 Γ E m H (gcR g ah (.ok d ah')) Q->∀m' H' v,Pre m m'->Keep m m' H H'->Sim Γ ah' m' H'->Rp m' H' d v->Q v H':=by
  intro d ah' h m' H' v p k s' rv;unfold gcR at h
  simp only at h
  split at h
  · exact h m' H' v p k s' rv
  · split at h
    · split at h
      · rename_i hh;exact h m H' v (Pre.refl m) ⟨k.im,k.out,fun _ z=>.inl z⟩ (s.drop s' p k hh.1) ((a3S (m':=m)).1 d v hh.2 rv)
      · exact h.elim
    · split at h
      · rename_i kk
        split at h
        · rename_i c hc
          split at h
          · rename_i hh;obtain⟨a,rfl,ha⟩:=rv;have s0:=s.drop s' p k hh.1
            have hna:a∉m:=fun z=>by
             obtain⟨i,hi⟩:=List.getElem?_of_mem z
             have e1:=p.get hi;have hlt:=(List.getElem?_eq_some_iff.mp hi).1
             obtain⟨h1,e1⟩:=List.getElem?_eq_some_iff.mp e1
             obtain⟨h2,e2⟩:=List.getElem?_eq_some_iff.mp ha
             have:=(List.getElem_inj s'.nd).mp (e1.trans e2.symm)
             have hl:=s.len;omega
            have Hn:H a=none:=by
             rcases k.fr a (List.mem_of_getElem? ha) with z|z
             · exact absurd z hna
             · exact z
            refine h (m++[a]) H' (.ref a) (Pre.snoc m a) ⟨k.im,k.out,fun b hb=>?_⟩ ?_ ⟨a,rfl,?_⟩
            · rcases List.mem_append.mp hb with z|z
              · exact .inl z
              · simp at z;subst z;exact .inr Hn
            · refine⟨by simp[s.len],a0w s.nd hna,fun n b cc hn hcc=>?_⟩
              by_cases hl:n<m.length
              · rw[List.getElem?_append_left hl] at hn
                rw[List.getElem?_append_left (by rw[←s.len];exact hl)] at hcc
                exact(s0.at hn hcc).mono' (Pre.snoc m a) (fun _ _ _ z=>z) rfl
              · have hn':n=m.length:=by
                 have:=(List.getElem?_eq_some_iff.mp hn).1
                 simp at this;omega
                subst hn';rw[List.getElem?_append_right (Nat.le_refl _)] at hn
                rw[s.len,List.getElem?_append_right (Nat.le_refl _)] at hcc
                simp at hn hcc;subst hn;subst hcc
                exact a8k hh.2.2 (s'.at ha hc)
            · rw[←s.len,List.getElem?_append_right (Nat.le_refl _)];simp
          · exact h.elim
        · exact h.elim
      · exact h.elim
 cases r with
 |ok o ah'=>
  cases o with
  |nx env=>exact fun m' H' p k s' σ' _=>main h m' H' .non p k s' rfl
  |rt d=>exact fun m' H' p k s' v rv=>main h m' H' v p k s' rv
 |no=>exact h.elim
theorem a4r(S:Stat P w Γ G ct F mg){n:Nat}(ih1:∀x id np,G.fn.lookup x=some (id,np)->∃f fd ps,ps.length=np/\mg x=some (.ref f)/\PySem.W.keepIn Γ.K (.ref f)=true/\R7 Γ.K fd ps []/\∀base,FnOk P w Γ.K mg base CX0 (2*n+6) f fd ps (a3M Γ (b6 ct F n) id np))
 (ih2:∀x k,G.obj.lookup x=some k->k∈Γ.ob/\mg x=some (.ref (Γ.cA k))/\∃f fd ps,ps.length=1/\Mk Γ.K (Γ.cA k) f/\R7 Γ.K fd ps []/\∀base,FnOk P w Γ.K mg base CX0 (2*n+6) f fd ps (a3M Γ (b6 ct F n) (ct.init k) 1))
 (ar:∀x id np,G.fn.lookup x=some (id,np)->∀ds h,ds.length≠np->b6 ct F n id ds h=.no)
 {x qual:Str} {id np:Nat} {f:Addr} {fd:FuncData} {st:Stmt} {N ps:List Str} (R:RowOk Γ.K G F x qual id np f fd st N ps) (base:Heap):FnOk P w Γ.K mg base CX0 (2*(n+1)+6) f fd ps (a3M Γ (b6 ct F (n+1)) id np):=by
 obtain⟨fn,F1,F2,F3,F4⟩:=R.F;obtain⟨oc,od,kV,doc,pm,an,cdv,ct',osl,rfl,lk,hcd⟩:=R.fn.ex;refine b7F (k:=2*n+7) lk hcd R.sc (fun vs H Q E h=>?_) fun A outer s H vs Q E hr hsp=>?_
 · obtain⟨ds,ah,m,h1,h2,_⟩:=h;rw[h2.len,h1,R.np]
 · obtain⟨ds,ah,m,h1,h2,h3,h4⟩:=hsp
   have C:Cxt (a6A CX0 P w Γ.K mg base N qual (b5 st) f cdv A outer s H E) Γ G ct (b6 ct F n) E N (b5 st) true:=by
    refine⟨rfl,R.sc.nd,rfl,rfl,?_,rfl,fun _ _=>rfl,S.scal,S.tups,S.dicts,S.blt,fun y i j hy=>?_,fun y k hy=>?_,S.att⟩
    · exact Nat.lt_of_le_of_lt (Nat.add_le_add_left (by decide:8<=64) _) hr.units
    · obtain⟨f',fd',ps',a1,a2,a3,a4,a5⟩:=ih1 y i j hy;exact⟨2*n+6,f',fd',ps',a1,hr.mono (by omega),a2,a3,a4,a5 base,ar y i j hy⟩
    · obtain⟨b1,b2,f',fd',ps',a1,a2,a3,a4⟩:=ih2 y k hy;exact⟨b1,2*n+6,f',fd',ps',a1,hr.mono (by omega),a2,b2,a3,a4 base⟩
   have Cs:Cxs (a6A CX0 P w Γ.K mg base N qual (b5 st) f cdv A outer s H E) Γ G ct (b6 ct F n) E N (b5 st):=by
    exact⟨C,PassesOwn.leaving⟩
   refine⟨_,b0L Cs 20 _ _ F4,ds.map some++List.replicate (fn.ns-fn.np) none,ah,m,⟨h3,a8l h2 F3 (by rw[h1,F2])⟩,?_⟩
   rw[a2E,F1] at h4
   simp only at h4
   rw[if_pos (by rw[h1,F2])] at h4
   exact b7B h3 h4
theorem b0O(S:Stat P w Γ G ct F mg):∀n x id np,G.fn.lookup x=some (id,np)->∀ds h,ds.length≠np->b6 ct F n id ds h=.no
 |0,_,_,_,_,_,_,_=>rfl
 |n+1,x,id,np,hx,ds,h,hl=>by
  obtain⟨_,_,_,_,_,_,R⟩:=S.fn x id np hx;obtain⟨fn,F1,F2,_⟩:=R.F;rw[a2E,F1]
  simp only
  rw[if_neg (by rw[F2];exact hl)]
theorem b5k(S:Stat P w Γ G ct F mg):∀n,(∀x id np,G.fn.lookup x=some (id,np)->∃f fd ps,ps.length=np/\mg x=some (.ref f)/\PySem.W.keepIn Γ.K (.ref f)=true/\R7 Γ.K fd ps []/\∀base,FnOk P w Γ.K mg base CX0 (2*n+6) f fd ps (a3M Γ (b6 ct F n) id np))∧
 (∀x k,G.obj.lookup x=some k->k∈Γ.ob/\mg x=some (.ref (Γ.cA k))/\∃f fd ps,ps.length=1/\Mk Γ.K (Γ.cA k) f/\R7 Γ.K fd ps []/\∀base,FnOk P w Γ.K mg base CX0 (2*n+6) f fd ps (a3M Γ (b6 ct F n) (ct.init k) 1)):=by
 have zero:∀{k:Nat} {f:Addr} {fd:FuncData} {ps:List Str} {id np:Nat} {base:Heap},FnOk P w Γ.K mg base CX0 k f fd ps (a3M Γ (b6 ct F 0) id np):=fun{k f fd ps id np base}=>
  ⟨fun vs H Q E h=>by obtain⟨_,_,_,_,_,_,z⟩:=h;exact z.elim,fun A outer s H args us vs Q E _ _ _ _ h=>by obtain⟨_,_,_,_,_,_,z⟩:=h;exact z.elim⟩
 intro n
 induction n with
 |zero=>
  refine⟨fun x id np hx=>?_,fun x k hk=>?_⟩
  · obtain⟨f,fd,st,N,ps,g,R⟩:=S.fn x id np hx;exact⟨f,fd,ps,R.np,g,R.fn.kp,R.bd,fun base=>zero⟩
  · obtain⟨o1,o2,f,fd,st,N,ps,qual,M,R⟩:=S.obj x k hk;exact⟨o1,o2,f,fd,ps,R.np,M,R.bd,fun base=>zero⟩
 |succ n ih=>
  refine⟨fun x id np hx=>?_,fun x k hk=>?_⟩
  · obtain⟨f,fd,st,N,ps,g,R⟩:=S.fn x id np hx;exact⟨f,fd,ps,R.np,g,R.fn.kp,R.bd,fun base=>a4r S ih.1 ih.2 (b0O S n) R base⟩
  · obtain⟨o1,o2,f,fd,st,N,ps,qual,M,R⟩:=S.obj x k hk;exact⟨o1,o2,f,fd,ps,R.np,M,R.bd,fun base=>a4r S ih.1 ih.2 (b0O S n) R base⟩
end
end EV
namespace L2T
open PySem
abbrev cd(z:Str):List Nat:=z.cps.toList
theorem Y7{x y:Str}(h:cd x=cd y):x=y:=by
 cases x;cases y
 exact congrArg Str.mk (Array.toList_inj.mp h)
theorem G5(x y:Str):cd (x++y)=cd x++cd y:=by
 show(x.cps++y.cps).toList=_
 simp
theorem o8(x:Str):(cd x).length=x.length:=by simp[cd,Str.length]
def jn(c:Nat):List (List Nat)->List Nat
 |[]=>[]
 |[x]=>x
 |x::y::r=>x++c::jn c (y::r)
theorem a1S(c:Nat):∀ps:List Str,cd (Str.join ⟨#[c]⟩ ps)=jn c (ps.map cd)
 |[]=>rfl
 |[x]=>rfl
 |x::y::r=>by
  show cd (x++⟨#[c]⟩++Str.join ⟨#[c]⟩ (y::r))=cd x++c::jn c ((y::r).map cd)
  rw[G5,G5,a1S c (y::r)];simp[cd]
theorem a3x{c:Nat}:∀{p q a b:List Nat},c∉p->c∉q->p++c::a=q++c::b->p=q/\a=b
 |[],[],a,b,_,_,h=>⟨rfl,by simpa using h⟩
 |[],y::q,a,b,_,hq,h=>by
  have e:c=y:=(List.cons.inj h).1
  exact absurd (by rw[e];exact List.mem_cons_self) hq
 |x::p,[],a,b,hp,_,h=>by
  have e:x=c:=(List.cons.inj h).1
  exact absurd (by rw[←e];exact List.mem_cons_self) hp
 |x::p,y::q,a,b,hp,hq,h=>by
  obtain⟨e1,e2⟩:=List.cons.inj h;obtain⟨e3,e4⟩:=a3x (fun z=>hp (List.mem_cons_of_mem _ z)) (fun z=>hq (List.mem_cons_of_mem _ z)) e2
  exact⟨by rw[e1,e3],e4⟩
theorem a9M{c:Nat}:∀{ps qs:List (List Nat)},ps≠[]->qs≠[]->(∀p∈ps,c∉p)->(∀q∈qs,c∉q)->jn c ps=jn c qs->ps=qs
 |[],_,h,_,_,_,_=>absurd rfl h
 |_::_,[],_,h,_,_,_=>absurd rfl h
 |[x],[y],_,_,_,_,h=>by rw[show x=y from h]
 |[x],y::z::r,_,_,hp,_,h=>by
  have h':x=y++c::jn c (z::r):=h
  exact absurd (by rw[h'];simp) (hp x List.mem_cons_self)
 |x::y::r,[z],_,_,_,hq,h=>by
  have h':x++c::jn c (y::r)=z:=h
  exact absurd (by rw[←h'];simp) (hq z List.mem_cons_self)
 |x::y::r,z::u::t,_,_,hp,hq,h=>by
  obtain⟨e1,e2⟩:=a3x (hp x List.mem_cons_self) (hq z List.mem_cons_self) h;have e3:=a9M (List.cons_ne_nil _ _) (List.cons_ne_nil _ _) (fun p hp'=>hp p (List.mem_cons_of_mem _ hp')) (fun q hq'=>hq q (List.mem_cons_of_mem _ hq')) e2
  rw[e1,e3]
theorem a7b:∀{ps qs:List Str},ps.map cd=qs.map cd->ps=qs
 |[],[],_=>rfl
 |[],_::_,h=>by cases h
 |_::_,[],h=>by cases h
 |x::r,y::t,h=>by
  obtain⟨e1,e2⟩:=List.cons.inj h;rw[Y7 e1,a7b e2]
theorem a2a{c:Nat}{x:Str}{ps:List Str}(hn:ps≠[])(hf:∀p∈ps,c∉cd p)(h:cd x=jn c (ps.map cd)):Txt.split x ⟨#[c]⟩=ps:=by
 have h1:=StrLaws.join_split x ⟨#[c]⟩
 have h2:jn c ((Txt.split x ⟨#[c]⟩).map cd)=jn c (ps.map cd):=by rw[←a1S,h1,h]
 have h3:Txt.split x ⟨#[c]⟩≠[]:=fun e=>by
  have:=PyProof.Rows.split_pos x ⟨#[c]⟩
  rw[e] at this;exact absurd this (by decide)
 refine a7b (a9M (fun e=>h3 (List.map_eq_nil_iff.mp e)) (fun e=>hn (List.map_eq_nil_iff.mp e)) (fun p hp=>?_) (fun p hp=>?_) h2)
 · obtain⟨q,hq,rfl⟩:=List.mem_map.mp hp;exact StrLaws.split_free x c q hq
 · obtain⟨q,hq,rfl⟩:=List.mem_map.mp hp;exact hf q hq
def b7H:Str:="0123456789"
def a0K:Str:="abcdefghijklmnopqrstuvwxyz0123456789"
def M9(c:Nat):Bool:=decide (c∈cd a0K)
def Q6(c:Nat):Bool:=decide (c∈cd b7H)
theorem a4t(c:Nat):Q6 c=true↔48<=c/\c<=57:=by
 unfold Q6;rw[decide_eq_true_iff,show cd b7H=[48,49,50,51,52,53,54,55,56,57] from by decide+kernel]
 simp only[List.mem_cons,List.not_mem_nil,or_false];omega
def d0(z:Str):Bool:=decide (1<=z.length)&&decide (z.length<=12)&&(cd z).all M9
def a1t(z:Str):Bool:=decide (1<=z.length)&&decide (z.length<=5)&&(cd z).all Q6&&(decide (z="0")||!decide ((cd z).head? =some 48))
def U0(z:Str):Option Int:=if(cd z).all Q6=true then(if z=""∨5<z.length∨((cd z).head? =some 48/\1<z.length) then none else some ((NumText.digitsVal (cd z):Nat):Int)) else none
def tl(z:Str):Str:=⟨((cd z).drop 1).toArray⟩
theorem a3z(z:Str):cd (tl z)=(cd z).drop 1:=by simp[tl,cd]
def a3a(z:Str):Bool:=if(cd z).head? =some 45 then(!decide (z="-0")&&a1t (tl z)) else a1t z
def a0i(z:Str):Option Int:=if(cd z).head? =some 45 then(match U0 (tl z) with|none=>none|some n=>if n=0 then none else some (-n)) else U0 z
theorem a8b(z:Str):z=""↔z.length=0:=by
 constructor
 · rintro rfl;rfl
 · intro h;refine Y7 ?_
   have:(cd z).length=0:=by rw[o8];exact h
   rw[List.length_eq_zero_iff.mp this];rfl
theorem a2K{z:Str}(h:(cd z).all Q6=true):NumText.AllDigits (cd z):=fun c hc=>(a4t c).mp (List.all_eq_true.mp h c hc)
theorem a3u:∀(cs:List Nat) (a:Nat),a<=cs.foldl (fun acc c=>acc*10+(c-48)) a
 |[],a=>Nat.le_refl _
 |c::r,a=>Nat.le_trans (by omega) (a3u r (a*10+(c-48)))
theorem a6z{c:Nat}{r:List Nat}(h:48<c):0<NumText.digitsVal (c::r):=by
 unfold NumText.digitsVal;rw[List.foldl_cons];exact Nat.lt_of_lt_of_le (by omega) (a3u r (0*10+(c-48)))
theorem a2l {z:Str}:a1t z=(U0 z).isSome:=by
 unfold a1t U0
 by_cases h:(cd z).all Q6=true
 · rw [if_pos h,h]
   by_cases q:z=""∨5<z.length∨((cd z).head? =some 48/\1<z.length)
   · rw[if_pos q]
     show _=false
     rcases q with q|q|⟨q1,q2⟩
     · rw[a8b] at q;simp[q]
     · simp[show¬z.length<=5 by omega]
     · have ne:¬z="0":=by rintro rfl;exact absurd q2 (by decide)
       simp[q1,ne]
   · rw [if_neg q]
     show _=true
     have q1:¬z.length=0:=fun e=>q (.inl ((a8b z).mpr e))
     have q2:z.length<=5:=Nat.le_of_not_lt fun e=>q (.inr (.inl e))
     have q3:z="0"∨¬(cd z).head? =some 48:=by
      by_cases e:(cd z).head? =some 48
      · left
        have l:z.length=1:=by
         have k:¬1<z.length:=fun e'=>q (.inr (.inr ⟨e,e'⟩))
         omega
        refine Y7 ?_
        have l':(cd z).length=1:=by rw[o8];exact l
        obtain⟨x,hx⟩:=List.length_eq_one_iff.mp l';rw[hx] at e⊢
        have e':x=48:=by simpa using e
        rw[e']
        decide+kernel
      · exact .inr e
     have a1:1<=z.length:=by omega
     rcases q3 with q3|q3
     · rw[q3];decide+kernel
     · simp[a1,q2,q3]
 · rw[if_neg h]
   show _=false
   simp[show(cd z).all Q6=false from by simpa using h]
theorem a1P {z:Str} {n:Int} (h:U0 z=some n):intText? z=some n/\z.length<=640/\0<=n/\(n=0↔z="0"):=by
 unfold U0 at h
 by_cases q:(cd z).all Q6=true
 · rw[if_pos q] at h
   by_cases p:z=""∨5<z.length∨((cd z).head? =some 48/\1<z.length)
   · rw[if_pos p] at h;cases h
   · rw [if_neg p] at h;cases h
     have p1:¬z.length=0:=fun e=>p (.inl ((a8b z).mpr e))
     have p2:z.length<=5:=Nat.le_of_not_lt fun e=>p (.inr (.inl e))
     have ne:cd z≠[]:=fun e=>p1 (by rw[←o8,e];rfl)
     refine⟨PySem.intText_digits (a2K q) ne (by omega),by omega,Int.natCast_nonneg _,?_,?_⟩
     · intro e
       have e0:NumText.digitsVal (cd z)=0:=by omega
       cases hz:cd z with
       |nil=>exact absurd hz ne
       | cons c r=>
        have hc:c=48:=by
         have:=(a2K q) c (by rw[hz];exact List.mem_cons_self)
         rw[hz] at e0
         by_cases k:48<c
         · exact absurd (a6z (r:=r) k) (by omega)
         · omega
        have hl:¬1<z.length:=fun e'=>p (.inr (.inr ⟨by rw[hz,hc];rfl,e'⟩))
        have hr:r=[]:=by
         have:(cd z).length=r.length+1:=by rw[hz];rfl
         rw[o8] at this;exact List.length_eq_zero_iff.mp (by omega)
        refine Y7 ?_
        rw[hz,hc,hr]
        decide+kernel
     · rintro rfl
       decide+kernel
 · rw[if_neg q] at h;cases h
theorem a5b{z:Str}:a3a z=(a0i z).isSome:=by
 unfold a3a a0i
 by_cases h:(cd z).head? =some 45
 · rw [if_pos h,if_pos h,a2l]
   have hz:(z="-0")↔tl z="0":=by
    constructor
    · rintro rfl;decide+kernel
    · intro e;refine Y7 ?_
      have e1:(cd z).drop 1=cd "0":=by rw[←a3z,e]
      cases hc:cd z with
      |nil=>rw[hc] at h;cases h
      |cons c r=>
       rw[hc] at h e1
       have hc':c=45:=by simpa using h
       have hr:r=cd "0":=e1
       rw[hc',hr]
       decide+kernel
   cases q:U0 (tl z) with
   |none=>simp
   |some n=>
    obtain⟨_,_,_,k⟩:=a1P q
    by_cases e:n=0
    · simp[e,hz,k.mp e]
    · have k':¬tl z="0":=fun z'=>e (k.mpr z')
      simp[e,hz,k']
 · rw[if_neg h,if_neg h];exact a2l
theorem a1J{z:Str}{n:Int}(h:a0i z=some n):intText? z=some n/\z.length<=640:=by
 unfold a0i at h
 by_cases q:(cd z).head? =some 45
 · rw [if_pos q] at h
   cases e:U0 (tl z) with
   |none=>rw[e] at h;cases h
   |some m=>
    rw[e] at h
    dsimp only at h
    by_cases m0:m=0
    · rw[if_pos m0] at h;cases h
    · rw [if_neg m0] at h;cases h
      cases hc:cd z with
      |nil=>rw[hc] at q;cases q
      |cons c r=>
       have hc':c=45:=by rw[hc] at q;simpa using q
       have ht:cd (tl z)=r:=by rw[a3z,hc];rfl
       unfold U0 at e
       by_cases f:(cd (tl z)).all Q6=true
       · rw[if_pos f] at e
         by_cases p:tl z=""∨5<(tl z).length∨((cd (tl z)).head? =some 48/\1<(tl z).length)
         · rw[if_pos p] at e;cases e
         · rw[if_neg p] at e;cases e
           have l2:(tl z).length<=5:=Nat.le_of_not_lt fun k=>p (.inr (.inl k))
           have l3:z.length=(tl z).length+1:=by rw[←o8 z,←o8 (tl z),ht,hc];rfl
           have ne:r≠[]:=fun k=>p (.inl ((a8b _).mpr (by rw[←o8,ht,k];rfl)))
           refine⟨?_,by omega⟩
           rw[ht];exact PySem.intText_neg (by rw[←hc'];exact hc) (ht▸a2K f) ne (by omega)
       · rw[if_neg f] at e;cases e
 · rw[if_neg q] at h;exact⟨(a1P h).1,(a1P h).2.1⟩
end L2T
namespace EV
open PySem L2
def V3:Fn:=⟨1,1,2,(.cons (.ret (.comp (.nm 0) (.seq (.mt .split (.v 0) (.cons (.k (.str " ")) .nil))) 1 [] (.cmp .ne (.v 0) (.k (.str ""))) (.v 0))) .nil)⟩
def Z8:Fn:=⟨2,2,1,(.cons (.ret (.bi .all (.cons (.comp (.nm 0) (.seq (.v 0)) 1 [1] .yes (.bin .isin (.v 0) (.v 1))) .nil))) .nil)⟩
def Z9:Fn:=⟨1,1,1,(.cons (.ret (.an (.chn .le .le (.k (.int (1))) (.bi .len (.cons (.v 0) .nil)) (.k (.int (12)))) (.call 2 (.cons (.v 0) (.cons (.k (.str "abcdefghijklmnopqrstuvwxyz0123456789")) .nil))))) .nil)⟩
def R3:Fn:=⟨1,1,1,(.cons (.iff (.orr (.nt (.chn .le .le (.k (.int (1))) (.bi .len (.cons (.v 0) .nil)) (.k (.int (5))))) (.nt (.val (.call 2 (.cons (.v 0) (.cons (.k (.str "0123456789")) .nil)))))) (.cons (.ret (.k (.bl false))) .nil) .nil) (.cons (.ret (.orr (.bin .eq (.v 0) (.k (.str "0"))) (.bin .ne (.ix (.v 0) (.k (.int (0)))) (.k (.str "0"))))) .nil))⟩
def D7:Fn:=⟨1,1,1,(.cons (.iff (.val (.mt .starts (.v 0) (.cons (.k (.str "-")) .nil))) (.cons (.ret (.an (.bin .ne (.v 0) (.k (.str "-0"))) (.call 4 (.cons (.sl (.v 0) (.at (.k (.int (1)))) .no) .nil)))) .nil) .nil) (.cons (.ret (.call 4 (.cons (.v 0) .nil))) .nil))⟩
def J5:Fn:=⟨1,1,1,(.cons (.ret (.sl (.v 0) (.at (.bi .len (.cons (.k (.str "@")) .nil))) .no)) .nil)⟩
def J2:Fn:=⟨1,1,1,(.cons (.ret (.an (.mt .starts (.v 0) (.cons (.k (.str "@")) .nil)) (.call 3 (.cons (.call 6 (.cons (.v 0) .nil)) .nil)))) .nil)⟩
def a0a:Fn:=⟨1,1,1,(.cons (.ret (.orr (.call 3 (.cons (.v 0) .nil)) (.call 7 (.cons (.v 0) .nil)))) .nil)⟩
def Y1:Fn:=⟨1,1,1,(.cons (.ret (.bi .all (.cons (.comp (.nm 0) (.seq (.v 0)) 1 [] .yes (.call 3 (.cons (.v 0) .nil))) .nil))) .nil)⟩
def F7:Fn:=⟨1,1,1,(.cons (.ret (.bi .all (.cons (.comp (.nm 0) (.seq (.v 0)) 1 [] .yes (.call 5 (.cons (.v 0) .nil))) .nil))) .nil)⟩
def Y2:Fn:=⟨1,1,1,(.cons (.ret (.bi .all (.cons (.comp (.nm 0) (.seq (.v 0)) 1 [] .yes (.call 8 (.cons (.v 0) .nil))) .nil))) .nil)⟩
def M6:Fn:=⟨1,1,0,(.cons (.sfl (.v 0) "shapes" .dnew) (.cons (.sfl (.v 0) "marks" .dnew) (.cons (.sfl (.v 0) "points" .dnew) (.cons (.sfl (.v 0) "letters" .dnew) (.cons (.sfl (.v 0) "gaps" (.lst .nil)) (.cons (.sfl (.v 0) "classes" .dnew) (.cons (.sfl (.v 0) "features" .dnew) (.cons (.sfl (.v 0) "rules" (.lst .nil)) .nil))))))))⟩
def Q9:Fn:=⟨1,6,0,(.cons (.set 1 (.mk 6 .nil)) (.cons (.for (.tp (.cons (.nm 2) (.cons (.nm 3) .nil))) (.enum (.mt .split (.v 0) (.cons (.k (.str "\n")) .nil))) (.cons (.set 4 (.call 1 (.cons (.v 3) .nil))) (.cons (.iff (.cmp .gt (.bi .len (.cons (.v 4) .nil)) (.k (.int (0)))) (.cons (.set 5 (.call 13 (.cons (.v 1) (.cons (.v 4) .nil)))) (.cons (.iff (.notN (.v 5)) (.cons .bad .nil) .nil) .nil)) .nil) .nil))) (.cons (.ret (.v 1)) .nil)))⟩
def z4:Fn:=⟨2,3,0,(.cons (.set 2 (.ix (.v 1) (.k (.int (0))))) (.cons (.iff (.cmp .eq (.v 2) (.k (.str "shape"))) (.cons (.ret (.call 17 (.cons (.v 0) (.cons (.v 1) .nil)))) .nil) .nil) (.cons (.iff (.cmp .eq (.v 2) (.k (.str "mark"))) (.cons (.ret (.call 19 (.cons (.v 0) (.cons (.v 1) .nil)))) .nil) .nil) (.cons (.iff (.cmp .eq (.v 2) (.k (.str "point"))) (.cons (.ret (.call 20 (.cons (.v 0) (.cons (.v 1) .nil)))) .nil) .nil) (.cons (.iff (.cmp .eq (.v 2) (.k (.str "letter"))) (.cons (.ret (.call 22 (.cons (.v 0) (.cons (.v 1) .nil)))) .nil) .nil) (.cons (.iff (.cmp .eq (.v 2) (.k (.str "gap"))) (.cons (.ret (.call 23 (.cons (.v 0) (.cons (.v 1) .nil)))) .nil) .nil) (.cons (.iff (.cmp .eq (.v 2) (.k (.str "class"))) (.cons (.ret (.call 24 (.cons (.v 0) (.cons (.v 1) .nil)))) .nil) .nil) (.cons (.iff (.cmp .eq (.v 2) (.k (.str "feature"))) (.cons (.ret (.call 25 (.cons (.v 0) (.cons (.v 1) .nil)))) .nil) .nil) (.cons (.iff (.cmp .eq (.v 2) (.k (.str "rule"))) (.cons (.ret (.call 26 (.cons (.v 0) (.cons (.v 1) .nil)))) .nil) .nil) (.cons (.ret (.k (.str "row"))) .nil))))))))))⟩
def R5:Fn:=⟨3,3,1,(.cons (.iff (.val (.v 0)) (.cons (.ret (.k (.str "twice"))) .nil) .nil) (.cons (.iff (.nt (.val (.v 1))) (.cons (.ret (.k (.str "name"))) .nil) .nil) (.cons (.iff (.val (.v 2)) (.cons (.ret (.k (.str "many"))) .nil) .nil) (.cons (.ret (.k .non)) .nil))))⟩
def O1:Fn:=⟨2,2,1,(.cons (.ret (.bi .all (.cons (.comp (.nm 0) (.seq (.v 1)) 1 [0] .yes (.bin .isin (.v 0) (.fld (.v 1) "shapes"))) .nil))) .nil)⟩
def Z7:Fn:=⟨1,1,1,(.cons (.ret (.tup (.cons (.bi .int (.cons (.ix (.v 0) (.k (.int (0)))) .nil)) (.cons (.bi .int (.cons (.ix (.v 0) (.k (.int (1)))) .nil)) .nil)))) .nil)⟩
def N6:Fn:=⟨2,4,0,(.cons (.iff (.orr (.cmp .ne (.bi .len (.cons (.v 1) .nil)) (.k (.int (3)))) (.orr (.nt (.val (.call 3 (.cons (.ix (.v 1) (.k (.int (1)))) .nil)))) (.nt (.val (.call 4 (.cons (.ix (.v 1) (.k (.int (2)))) .nil)))))) (.cons (.ret (.k (.str "row"))) .nil) .nil) (.cons (.set 2 (.ix (.v 1) (.k (.int (1))))) (.cons (.set 3 (.call 14 (.cons (.bin .isin (.v 2) (.fld (.v 0) "shapes")) (.cons (.k (.bl true)) (.cons (.bin .ge (.bi .len (.cons (.fld (.v 0) "shapes") .nil)) (.k (.int (60)))) .nil))))) (.cons (.iff (.isN (.v 3)) (.cons (.six (.fld (.v 0) "shapes") (.v 2) (.bi .int (.cons (.ix (.v 1) (.k (.int (2)))) .nil))) .nil) .nil) (.cons (.ret (.v 3)) .nil)))))⟩
def J3:Fn:=⟨2,2,1,(.cons (.iff (.orr (.cmp .ne (.bi .len (.cons (.v 0) .nil)) (.bin .add (.k (.int (3))) (.v 1))) (.nt (.val (.call 3 (.cons (.ix (.v 0) (.k (.int (1)))) .nil))))) (.cons (.ret (.k (.bl false))) .nil) .nil) (.cons (.ret (.an (.gin false (.ix (.v 0) (.k (.int (2)))) [(.str "above"),(.str "below")]) (.call 10 (.cons (.sl (.v 0) (.at (.k (.int (3)))) .no) .nil)))) .nil))⟩
def Q8:Fn:=⟨2,4,0,(.cons (.iff (.nt (.val (.call 18 (.cons (.v 1) (.cons (.k (.int (4))) .nil))))) (.cons (.ret (.k (.str "row"))) .nil) .nil) (.cons (.set 2 (.ix (.v 1) (.k (.int (1))))) (.cons (.set 3 (.call 14 (.cons (.bin .isin (.v 2) (.fld (.v 0) "marks")) (.cons (.bin .isin (.v 2) (.fld (.v 0) "shapes")) (.cons (.k (.bl false)) .nil))))) (.cons (.iff (.isN (.v 3)) (.cons (.six (.fld (.v 0) "marks") (.v 2) (.tup (.cons (.ix (.v 1) (.k (.int (2)))) (.cons (.call 16 (.cons (.sl (.v 1) (.at (.k (.int (3)))) (.at (.k (.int (5))))) .nil)) (.cons (.call 16 (.cons (.sl (.v 1) (.at (.k (.int (5)))) (.at (.k (.int (7))))) .nil)) .nil))))) .nil) .nil) (.cons (.ret (.v 3)) .nil)))))⟩
def N7:Fn:=⟨2,5,0,(.cons (.iff (.nt (.val (.call 18 (.cons (.v 1) (.cons (.k (.int (2))) .nil))))) (.cons (.ret (.k (.str "row"))) .nil) .nil) (.cons (.set 2 (.ix (.v 1) (.k (.int (1))))) (.cons (.set 3 (.tup (.cons (.v 2) (.cons (.ix (.v 1) (.k (.int (2)))) .nil)))) (.cons (.set 4 (.call 14 (.cons (.bin .isin (.v 3) (.fld (.v 0) "points")) (.cons (.bin .isin (.v 2) (.fld (.v 0) "shapes")) (.cons (.k (.bl false)) .nil))))) (.cons (.iff (.isN (.v 4)) (.cons (.six (.fld (.v 0) "points") (.v 3) (.call 16 (.cons (.sl (.v 1) (.at (.k (.int (3)))) (.at (.k (.int (5))))) .nil))) .nil) .nil) (.cons (.ret (.v 4)) .nil))))))⟩
def E8:Fn:=⟨1,2,1,(.cons (.iff (.orr (.cmp .lt (.bi .len (.cons (.v 0) .nil)) (.k (.int (4)))) (.nt (.val (.call 3 (.cons (.ix (.v 0) (.k (.int (1)))) .nil))))) (.cons (.ret (.k (.bl false))) .nil) .nil) (.cons (.iff (.orr (.val (.gdin true (.ix (.v 0) (.k (.int (2)))) [((.str "none"),(.int (1))),((.str "clear"),(.int (1))),((.str "back"),(.int (2))),((.str "both"),(.int (4)))])) (.val (.gin true (.ix (.v 0) (.k (.int (3)))) [(.str "left"),(.str "right"),(.str "either")]))) (.cons (.ret (.k (.bl false))) .nil) .nil) (.cons (.set 1 (.sl (.v 0) (.at (.k (.int (4)))) .no)) (.cons (.ret (.an (.bin .eq (.bi .len (.cons (.v 1) .nil)) (.gdix (.ix (.v 0) (.k (.int (2)))) [((.str "none"),(.int (1))),((.str "clear"),(.int (1))),((.str "back"),(.int (2))),((.str "both"),(.int (4)))])) (.call 9 (.cons (.v 1) .nil)))) .nil))))⟩
def M3:Fn:=⟨2,5,0,(.cons (.iff (.nt (.val (.call 21 (.cons (.v 1) .nil)))) (.cons (.ret (.k (.str "row"))) .nil) .nil) (.cons (.set 2 (.ix (.v 1) (.k (.int (1))))) (.cons (.set 3 (.sl (.v 1) (.at (.k (.int (4)))) .no)) (.cons (.set 4 (.call 14 (.cons (.bin .isin (.v 2) (.fld (.v 0) "letters")) (.cons (.call 15 (.cons (.v 0) (.cons (.v 3) .nil))) (.cons (.bin .ge (.bi .len (.cons (.fld (.v 0) "letters") .nil)) (.k (.int (24)))) .nil))))) (.cons (.iff (.isN (.v 4)) (.cons (.six (.fld (.v 0) "letters") (.v 2) (.tup (.cons (.ix (.v 1) (.k (.int (2)))) (.cons (.ix (.v 1) (.k (.int (3)))) (.cons (.bi .tuple (.cons (.v 3) .nil)) .nil))))) .nil) .nil) (.cons (.ret (.v 4)) .nil))))))⟩
def V4:Fn:=⟨2,4,0,(.cons (.iff (.orr (.cmp .ne (.bi .len (.cons (.v 1) .nil)) (.k (.int (2)))) (.nt (.val (.call 3 (.cons (.ix (.v 1) (.k (.int (1)))) .nil))))) (.cons (.ret (.k (.str "row"))) .nil) .nil) (.cons (.set 2 (.ix (.v 1) (.k (.int (1))))) (.cons (.set 3 (.call 14 (.cons (.bin .isin (.v 2) (.fld (.v 0) "gaps")) (.cons (.bin .isin (.v 2) (.fld (.v 0) "letters")) (.cons (.k (.bl false)) .nil))))) (.cons (.iff (.isN (.v 3)) (.cons (.ex (.mt .append (.fld (.v 0) "gaps") (.cons (.v 2) .nil))) .nil) .nil) (.cons (.ret (.v 3)) .nil)))))⟩
def N9:Fn:=⟨2,5,0,(.cons (.set 2 (.sl (.v 1) (.at (.k (.int (2)))) .no)) (.cons (.iff (.orr (.nt (.chn .le .le (.k (.int (1))) (.bi .len (.cons (.v 2) .nil)) (.k (.int (20))))) (.nt (.val (.call 9 (.cons (.sl (.v 1) (.at (.k (.int (1)))) .no) .nil))))) (.cons (.ret (.k (.str "row"))) .nil) .nil) (.cons (.set 3 (.ix (.v 1) (.k (.int (1))))) (.cons (.set 4 (.call 14 (.cons (.bin .isin (.v 3) (.fld (.v 0) "classes")) (.cons (.call 15 (.cons (.v 0) (.cons (.v 2) .nil))) (.cons (.bin .ge (.bi .len (.cons (.fld (.v 0) "classes") .nil)) (.k (.int (20)))) .nil))))) (.cons (.iff (.isN (.v 4)) (.cons (.six (.fld (.v 0) "classes") (.v 3) (.bi .tuple (.cons (.v 2) .nil))) .nil) .nil) (.cons (.ret (.v 4)) .nil))))))⟩
def K7:Fn:=⟨2,4,0,(.cons (.iff (.orr (.cmp .ne (.bi .len (.cons (.v 1) .nil)) (.k (.int (3)))) (.orr (.nt (.val (.call 3 (.cons (.ix (.v 1) (.k (.int (1)))) .nil)))) (.val (.gin true (.ix (.v 1) (.k (.int (2)))) [(.str "on"),(.str "off")])))) (.cons (.ret (.k (.str "row"))) .nil) .nil) (.cons (.set 2 (.ix (.v 1) (.k (.int (1))))) (.cons (.set 3 (.call 14 (.cons (.bin .isin (.v 2) (.fld (.v 0) "features")) (.cons (.k (.bl true)) (.cons (.bin .ge (.bi .len (.cons (.fld (.v 0) "features") .nil)) (.k (.int (10)))) .nil))))) (.cons (.iff (.isN (.v 3)) (.cons (.six (.fld (.v 0) "features") (.v 2) (.bin .eq (.ix (.v 1) (.k (.int (2)))) (.k (.str "on")))) .nil) .nil) (.cons (.ret (.v 3)) .nil)))))⟩
def Q7:Fn:=⟨2,8,0,(.cons (.iff (.nt (.val (.call 27 (.cons (.v 1) .nil)))) (.cons (.ret (.k (.str "row"))) .nil) .nil) (.cons (.set 2 (.ix (.v 1) (.k (.int (1))))) (.cons (.set 3 (.ix (.v 1) (.k (.int (2))))) (.cons (.set 4 (.call 28 (.cons (.v 1) .nil))) (.cons (.set 5 (.bin .add (.bin .add (.ix (.v 4) (.k (.int (0)))) (.ix (.v 4) (.k (.int (1))))) (.ix (.v 4) (.k (.int (2)))))) (.cons (.set 6 (.an (.bin .isin (.v 3) (.fld (.v 0) "features")) (.an (.call 29 (.cons (.v 0) (.cons (.v 5) .nil))) (.call 15 (.cons (.v 0) (.cons (.ix (.v 4) (.k (.int (3)))) .nil)))))) (.cons (.set 7 (.call 14 (.cons (.call 31 (.cons (.v 0) (.cons (.v 2) .nil))) (.cons (.v 6) (.cons (.bin .ge (.bi .len (.cons (.fld (.v 0) "rules") .nil)) (.k (.int (30)))) .nil))))) (.cons (.iff (.isN (.v 7)) (.cons (.ex (.mt .append (.fld (.v 0) "rules") (.cons (.tup (.cons (.v 2) (.cons (.v 3) (.cons (.bi .tuple (.cons (.ix (.v 4) (.k (.int (0)))) .nil)) (.cons (.bi .tuple (.cons (.ix (.v 4) (.k (.int (1)))) .nil)) (.cons (.bi .tuple (.cons (.ix (.v 4) (.k (.int (2)))) .nil)) (.cons (.bi .tuple (.cons (.ix (.v 4) (.k (.int (3)))) .nil)) .nil))))))) .nil))) .nil) .nil) (.cons (.ret (.v 7)) .nil)))))))))⟩
def J4:Fn:=⟨1,2,1,(.cons (.iff (.nt (.val (.call 9 (.cons (.sl (.v 0) (.at (.k (.int (1)))) (.at (.k (.int (3))))) .nil)))) (.cons (.ret (.k (.bl false))) .nil) .nil) (.cons (.set 1 (.call 28 (.cons (.v 0) .nil))) (.cons (.iff (.orr (.isN (.v 1)) (.orr (.cmp .gt (.bi .len (.cons (.ix (.v 1) (.k (.int (0)))) .nil)) (.k (.int (3)))) (.cmp .gt (.bi .len (.cons (.ix (.v 1) (.k (.int (2)))) .nil)) (.k (.int (3)))))) (.cons (.ret (.k (.bl false))) .nil) .nil) (.cons (.iff (.orr (.nt (.chn .le .le (.k (.int (1))) (.bi .len (.cons (.ix (.v 1) (.k (.int (1)))) .nil)) (.k (.int (4))))) (.nt (.chn .le .le (.k (.int (1))) (.bi .len (.cons (.ix (.v 1) (.k (.int (3)))) .nil)) (.k (.int (3)))))) (.cons (.ret (.k (.bl false))) .nil) .nil) (.cons (.ret (.an (.call 11 (.cons (.bin .add (.bin .add (.ix (.v 1) (.k (.int (0)))) (.ix (.v 1) (.k (.int (1))))) (.ix (.v 1) (.k (.int (2))))) .nil)) (.call 9 (.cons (.ix (.v 1) (.k (.int (3)))) .nil)))) .nil)))))⟩
def O0:Fn:=⟨1,4,0,(.cons (.set 1 (.lst (.cons (.lst .nil) .nil))) (.cons (.set 2 (.lst .nil)) (.cons (.for (.nm 3) (.seq (.sl (.v 0) (.at (.k (.int (3)))) .no)) (.cons (.iff (.cmp .isin (.v 3) (.tup (.cons (.k (.str "/")) (.cons (.k (.str ">")) .nil)))) (.cons (.ex (.mt .append (.v 2) (.cons (.v 3) .nil))) (.cons (.ex (.mt .append (.v 1) (.cons (.lst .nil) .nil))) .nil)) (.cons (.ex (.mt .append (.ix (.v 1) (.neg (.k (.int (1))))) (.cons (.v 3) .nil))) .nil)) .nil)) (.cons (.iff (.cmp .ne (.v 2) (.lst (.cons (.k (.str "/")) (.cons (.k (.str "/")) (.cons (.k (.str ">")) .nil))))) (.cons (.ret (.k .non)) .nil) .nil) (.cons (.ret (.v 1)) .nil)))))⟩
def R4:Fn:=⟨2,2,1,(.cons (.ret (.bi .all (.cons (.comp (.nm 0) (.seq (.v 1)) 1 [0] .yes (.call 30 (.cons (.v 1) (.cons (.v 0) .nil)))) .nil))) .nil)⟩
def V6:Fn:=⟨2,2,1,(.cons (.iff (.val (.call 7 (.cons (.v 1) .nil))) (.cons (.ret (.bin .isin (.call 6 (.cons (.v 1) .nil)) (.fld (.v 0) "classes"))) .nil) .nil) (.cons (.ret (.bin .isin (.v 1) (.fld (.v 0) "shapes"))) .nil))⟩
def V5:Fn:=⟨2,2,1,(.cons (.ret (.bi .any (.cons (.comp (.nm 0) (.seq (.fld (.v 0) "rules")) 1 [1] .yes (.bin .eq (.ix (.v 0) (.k (.int (0)))) (.v 1))) .nil))) .nil)⟩
def D0:Fn:=⟨2,2,1,(.cons (.iff (.cmp .lt (.v 1) (.bi .len (.cons (.v 0) .nil))) (.cons (.ret (.ix (.v 0) (.v 1))) .nil) .nil) (.cons (.ret (.k (.int (0)))) .nil))⟩
def o4:Fn:=⟨2,2,1,(.cons (.ret (.bin .mod (.bin .mul (.bin .mul (.bin .add (.bin .mod (.v 0) (.k (.int (2305843009213693951)))) (.k (.int (1)))) (.bin .add (.bin .mul (.v 1) (.v 1)) (.k (.int (48271))))) (.k (.int (40692)))) (.k (.int (2147483399))))) .nil)⟩
def n9:Fn:=⟨2,7,2,(.cons (.set 2 (.k (.str "abcdefghijklmnopqrstuvwxyz"))) (.cons (.set 3 (.bin .mod (.bin .div (.v 0) (.k (.int (4)))) (.k (.int (26))))) (.cons (.iff (.an (.cmp .eq (.bin .mod (.v 0) (.k (.int (4)))) (.k (.int (0)))) (.cmp .lt (.v 1) (.k (.int (13))))) (.cons (.ret (.comp (.nm 0) (.rng1 (.v 1)) 1 [3,2,1] .yes (.bin .mul (.ix (.v 2) (.v 1)) (.bin .sub (.v 3) (.v 0))))) .nil) .nil) (.cons (.set 4 (.bin .mod (.bin .div (.v 0) (.k (.int (104)))) (.k (.int (12))))) (.cons (.set 5 (.bin .mod (.bin .div (.v 0) (.k (.int (1248)))) (.bin .add (.v 4) (.k (.int (1)))))) (.cons (.set 6 (.mt .join (.k (.str "")) (.cons (.comp (.nm 0) (.rng1 (.v 4)) 1 [0,2] .yes (.ix (.bin .add (.v 2) (.k (.str "0123456789"))) (.bin .mod (.bin .add (.bin .div (.v 1) (.k (.int (16224)))) (.bin .mul (.k (.int (7))) (.v 0))) (.k (.int (36)))))) .nil))) (.cons (.ret (.comp (.nm 0) (.rng1 (.v 1)) 1 [3,2,5,6] .yes (.bin .add (.bin .add (.sl (.v 4) .no (.at (.v 3))) (.ix (.v 2) (.bin .mod (.bin .add (.v 1) (.bin .mul (.k (.int (5))) (.v 0))) (.k (.int (26)))))) (.sl (.v 4) (.at (.v 3)) .no)))) .nil)))))))⟩
def v8:Fn:=⟨1,6,2,(.cons (.set 1 (.call 202 (.cons (.v 0) (.cons (.k (.int (1))) .nil)))) (.cons (.set 2 (.call 203 (.cons (.bin .div (.v 1) (.k (.int (13)))) (.cons (.bin .add (.k (.int (4))) (.bin .mod (.v 1) (.k (.int (13))))) .nil)))) (.cons (.set 3 (.lst .nil)) (.cons (.for (.nm 4) (.rng1 (.bi .len (.cons (.v 2) .nil))) (.cons (.set 5 (.call 202 (.cons (.v 0) (.cons (.bin .add (.v 4) (.k (.int (10)))) .nil)))) (.cons (.ex (.mt .append (.v 3) (.cons (.ix (.lst (.cons (.k (.int (0))) (.cons (.bin .mod (.bin .div (.v 5) (.k (.int (4)))) (.k (.int (20)))) (.cons (.bin .mod (.bin .div (.v 5) (.k (.int (4)))) (.k (.int (1000)))) (.cons (.bin .mod (.bin .div (.v 5) (.k (.int (4)))) (.k (.int (99999)))) .nil))))) (.bin .mod (.v 5) (.k (.int (4))))) .nil))) .nil))) (.cons (.ret (.comp (.tp (.cons (.nm 0) (.cons (.nm 1) .nil))) (.zip (.v 2) (.v 3)) 2 [] .yes (.tup (.cons (.v 0) (.cons (.v 1) .nil))))) .nil)))))⟩
def u7:Fn:=⟨1,1,1,(.cons (.ret (.tup (.cons (.bin .sub (.bin .mod (.v 0) (.k (.int (41)))) (.k (.int (20)))) (.cons (.ix (.lst (.cons (.k (.int (0))) (.cons (.bin .mod (.bin .div (.v 0) (.k (.int (41)))) (.k (.int (99999)))) (.cons (.neg (.bin .mod (.bin .div (.v 0) (.k (.int (41)))) (.k (.int (99999))))) .nil)))) (.bin .mod (.bin .div (.v 0) (.k (.int (7)))) (.k (.int (3))))) .nil)))) .nil)⟩
def x4:Fn:=⟨2,6,2,(.cons (.set 2 (.lst .nil)) (.cons (.for (.nm 3) (.rng1 (.bi .len (.cons (.v 1) .nil))) (.cons (.set 4 (.call 202 (.cons (.v 0) (.cons (.bin .add (.v 3) (.k (.int (40)))) .nil)))) (.cons (.iff (.cmp .eq (.bin .mod (.v 4) (.k (.int (4)))) (.k (.int (1)))) (.cons (.set 5 (.ix (.lst (.cons (.k (.str "above")) (.cons (.k (.str "below")) .nil))) (.bin .mod (.bin .div (.v 4) (.k (.int (4)))) (.k (.int (2)))))) (.cons (.ex (.mt .append (.v 2) (.cons (.tup (.cons (.ix (.ix (.v 1) (.v 3)) (.k (.int (0)))) (.cons (.v 5) (.cons (.call 205 (.cons (.bin .div (.v 4) (.k (.int (8)))) .nil)) (.cons (.call 205 (.cons (.bin .div (.v 4) (.k (.int (8000)))) .nil)) .nil))))) .nil))) .nil)) .nil) .nil))) (.cons (.ret (.v 2)) .nil)))⟩
def w6:Fn:=⟨2,6,2,(.cons (.set 2 (.lst .nil)) (.cons (.for (.nm 3) (.rng1 (.bi .len (.cons (.v 1) .nil))) (.cons (.set 4 (.call 202 (.cons (.v 0) (.cons (.bin .add (.v 3) (.k (.int (70)))) .nil)))) (.cons (.for (.nm 5) (.seq (.sl (.lst (.cons (.k (.str "above")) (.cons (.k (.str "below")) .nil))) (.at (.bin .mod (.v 4) (.k (.int (2))))) .no)) (.cons (.iff (.cmp .gt (.bin .mod (.bin .div (.v 4) (.k (.int (2)))) (.k (.int (3)))) (.k (.int (0)))) (.cons (.ex (.mt .append (.v 2) (.cons (.tup (.cons (.ix (.ix (.v 1) (.v 3)) (.k (.int (0)))) (.cons (.v 5) (.cons (.call 205 (.cons (.bin .div (.v 4) (.k (.int (6)))) .nil)) .nil)))) .nil))) .nil) .nil) .nil)) .nil))) (.cons (.ret (.v 2)) .nil)))⟩
def u9:Fn:=⟨2,10,2,(.cons (.set 2 (.call 202 (.cons (.v 0) (.cons (.k (.int (2))) .nil)))) (.cons (.set 3 (.call 203 (.cons (.bin .div (.v 2) (.k (.int (6)))) (.cons (.bin .add (.k (.int (1))) (.bin .mod (.v 2) (.k (.int (6))))) .nil)))) (.cons (.set 4 (.lst .nil)) (.cons (.for (.nm 5) (.rng1 (.bi .len (.cons (.v 3) .nil))) (.cons (.set 6 (.call 202 (.cons (.v 0) (.cons (.bin .add (.v 5) (.k (.int (100)))) .nil)))) (.cons (.set 7 (.ix (.lst (.cons (.k (.str "both")) (.cons (.k (.str "back")) (.cons (.k (.str "none")) (.cons (.k (.str "both")) (.cons (.k (.str "clear")) (.cons (.k (.str "both")) .nil))))))) (.bin .mod (.v 6) (.k (.int (6)))))) (.cons (.set 8 (.ix (.dlit [((.str "both"),(.int (4))),((.str "back"),(.int (2))),((.str "none"),(.int (1))),((.str "clear"),(.int (1)))]) (.v 7))) (.cons (.set 9 (.bi .tuple (.cons (.comp (.nm 0) (.rng1 (.v 8)) 1 [6,1] .yes (.ix (.ix (.v 2) (.bin .mod (.bin .div (.v 1) (.bin .add (.bin .mul (.bin .mul (.v 0) (.v 0)) (.k (.int (31)))) (.k (.int (7))))) (.bi .len (.cons (.v 2) .nil)))) (.k (.int (0))))) .nil))) (.cons (.ex (.mt .append (.v 4) (.cons (.tup (.cons (.ix (.v 3) (.v 5)) (.cons (.v 7) (.cons (.ix (.lst (.cons (.k (.str "left")) (.cons (.k (.str "right")) (.cons (.k (.str "either")) .nil)))) (.bin .mod (.bin .div (.v 6) (.k (.int (6)))) (.k (.int (3))))) (.cons (.v 9) .nil))))) .nil))) .nil)))))) (.cons (.ret (.v 4)) .nil)))))⟩
def v0:Fn:=⟨2,8,2,(.cons (.set 2 (.call 202 (.cons (.v 0) (.cons (.k (.int (3))) .nil)))) (.cons (.set 3 (.lst .nil)) (.cons (.for (.tp (.cons (.nm 4) (.cons (.nm 5) .nil))) (.enum (.call 203 (.cons (.bin .div (.v 2) (.k (.int (4)))) (.cons (.bin .add (.k (.int (1))) (.bin .mod (.v 2) (.k (.int (3))))) .nil)))) (.cons (.set 6 (.call 202 (.cons (.v 0) (.cons (.bin .add (.v 4) (.k (.int (130)))) .nil)))) (.cons (.set 7 (.comp (.nm 0) (.rng1 (.bin .add (.k (.int (1))) (.bin .mod (.v 6) (.k (.int (5)))))) 1 [6,1] .yes (.ix (.ix (.v 2) (.bin .mod (.bin .div (.v 1) (.bin .add (.bin .mul (.v 0) (.k (.int (13)))) (.k (.int (5))))) (.bi .len (.cons (.v 2) .nil)))) (.k (.int (0)))))) (.cons (.ex (.mt .append (.v 3) (.cons (.tup (.cons (.v 5) (.cons (.bi .tuple (.cons (.v 7) .nil)) .nil))) .nil))) .nil)))) (.cons (.ret (.v 3)) .nil))))⟩
def v5:Fn:=⟨5,9,1,(.cons (.set 5 (.lst .nil)) (.cons (.for (.nm 6) (.rng1 (.v 1)) (.cons (.set 7 (.bin .div (.v 0) (.bin .add (.bin .mul (.bin .mul (.v 6) (.v 6)) (.k (.int (17)))) (.k (.int (3)))))) (.cons (.iff (.cmp .eq (.bin .mod (.v 7) (.k (.int (3)))) (.k (.int (0)))) (.cons (.ex (.mt .append (.v 5) (.cons (.bin .add (.k (.str "@")) (.ix (.ix (.v 4) (.bin .mod (.bin .div (.v 7) (.k (.int (3)))) (.bi .len (.cons (.v 4) .nil)))) (.k (.int (0))))) .nil))) .nil) (.cons (.iff (.cmp .eq (.bin .mod (.v 7) (.k (.int (3)))) (.k (.int (1)))) (.cons (.set 8 (.ix (.ix (.v 3) (.bin .mod (.bin .div (.v 7) (.k (.int (3)))) (.bi .len (.cons (.v 3) .nil)))) (.k (.int (3))))) (.cons (.ex (.mt .append (.v 5) (.cons (.ix (.v 8) (.bin .mod (.bin .div (.v 7) (.k (.int (50)))) (.bi .len (.cons (.v 8) .nil)))) .nil))) .nil)) (.cons (.ex (.mt .append (.v 5) (.cons (.ix (.ix (.v 2) (.bin .mod (.bin .div (.v 7) (.k (.int (3)))) (.bi .len (.cons (.v 2) .nil)))) (.k (.int (0)))) .nil))) .nil)) .nil)) .nil))) (.cons (.ret (.bi .tuple (.cons (.v 5) .nil))) .nil)))⟩
def t7:Fn:=⟨6,17,2,(.cons (.set 6 (.lst .nil)) (.cons (.for (.tp (.cons (.nm 7) (.cons (.nm 8) .nil))) (.enum (.call 203 (.cons (.call 202 (.cons (.v 0) (.cons (.k (.int (4))) .nil))) (.cons (.v 1) .nil)))) (.cons (.set 9 (.call 202 (.cons (.v 0) (.cons (.bin .add (.v 7) (.k (.int (160)))) .nil)))) (.cons (.set 10 (.call 202 (.cons (.v 0) (.cons (.bin .add (.v 7) (.k (.int (190)))) .nil)))) (.cons (.set 11 (.lst (.cons (.ix (.lst (.cons (.k (.int (0))) (.cons (.k (.int (0))) (.cons (.k (.int (0))) (.cons (.k (.int (1))) (.cons (.k (.int (2))) (.cons (.k (.int (3))) .nil))))))) (.bin .mod (.v 9) (.k (.int (6))))) (.cons (.ix (.lst (.cons (.k (.int (1))) (.cons (.k (.int (2))) (.cons (.k (.int (1))) (.cons (.k (.int (2))) (.cons (.k (.int (3))) (.cons (.k (.int (4))) (.cons (.k (.int (1))) .nil)))))))) (.bin .mod (.bin .div (.v 9) (.k (.int (6)))) (.k (.int (7))))) (.cons (.ix (.lst (.cons (.k (.int (0))) (.cons (.k (.int (0))) (.cons (.k (.int (0))) (.cons (.k (.int (1))) (.cons (.k (.int (2))) (.cons (.k (.int (3))) .nil))))))) (.bin .mod (.bin .div (.v 9) (.k (.int (42)))) (.k (.int (6))))) .nil))))) (.cons (.set 12 (.call 210 (.cons (.v 10) (.cons (.ix (.v 11) (.k (.int (0)))) (.cons (.v 2) (.cons (.v 3) (.cons (.v 4) .nil))))))) (.cons (.set 13 (.call 210 (.cons (.bin .add (.bin .div (.v 10) (.k (.int (11)))) (.bin .mul (.k (.int (5))) (.v 7))) (.cons (.ix (.v 11) (.k (.int (1)))) (.cons (.v 2) (.cons (.v 3) (.cons (.v 4) .nil))))))) (.cons (.set 14 (.call 210 (.cons (.bin .add (.bin .div (.v 10) (.k (.int (101)))) (.k (.int (3)))) (.cons (.ix (.v 11) (.k (.int (2)))) (.cons (.v 2) (.cons (.v 3) (.cons (.v 4) .nil))))))) (.cons (.set 15 (.ix (.lst (.cons (.k (.int (1))) (.cons (.k (.int (1))) (.cons (.k (.int (1))) (.cons (.k (.int (2))) (.cons (.bin .add (.k (.int (2))) (.bi .int (.cons (.bin .eq (.v 7) (.k (.int (0)))) .nil))) .nil)))))) (.bin .mod (.bin .div (.v 9) (.k (.int (252)))) (.k (.int (5)))))) (.cons (.set 16 (.bi .tuple (.cons (.comp (.nm 0) (.rng1 (.v 15)) 1 [9,2] .yes (.ix (.ix (.v 2) (.bin .mod (.bin .div (.v 1) (.bin .add (.bin .mul (.v 0) (.k (.int (7)))) (.k (.int (3))))) (.bi .len (.cons (.v 2) .nil)))) (.k (.int (0))))) .nil))) (.cons (.ex (.mt .append (.v 6) (.cons (.tup (.cons (.v 8) (.cons (.ix (.ix (.v 5) (.bin .mod (.bin .div (.v 9) (.k (.int (1260)))) (.bi .len (.cons (.v 5) .nil)))) (.k (.int (0)))) (.cons (.v 12) (.cons (.v 13) (.cons (.v 14) (.cons (.v 16) .nil))))))) .nil))) .nil)))))))))) (.cons (.ret (.v 6)) .nil)))⟩
def F8:Fn:=⟨2,12,0,(.cons (.set 2 (.call 201 (.cons (.v 0) (.cons (.k (.int (0))) .nil)))) (.cons (.set 3 (.call 204 (.cons (.v 2) .nil))) (.cons (.set 4 (.call 208 (.cons (.call 201 (.cons (.v 0) (.cons (.k (.int (1))) .nil))) (.cons (.v 3) .nil)))) (.cons (.set 5 (.call 209 (.cons (.call 201 (.cons (.v 0) (.cons (.k (.int (2))) .nil))) (.cons (.v 3) .nil)))) (.cons (.set 6 (.call 202 (.cons (.call 201 (.cons (.v 0) (.cons (.k (.int (2))) .nil))) (.cons (.k (.int (5))) .nil)))) (.cons (.set 7 (.comp (.tp (.cons (.nm 0) (.cons (.nm 1) .nil))) (.enum (.call 203 (.cons (.bin .div (.v 6) (.k (.int (3)))) (.cons (.bin .add (.k (.int (1))) (.bin .mod (.v 6) (.k (.int (3))))) .nil)))) 2 [6] .yes (.tup (.cons (.v 1) (.cons (.bin .gt (.bin .mod (.bin .div (.v 2) (.bin .add (.v 0) (.k (.int (5))))) (.k (.int (4)))) (.k (.int (0)))) .nil))))) (.cons (.set 8 (.call 211 (.cons (.call 201 (.cons (.v 0) (.cons (.k (.int (3))) .nil))) (.cons (.v 1) (.cons (.v 3) (.cons (.v 4) (.cons (.v 5) (.cons (.v 7) .nil)))))))) (.cons (.set 9 (.comp (.tp (.cons (.nm 0) (.cons (.nm 1) .nil))) (.enum (.v 4)) 2 [6] (.cmp .eq (.bin .mod (.bin .div (.v 2) (.bin .add (.bin .mul (.k (.int (7))) (.v 0)) (.k (.int (9))))) (.k (.int (4)))) (.k (.int (0)))) (.ix (.v 1) (.k (.int (0)))))) (.cons (.set 10 (.call 206 (.cons (.v 2) (.cons (.v 3) .nil)))) (.cons (.set 11 (.call 207 (.cons (.v 2) (.cons (.v 3) .nil)))) (.cons (.ret (.tup (.cons (.v 3) (.cons (.v 10) (.cons (.v 11) (.cons (.v 4) (.cons (.v 9) (.cons (.v 5) (.cons (.v 7) (.cons (.v 8) .nil)))))))))) .nil)))))))))))⟩
def w8:Fn:=⟨1,1,1,(.cons (.ret (.bin .add (.bin .add (.bi .str (.cons (.ix (.v 0) (.k (.int (0)))) .nil)) (.k (.str " "))) (.bi .str (.cons (.ix (.v 0) (.k (.int (1)))) .nil)))) .nil)⟩
def w5:Fn:=⟨1,2,1,(.cons (.set 1 (.bin .add (.bin .add (.bin .add (.lst (.cons (.k (.str "rule")) (.cons (.ix (.v 0) (.k (.int (0)))) (.cons (.ix (.v 0) (.k (.int (1)))) .nil)))) (.bi .list (.cons (.ix (.v 0) (.k (.int (2)))) .nil))) (.lst (.cons (.k (.str "/")) .nil))) (.bi .list (.cons (.ix (.v 0) (.k (.int (3)))) .nil)))) (.cons (.ret (.mt .join (.k (.str " ")) (.cons (.bin .add (.bin .add (.bin .add (.bin .add (.v 1) (.lst (.cons (.k (.str "/")) .nil))) (.bi .list (.cons (.ix (.v 0) (.k (.int (4)))) .nil))) (.lst (.cons (.k (.str ">")) .nil))) (.bi .list (.cons (.ix (.v 0) (.k (.int (5)))) .nil))) .nil))) .nil))⟩
def C0:Fn:=⟨1,10,1,(.cons (.set 2 (.comp (.tp (.cons (.nm 0) (.cons (.nm 1) .nil))) (.seq (.ix (.v 0) (.k (.int (0))))) 2 [] .yes (.bin .add (.bin .add (.bin .add (.k (.str "shape ")) (.v 0)) (.k (.str " "))) (.bi .str (.cons (.v 1) .nil))))) (.cons (.for (.tp (.cons (.nm 1) (.cons (.nm 3) (.cons (.nm 4) (.cons (.nm 5) .nil))))) (.seq (.ix (.v 0) (.k (.int (1))))) (.cons (.set 6 (.bin .add (.bin .add (.call 213 (.cons (.v 4) .nil)) (.k (.str " "))) (.call 213 (.cons (.v 5) .nil)))) (.cons (.ex (.mt .append (.v 2) (.cons (.bin .add (.bin .add (.bin .add (.bin .add (.bin .add (.k (.str "mark ")) (.v 1)) (.k (.str " "))) (.v 3)) (.k (.str " "))) (.v 6)) .nil))) .nil))) (.cons (.set 2 (.bin .add (.v 2) (.comp (.tp (.cons (.nm 0) (.cons (.nm 1) (.cons (.nm 2) .nil)))) (.seq (.ix (.v 0) (.k (.int (2))))) 3 [] .yes (.bin .add (.bin .add (.bin .add (.bin .add (.bin .add (.k (.str "point ")) (.v 0)) (.k (.str " "))) (.v 1)) (.k (.str " "))) (.call 213 (.cons (.v 2) .nil)))))) (.cons (.for (.tp (.cons (.nm 1) (.cons (.nm 7) (.cons (.nm 8) (.cons (.nm 9) .nil))))) (.seq (.ix (.v 0) (.k (.int (3))))) (.cons (.ex (.mt .append (.v 2) (.cons (.mt .join (.k (.str " ")) (.cons (.bin .add (.lst (.cons (.k (.str "letter")) (.cons (.v 1) (.cons (.v 7) (.cons (.v 8) .nil))))) (.bi .list (.cons (.v 9) .nil))) .nil)) .nil))) .nil)) (.cons (.set 2 (.bin .add (.v 2) (.comp (.nm 0) (.seq (.ix (.v 0) (.k (.int (4))))) 1 [] .yes (.bin .add (.k (.str "gap ")) (.v 0))))) (.cons (.set 2 (.bin .add (.v 2) (.comp (.tp (.cons (.nm 0) (.cons (.nm 1) .nil))) (.seq (.ix (.v 0) (.k (.int (5))))) 2 [] .yes (.mt .join (.k (.str " ")) (.cons (.bin .add (.lst (.cons (.k (.str "class")) (.cons (.v 0) .nil))) (.bi .list (.cons (.v 1) .nil))) .nil))))) (.cons (.set 2 (.bin .add (.v 2) (.comp (.tp (.cons (.nm 0) (.cons (.nm 1) .nil))) (.seq (.ix (.v 0) (.k (.int (6))))) 2 [] .yes (.bin .add (.bin .add (.bin .add (.k (.str "feature ")) (.v 0)) (.k (.str " "))) (.ix (.lst (.cons (.k (.str "off")) (.cons (.k (.str "on")) .nil))) (.bi .int (.cons (.v 1) .nil))))))) (.cons (.ret (.mt .join (.k (.str "\n")) (.cons (.bin .add (.v 2) (.comp (.nm 0) (.seq (.ix (.v 0) (.k (.int (7))))) 1 [] .yes (.call 214 (.cons (.v 0) .nil)))) .nil))) .nil))))))))⟩
def L6:Fn:=⟨2,2,1,(.cons (.ret (.bi .sum (.cons (.comp (.nm 0) (.seq (.v 1)) 1 [0] (.cmp .notin (.ix (.v 0) (.k (.int (0)))) (.fld (.v 1) "marks")) (.ix (.fld (.v 1) "shapes") (.ix (.v 0) (.k (.int (0)))))) .nil))) .nil)⟩
def G3:Fn:=⟨1,1,1,(.cons (.ret (.an (.isi true (.v 0)) (.nt (.isi false (.v 0))))) .nil)⟩
def E2:Fn:=⟨3,9,2,(.cons (.set 3 (.lst .nil)) (.cons (.set 4 (.k (.int (0)))) (.cons (.for (.tp (.cons (.nm 5) (.cons (.nm 6) .nil))) (.enum (.sl (.v 0) (.at (.v 1)) (.at (.bin .add (.v 1) (.k (.int (50))))))) (.cons (.set 7 (.call 202 (.cons (.v 6) (.cons (.bin .add (.v 5) (.k (.int (400)))) .nil)))) (.cons (.set 8 (.ix (.lst (.cons (.k (.int (0))) (.cons (.k (.int (1))) (.cons (.k (.int (1))) (.cons (.k (.int (1))) (.cons (.k (.int (2))) (.cons (.k (.int (2))) (.cons (.k (.int (3))) (.cons (.k (.int (4))) .nil))))))))) (.bin .mod (.v 7) (.k (.int (8)))))) (.cons (.iff (.cmp .eq (.v 4) (.k (.int (0)))) (.cons (.set 8 (.bi .max (.cons (.k (.int (1))) (.cons (.v 8) .nil)))) .nil) .nil) (.cons (.ex (.mt .append (.v 3) (.cons (.tup (.cons (.ix (.ix (.v 2) (.bin .mod (.bin .div (.v 7) (.k (.int (8)))) (.bi .len (.cons (.v 2) .nil)))) (.k (.int (0)))) (.cons (.trng (.v 4) (.bin .add (.v 4) (.v 8))) .nil))) .nil))) (.cons (.set 4 (.bin .add (.v 4) (.v 8))) .nil)))))) (.cons (.ret (.v 3)) .nil))))⟩
def a5D:Fn:=⟨1,10,0,(.cons (.set 1 (.call 212 (.cons (.v 0) (.cons (.k (.int (0))) .nil)))) (.cons (.set 2 (.call 12 (.cons (.call 215 (.cons (.v 1) .nil)) .nil))) (.cons (.set 3 (.bi .dict (.cons (.ix (.v 1) (.k (.int (0)))) .nil))) (.cons (.set 4 (.comp (.nm 0) (.seq (.ix (.v 1) (.k (.int (1))))) 1 [] .yes (.ix (.v 0) (.k (.int (0)))))) (.cons (.set 5 (.call 217 (.cons (.v 0) (.cons (.k (.int (5))) (.cons (.ix (.v 1) (.k (.int (0)))) .nil))))) (.cons (.set 6 (.k (.int (0)))) (.cons (.for (.nm 7) (.rng1 (.bin .add (.bi .len (.cons (.v 5) .nil)) (.k (.int (1))))) (.cons (.set 8 (.sl (.v 5) .no (.at (.v 7)))) (.cons (.set 9 (.call 33 (.cons (.v 2) (.cons (.v 8) .nil)))) (.cons (.iff (.orr (.nt (.val (.call 216 (.cons (.v 9) .nil)))) (.orr (.cmp .ne (.v 9) (.v 6)) (.cmp .ne (.v 8) (.sl (.v 5) .no (.at (.v 7)))))) (.cons (.ret (.k (.bl false))) .nil) .nil) (.cons (.iff (.an (.cmp .lt (.v 7) (.bi .len (.cons (.v 5) .nil))) (.cmp .notin (.ix (.ix (.v 5) (.v 7)) (.k (.int (0)))) (.v 4))) (.cons (.set 6 (.bin .add (.v 6) (.ix (.v 3) (.ix (.ix (.v 5) (.v 7)) (.k (.int (0))))))) .nil) .nil) .nil))))) (.cons (.ret (.k (.bl true))) .nil))))))))⟩
end EV
namespace K41
open PySem L2 EV
def top(i:Nat):Stmt:=PySem.Challenge.pw_glyphhall_k41_widths.main.body.getD i (.Pass ⟨0,0,0,0⟩)
def fe(x:Str)(a b:Nat):Str×Nat×Nat:=(x,a,b)
def se(x:Str)(d:D):Str×D:=(x,d)
def fns:List (Str×Nat×Nat):=[fe "words_of" 1 1,fe "made_of" 2 2,fe "is_name" 3 1,fe "is_number" 4 1,fe "is_signed_number" 5 1,fe "class_of_item" 6 1,fe "is_class_item" 7 1,fe "is_item" 8 1,fe "all_names" 9 1,fe "all_signed_numbers" 10 1,fe "all_items" 11 1,fe "read_hall" 12 1,fe "take_row" 13 2,fe "first_due" 14 3,fe "has_shapes" 15 2,fe "pair_of" 16 1,fe "take_shape" 17 2,fe "has_side_form" 18 2,fe "take_mark" 19 2,fe "take_point" 20 2,fe "has_letter_form" 21 1,fe "take_letter" 22 2,fe "take_gap" 23 2,fe "take_class" 24 2,fe "take_feature" 25 2,fe "take_rule" 26 2,fe "has_rule_form" 27 1,fe "rule_parts" 28 1,fe "has_items" 29 2,fe "has_item" 30 2,fe "has_rule" 31 2,fe "width_of" 33 2,fe "_law_cell_at" 201 2,fe "_law_mixed" 202 2,fe "_law_names_by" 203 2,fe "_law_shapes_by" 204 1,fe "_law_spot_by" 205 1,fe "_law_marks_by" 206 2,fe "_law_points_by" 207 2,fe "_law_letters_by" 208 2,fe "_law_classes_by" 209 2,fe "_law_items_by" 210 5,fe "_law_rules_by" 211 6,fe "_law_hall_by" 212 2,fe "_law_pair_text" 213 1,fe "_law_rule_text" 214 1,fe "_law_hall_text" 215 1,fe "_law_whole" 216 1,fe "_law_cells_by" 217 3,fe "law" 218 1]
def G:GT:={
 fn:=fns
 scal:=[se "FIGURES" (.str "0123456789"),se "NAME_SIGNS" (.str "abcdefghijklmnopqrstuvwxyz0123456789"),se "CLASS_SIGN" (.str "@"),se "LONGEST_NAME" (.int 12),se "LONGEST_NUMBER" (.int 5),se "MOST_SHAPES" (.int 60),se "MOST_LETTERS" (.int 24),se "MOST_CLASSES" (.int 20),se "MOST_FEATURES" (.int 10),se "MOST_RULES" (.int 30),se "MOST_IN_CLASS" (.int 20),se "MOST_AROUND" (.int 3),se "MOST_IN_CORE" (.int 4),se "MOST_TOLD" (.int 3)]
 tups:=[("SIDES",[.str "above",.str "below"]),("WAYS",[.str "left",.str "right",.str "either"]),("SWITCHES",[.str "on",.str "off"])]
 dicts:=[("SHAPES_OF_JOIN",[(.str "none",.int 1),(.str "clear",.int 1),(.str "back",.int 2),(.str "both",.int 4)])]
 obj:=[("Hall",6)]
 atts:=["shapes","marks","points","letters","gaps","classes","features","rules"]
 blt:=["len","str","int","list","tuple","all","any","isinstance","bool","range","enumerate","zip","sum","max","dict"]}
def F(i:Nat):Option Fn:=match i with
 |1=>some V3
 |2=>some Z8
 |3=>some Z9
 |4=>some R3
 |5=>some D7
 |6=>some J5
 |7=>some J2
 |8=>some a0a
 |9=>some Y1
 |10=>some F7
 |11=>some Y2
 |12=>some Q9
 |13=>some z4
 |14=>some R5
 |15=>some O1
 |16=>some Z7
 |17=>some N6
 |18=>some J3
 |19=>some Q8
 |20=>some N7
 |21=>some E8
 |22=>some M3
 |23=>some V4
 |24=>some N9
 |25=>some K7
 |26=>some Q7
 |27=>some J4
 |28=>some O0
 |29=>some R4
 |30=>some V6
 |31=>some V5
 |33=>some L6
 |201=>some D0
 |202=>some o4
 |203=>some n9
 |204=>some v8
 |205=>some u7
 |206=>some x4
 |207=>some w6
 |208=>some u9
 |209=>some v0
 |210=>some v5
 |211=>some t7
 |212=>some F8
 |213=>some w8
 |214=>some w5
 |215=>some C0
 |216=>some G3
 |217=>some E2
 |218=>some a5D
 |32=>some M6
 |_=>none
def ct:CT:=⟨fun _=>32⟩
abbrev SH:Stmt:=b2y (top 34) 0
theorem bd0{P:List Value->Prop}(h:P []):∀us,us.length=0->P us:=fun us e=>List.eq_nil_of_length_eq_zero e▸h
theorem bdS{P:List Value->Prop}{n:Nat}(h:∀a us,us.length=n->P (a::us)):∀us,us.length=n+1->P us:=fun us e=>by
 cases us with
 |nil=>cases e
 |cons a r=>exact h a r (Nat.succ.inj e)
theorem bd1{P:List Value->Prop}(h:∀a,P [a]):∀us,us.length=1->P us:=bdS fun a=>bd0 (P:=fun l=>P (a::l)) (h a)
theorem bd2{P:List Value->Prop}(h:∀a b,P [a,b]):∀us,us.length=2->P us:=bdS fun a=>bd1 (P:=fun l=>P (a::l)) (h a)
theorem bd3{P:List Value->Prop}(h:∀a b c,P [a,b,c]):∀us,us.length=3->P us:=bdS fun a=>bd2 (P:=fun l=>P (a::l)) (h a)
theorem bd4{P:List Value->Prop}(h:∀a b c d,P [a,b,c,d]):∀us,us.length=4->P us:=bdS fun a=>bd3 (P:=fun l=>P (a::l)) (h a)
theorem bd5{P:List Value->Prop}(h:∀a b c d e,P [a,b,c,d,e]):∀us,us.length=5->P us:=bdS fun a=>bd4 (P:=fun l=>P (a::l)) (h a)
theorem bd6{P:List Value->Prop}(h:∀a b c d e f,P [a,b,c,d,e,f]):∀us,us.length=6->P us:=bdS fun a=>bd5 (P:=fun l=>P (a::l)) (h a)
abbrev Bd(x q:Str)(st:Stmt)(ps:List Str):Prop:=∀(kV doc pm:Value) (an:Option Addr) (cdv ct:Value) (us:List Value),us.length=ps.length->bindArgs (PySem.W.fnOf x q (V7 st) (c9 st) (b5 st) .none kV doc pm an cdv ct) ⟨us,[]⟩=pure (ps.zip us)
abbrev S1:Stmt:=top 9
theorem A1:FnScope ["row"] ["row"] (b5 S1):=⟨rfl,rfl,rfl,by decide+kernel,rfl,by decide+kernel,by decide+kernel⟩
theorem B1:Bd "words_of" "words_of" S1 ["row"]:=fun _ _ _ _ _ _=>bd1 fun _=>rfl
theorem C1:cSs G ["row"] (b5 S1) 20 (c9 S1)=some V3.body:=by kernel_rfl
abbrev S2:Stmt:=top 10
theorem A2:FnScope ["word","signs"] ["word","signs"] (b5 S2):=⟨rfl,rfl,rfl,by decide+kernel,rfl,by decide+kernel,by decide+kernel⟩
theorem B2:Bd "made_of" "made_of" S2 ["word","signs"]:=fun _ _ _ _ _ _=>bd2 fun _ _=>rfl
theorem C2:cSs G ["word","signs"] (b5 S2) 20 (c9 S2)=some Z8.body:=by kernel_rfl
abbrev S3:Stmt:=top 11
theorem A3:FnScope ["word"] ["word"] (b5 S3):=⟨rfl,rfl,rfl,by decide+kernel,rfl,by decide+kernel,by decide+kernel⟩
theorem B3:Bd "is_name" "is_name" S3 ["word"]:=fun _ _ _ _ _ _=>bd1 fun _=>rfl
theorem C3:cSs G ["word"] (b5 S3) 20 (c9 S3)=some Z9.body:=by kernel_rfl
abbrev S4:Stmt:=top 12
theorem A4:FnScope ["word"] ["word"] (b5 S4):=⟨rfl,rfl,rfl,by decide+kernel,rfl,by decide+kernel,by decide+kernel⟩
theorem B4:Bd "is_number" "is_number" S4 ["word"]:=fun _ _ _ _ _ _=>bd1 fun _=>rfl
theorem C4:cSs G ["word"] (b5 S4) 20 (c9 S4)=some R3.body:=by kernel_rfl
abbrev S5:Stmt:=top 13
theorem A5:FnScope ["word"] ["word"] (b5 S5):=⟨rfl,rfl,rfl,by decide+kernel,rfl,by decide+kernel,by decide+kernel⟩
theorem B5:Bd "is_signed_number" "is_signed_number" S5 ["word"]:=fun _ _ _ _ _ _=>bd1 fun _=>rfl
theorem C5:cSs G ["word"] (b5 S5) 20 (c9 S5)=some D7.body:=by kernel_rfl
abbrev S6:Stmt:=top 14
theorem A6:FnScope ["item"] ["item"] (b5 S6):=⟨rfl,rfl,rfl,by decide+kernel,rfl,by decide+kernel,by decide+kernel⟩
theorem B6:Bd "class_of_item" "class_of_item" S6 ["item"]:=fun _ _ _ _ _ _=>bd1 fun _=>rfl
theorem C6:cSs G ["item"] (b5 S6) 20 (c9 S6)=some J5.body:=by kernel_rfl
abbrev S7:Stmt:=top 15
theorem A7:FnScope ["word"] ["word"] (b5 S7):=⟨rfl,rfl,rfl,by decide+kernel,rfl,by decide+kernel,by decide+kernel⟩
theorem B7:Bd "is_class_item" "is_class_item" S7 ["word"]:=fun _ _ _ _ _ _=>bd1 fun _=>rfl
theorem C7:cSs G ["word"] (b5 S7) 20 (c9 S7)=some J2.body:=by kernel_rfl
abbrev S8:Stmt:=top 16
theorem A8:FnScope ["word"] ["word"] (b5 S8):=⟨rfl,rfl,rfl,by decide+kernel,rfl,by decide+kernel,by decide+kernel⟩
theorem B8:Bd "is_item" "is_item" S8 ["word"]:=fun _ _ _ _ _ _=>bd1 fun _=>rfl
theorem C8:cSs G ["word"] (b5 S8) 20 (c9 S8)=some a0a.body:=by kernel_rfl
abbrev S9:Stmt:=top 17
theorem A9:FnScope ["words"] ["words"] (b5 S9):=⟨rfl,rfl,rfl,by decide+kernel,rfl,by decide+kernel,by decide+kernel⟩
theorem B9:Bd "all_names" "all_names" S9 ["words"]:=fun _ _ _ _ _ _=>bd1 fun _=>rfl
theorem C9:cSs G ["words"] (b5 S9) 20 (c9 S9)=some Y1.body:=by kernel_rfl
abbrev S10:Stmt:=top 18
theorem A10:FnScope ["words"] ["words"] (b5 S10):=⟨rfl,rfl,rfl,by decide+kernel,rfl,by decide+kernel,by decide+kernel⟩
theorem B10:Bd "all_signed_numbers" "all_signed_numbers" S10 ["words"]:=fun _ _ _ _ _ _=>bd1 fun _=>rfl
theorem C10:cSs G ["words"] (b5 S10) 20 (c9 S10)=some F7.body:=by kernel_rfl
abbrev S11:Stmt:=top 19
theorem A11:FnScope ["words"] ["words"] (b5 S11):=⟨rfl,rfl,rfl,by decide+kernel,rfl,by decide+kernel,by decide+kernel⟩
theorem B11:Bd "all_items" "all_items" S11 ["words"]:=fun _ _ _ _ _ _=>bd1 fun _=>rfl
theorem C11:cSs G ["words"] (b5 S11) 20 (c9 S11)=some Y2.body:=by kernel_rfl
abbrev S12:Stmt:=top 35
theorem A12:FnScope ["text","hall","place","row","words","fault"] ["text"] (b5 S12):=⟨rfl,rfl,rfl,by decide+kernel,rfl,by decide+kernel,by decide+kernel⟩
theorem B12:Bd "read_hall" "read_hall" S12 ["text"]:=fun _ _ _ _ _ _=>bd1 fun _=>rfl
theorem C12:cSs G ["text","hall","place","row","words","fault"] (b5 S12) 20 (c9 S12)=some Q9.body:=by kernel_rfl
abbrev S13:Stmt:=top 36
theorem A13:FnScope ["hall","words","form"] ["hall","words"] (b5 S13):=⟨rfl,rfl,rfl,by decide+kernel,rfl,by decide+kernel,by decide+kernel⟩
theorem B13:Bd "take_row" "take_row" S13 ["hall","words"]:=fun _ _ _ _ _ _=>bd2 fun _ _=>rfl
theorem C13:cSs G ["hall","words","form"] (b5 S13) 20 (c9 S13)=some z4.body:=by kernel_rfl
abbrev S14:Stmt:=top 37
theorem A14:FnScope ["again","known","full"] ["again","known","full"] (b5 S14):=⟨rfl,rfl,rfl,by decide+kernel,rfl,by decide+kernel,by decide+kernel⟩
theorem B14:Bd "first_due" "first_due" S14 ["again","known","full"]:=fun _ _ _ _ _ _=>bd3 fun _ _ _=>rfl
theorem C14:cSs G ["again","known","full"] (b5 S14) 20 (c9 S14)=some R5.body:=by kernel_rfl
abbrev S15:Stmt:=top 38
theorem A15:FnScope ["hall","names"] ["hall","names"] (b5 S15):=⟨rfl,rfl,rfl,by decide+kernel,rfl,by decide+kernel,by decide+kernel⟩
theorem B15:Bd "has_shapes" "has_shapes" S15 ["hall","names"]:=fun _ _ _ _ _ _=>bd2 fun _ _=>rfl
theorem C15:cSs G ["hall","names"] (b5 S15) 20 (c9 S15)=some O1.body:=by kernel_rfl
abbrev S16:Stmt:=top 39
theorem A16:FnScope ["words"] ["words"] (b5 S16):=⟨rfl,rfl,rfl,by decide+kernel,rfl,by decide+kernel,by decide+kernel⟩
theorem B16:Bd "pair_of" "pair_of" S16 ["words"]:=fun _ _ _ _ _ _=>bd1 fun _=>rfl
theorem C16:cSs G ["words"] (b5 S16) 20 (c9 S16)=some Z7.body:=by kernel_rfl
abbrev S17:Stmt:=top 40
theorem A17:FnScope ["hall","words","name","fault"] ["hall","words"] (b5 S17):=⟨rfl,rfl,rfl,by decide+kernel,rfl,by decide+kernel,by decide+kernel⟩
theorem B17:Bd "take_shape" "take_shape" S17 ["hall","words"]:=fun _ _ _ _ _ _=>bd2 fun _ _=>rfl
theorem C17:cSs G ["hall","words","name","fault"] (b5 S17) 20 (c9 S17)=some N6.body:=by kernel_rfl
abbrev S18:Stmt:=top 41
theorem A18:FnScope ["words","count"] ["words","count"] (b5 S18):=⟨rfl,rfl,rfl,by decide+kernel,rfl,by decide+kernel,by decide+kernel⟩
theorem B18:Bd "has_side_form" "has_side_form" S18 ["words","count"]:=fun _ _ _ _ _ _=>bd2 fun _ _=>rfl
theorem C18:cSs G ["words","count"] (b5 S18) 20 (c9 S18)=some J3.body:=by kernel_rfl
abbrev S19:Stmt:=top 42
theorem A19:FnScope ["hall","words","name","fault"] ["hall","words"] (b5 S19):=⟨rfl,rfl,rfl,by decide+kernel,rfl,by decide+kernel,by decide+kernel⟩
theorem B19:Bd "take_mark" "take_mark" S19 ["hall","words"]:=fun _ _ _ _ _ _=>bd2 fun _ _=>rfl
theorem C19:cSs G ["hall","words","name","fault"] (b5 S19) 20 (c9 S19)=some Q8.body:=by kernel_rfl
abbrev S20:Stmt:=top 43
theorem A20:FnScope ["hall","words","name","spot","fault"] ["hall","words"] (b5 S20):=⟨rfl,rfl,rfl,by decide+kernel,rfl,by decide+kernel,by decide+kernel⟩
theorem B20:Bd "take_point" "take_point" S20 ["hall","words"]:=fun _ _ _ _ _ _=>bd2 fun _ _=>rfl
theorem C20:cSs G ["hall","words","name","spot","fault"] (b5 S20) 20 (c9 S20)=some N7.body:=by kernel_rfl
abbrev S21:Stmt:=top 44
theorem A21:FnScope ["words","shapes"] ["words"] (b5 S21):=⟨rfl,rfl,rfl,by decide+kernel,rfl,by decide+kernel,by decide+kernel⟩
theorem B21:Bd "has_letter_form" "has_letter_form" S21 ["words"]:=fun _ _ _ _ _ _=>bd1 fun _=>rfl
theorem C21:cSs G ["words","shapes"] (b5 S21) 20 (c9 S21)=some E8.body:=by kernel_rfl
abbrev S22:Stmt:=top 45
theorem A22:FnScope ["hall","words","name","shapes","fault"] ["hall","words"] (b5 S22):=⟨rfl,rfl,rfl,by decide+kernel,rfl,by decide+kernel,by decide+kernel⟩
theorem B22:Bd "take_letter" "take_letter" S22 ["hall","words"]:=fun _ _ _ _ _ _=>bd2 fun _ _=>rfl
theorem C22:cSs G ["hall","words","name","shapes","fault"] (b5 S22) 20 (c9 S22)=some M3.body:=by kernel_rfl
abbrev S23:Stmt:=top 46
theorem A23:FnScope ["hall","words","name","fault"] ["hall","words"] (b5 S23):=⟨rfl,rfl,rfl,by decide+kernel,rfl,by decide+kernel,by decide+kernel⟩
theorem B23:Bd "take_gap" "take_gap" S23 ["hall","words"]:=fun _ _ _ _ _ _=>bd2 fun _ _=>rfl
theorem C23:cSs G ["hall","words","name","fault"] (b5 S23) 20 (c9 S23)=some V4.body:=by kernel_rfl
abbrev S24:Stmt:=top 47
theorem A24:FnScope ["hall","words","shapes","name","fault"] ["hall","words"] (b5 S24):=⟨rfl,rfl,rfl,by decide+kernel,rfl,by decide+kernel,by decide+kernel⟩
theorem B24:Bd "take_class" "take_class" S24 ["hall","words"]:=fun _ _ _ _ _ _=>bd2 fun _ _=>rfl
theorem C24:cSs G ["hall","words","shapes","name","fault"] (b5 S24) 20 (c9 S24)=some N9.body:=by kernel_rfl
abbrev S25:Stmt:=top 48
theorem A25:FnScope ["hall","words","name","fault"] ["hall","words"] (b5 S25):=⟨rfl,rfl,rfl,by decide+kernel,rfl,by decide+kernel,by decide+kernel⟩
theorem B25:Bd "take_feature" "take_feature" S25 ["hall","words"]:=fun _ _ _ _ _ _=>bd2 fun _ _=>rfl
theorem C25:cSs G ["hall","words","name","fault"] (b5 S25) 20 (c9 S25)=some K7.body:=by kernel_rfl
abbrev S26:Stmt:=top 49
theorem A26:FnScope ["hall","words","title","feature","parts","items","known","fault"] ["hall","words"] (b5 S26):=⟨rfl,rfl,rfl,by decide+kernel,rfl,by decide+kernel,by decide+kernel⟩
theorem B26:Bd "take_rule" "take_rule" S26 ["hall","words"]:=fun _ _ _ _ _ _=>bd2 fun _ _=>rfl
theorem C26:cSs G ["hall","words","title","feature","parts","items","known","fault"] (b5 S26) 20 (c9 S26)=some Q7.body:=by kernel_rfl
abbrev S27:Stmt:=top 50
theorem A27:FnScope ["words","parts"] ["words"] (b5 S27):=⟨rfl,rfl,rfl,by decide+kernel,rfl,by decide+kernel,by decide+kernel⟩
theorem B27:Bd "has_rule_form" "has_rule_form" S27 ["words"]:=fun _ _ _ _ _ _=>bd1 fun _=>rfl
theorem C27:cSs G ["words","parts"] (b5 S27) 20 (c9 S27)=some J4.body:=by kernel_rfl
abbrev S28:Stmt:=top 51
theorem A28:FnScope ["words","parts","partings","word"] ["words"] (b5 S28):=⟨rfl,rfl,rfl,by decide+kernel,rfl,by decide+kernel,by decide+kernel⟩
theorem B28:Bd "rule_parts" "rule_parts" S28 ["words"]:=fun _ _ _ _ _ _=>bd1 fun _=>rfl
theorem C28:cSs G ["words","parts","partings","word"] (b5 S28) 20 (c9 S28)=some O0.body:=by kernel_rfl
abbrev S29:Stmt:=top 52
theorem A29:FnScope ["hall","items"] ["hall","items"] (b5 S29):=⟨rfl,rfl,rfl,by decide+kernel,rfl,by decide+kernel,by decide+kernel⟩
theorem B29:Bd "has_items" "has_items" S29 ["hall","items"]:=fun _ _ _ _ _ _=>bd2 fun _ _=>rfl
theorem C29:cSs G ["hall","items"] (b5 S29) 20 (c9 S29)=some R4.body:=by kernel_rfl
abbrev S30:Stmt:=top 53
theorem A30:FnScope ["hall","item"] ["hall","item"] (b5 S30):=⟨rfl,rfl,rfl,by decide+kernel,rfl,by decide+kernel,by decide+kernel⟩
theorem B30:Bd "has_item" "has_item" S30 ["hall","item"]:=fun _ _ _ _ _ _=>bd2 fun _ _=>rfl
theorem C30:cSs G ["hall","item"] (b5 S30) 20 (c9 S30)=some V6.body:=by kernel_rfl
abbrev S31:Stmt:=top 54
theorem A31:FnScope ["hall","title"] ["hall","title"] (b5 S31):=⟨rfl,rfl,rfl,by decide+kernel,rfl,by decide+kernel,by decide+kernel⟩
theorem B31:Bd "has_rule" "has_rule" S31 ["hall","title"]:=fun _ _ _ _ _ _=>bd2 fun _ _=>rfl
theorem C31:cSs G ["hall","title"] (b5 S31) 20 (c9 S31)=some V5.body:=by kernel_rfl
abbrev S33:Stmt:=top 56
theorem A33:FnScope ["hall","cells"] ["hall","cells"] (b5 S33):=⟨rfl,rfl,rfl,by decide+kernel,rfl,by decide+kernel,by decide+kernel⟩
theorem B33:Bd "width_of" "width_of" S33 ["hall","cells"]:=fun _ _ _ _ _ _=>bd2 fun _ _=>rfl
theorem C33:cSs G ["hall","cells"] (b5 S33) 20 (c9 S33)=some L6.body:=by kernel_rfl
abbrev b1j:Stmt:=top 58
theorem c0X:FnScope ["_law_script","_law_k"] ["_law_script","_law_k"] (b5 b1j):=⟨rfl,rfl,rfl,by decide+kernel,rfl,by decide+kernel,by decide+kernel⟩
theorem c0G:Bd "_law_cell_at" "_law_cell_at" b1j ["_law_script","_law_k"]:=fun _ _ _ _ _ _=>bd2 fun _ _=>rfl
theorem c0p:cSs G ["_law_script","_law_k"] (b5 b1j) 20 (c9 b1j)=some D0.body:=by kernel_rfl
abbrev b1i:Stmt:=top 59
theorem c0W:FnScope ["_law_cell","_law_k"] ["_law_cell","_law_k"] (b5 b1i):=⟨rfl,rfl,rfl,by decide+kernel,rfl,by decide+kernel,by decide+kernel⟩
theorem c0F:Bd "_law_mixed" "_law_mixed" b1i ["_law_cell","_law_k"]:=fun _ _ _ _ _ _=>bd2 fun _ _=>rfl
theorem c0o:cSs G ["_law_cell","_law_k"] (b5 b1i) 20 (c9 b1i)=some o4.body:=by kernel_rfl
abbrev b1h:Stmt:=top 60
theorem c0V:FnScope ["_law_cell","_law_many","_law_letters","_law_first","_law_size","_law_place","_law_stem"] ["_law_cell","_law_many"] (b5 b1h):=⟨rfl,rfl,rfl,by decide+kernel,rfl,by decide+kernel,by decide+kernel⟩
theorem c0E:Bd "_law_names_by" "_law_names_by" b1h ["_law_cell","_law_many"]:=fun _ _ _ _ _ _=>bd2 fun _ _=>rfl
theorem c0n:cSs G ["_law_cell","_law_many","_law_letters","_law_first","_law_size","_law_place","_law_stem"] (b5 b1h) 20 (c9 b1h)=some n9.body:=by kernel_rfl
abbrev b1g:Stmt:=top 61
theorem c0U:FnScope ["_law_cell","_law_m","_law_names","_law_widths","_law_k","_law_n"] ["_law_cell"] (b5 b1g):=⟨rfl,rfl,rfl,by decide+kernel,rfl,by decide+kernel,by decide+kernel⟩
theorem c0D:Bd "_law_shapes_by" "_law_shapes_by" b1g ["_law_cell"]:=fun _ _ _ _ _ _=>bd1 fun _=>rfl
theorem c0m:cSs G ["_law_cell","_law_m","_law_names","_law_widths","_law_k","_law_n"] (b5 b1g) 20 (c9 b1g)=some v8.body:=by kernel_rfl
abbrev b1f:Stmt:=top 62
theorem c0T:FnScope ["_law_m"] ["_law_m"] (b5 b1f):=⟨rfl,rfl,rfl,by decide+kernel,rfl,by decide+kernel,by decide+kernel⟩
theorem c0C:Bd "_law_spot_by" "_law_spot_by" b1f ["_law_m"]:=fun _ _ _ _ _ _=>bd1 fun _=>rfl
theorem c0l:cSs G ["_law_m"] (b5 b1f) 20 (c9 b1f)=some u7.body:=by kernel_rfl
abbrev b1e:Stmt:=top 63
theorem c0S:FnScope ["_law_cell","_law_shapes","_law_marks","_law_k","_law_m","_law_side"] ["_law_cell","_law_shapes"] (b5 b1e):=⟨rfl,rfl,rfl,by decide+kernel,rfl,by decide+kernel,by decide+kernel⟩
theorem c0B:Bd "_law_marks_by" "_law_marks_by" b1e ["_law_cell","_law_shapes"]:=fun _ _ _ _ _ _=>bd2 fun _ _=>rfl
theorem c0k:cSs G ["_law_cell","_law_shapes","_law_marks","_law_k","_law_m","_law_side"] (b5 b1e) 20 (c9 b1e)=some x4.body:=by kernel_rfl
abbrev b1d:Stmt:=top 64
theorem c0R:FnScope ["_law_cell","_law_shapes","_law_points","_law_k","_law_m","_law_side"] ["_law_cell","_law_shapes"] (b5 b1d):=⟨rfl,rfl,rfl,by decide+kernel,rfl,by decide+kernel,by decide+kernel⟩
theorem c0A:Bd "_law_points_by" "_law_points_by" b1d ["_law_cell","_law_shapes"]:=fun _ _ _ _ _ _=>bd2 fun _ _=>rfl
theorem c0j:cSs G ["_law_cell","_law_shapes","_law_points","_law_k","_law_m","_law_side"] (b5 b1d) 20 (c9 b1d)=some w6.body:=by kernel_rfl
abbrev b1c:Stmt:=top 65
theorem c0Q:FnScope ["_law_cell","_law_shapes","_law_m","_law_names","_law_letters","_law_k","_law_n","_law_join","_law_many","_law_faces"] ["_law_cell","_law_shapes"] (b5 b1c):=⟨rfl,rfl,rfl,by decide+kernel,rfl,by decide+kernel,by decide+kernel⟩
theorem c0z:Bd "_law_letters_by" "_law_letters_by" b1c ["_law_cell","_law_shapes"]:=fun _ _ _ _ _ _=>bd2 fun _ _=>rfl
theorem c0i:cSs G ["_law_cell","_law_shapes","_law_m","_law_names","_law_letters","_law_k","_law_n","_law_join","_law_many","_law_faces"] (b5 b1c) 20 (c9 b1c)=some u9.body:=by kernel_rfl
abbrev b1b:Stmt:=top 66
theorem c0P:FnScope ["_law_cell","_law_shapes","_law_m","_law_classes","_law_k","_law_name","_law_n","_law_some"] ["_law_cell","_law_shapes"] (b5 b1b):=⟨rfl,rfl,rfl,by decide+kernel,rfl,by decide+kernel,by decide+kernel⟩
theorem c0y:Bd "_law_classes_by" "_law_classes_by" b1b ["_law_cell","_law_shapes"]:=fun _ _ _ _ _ _=>bd2 fun _ _=>rfl
theorem c0h:cSs G ["_law_cell","_law_shapes","_law_m","_law_classes","_law_k","_law_name","_law_n","_law_some"] (b5 b1b) 20 (c9 b1b)=some v0.body:=by kernel_rfl
abbrev b1a:Stmt:=top 67
theorem c0O:FnScope ["_law_m","_law_many","_law_shapes","_law_letters","_law_classes","_law_items","_law_k","_law_n","_law_faces"] ["_law_m","_law_many","_law_shapes","_law_letters","_law_classes"] (b5 b1a):=⟨rfl,rfl,rfl,by decide+kernel,rfl,by decide+kernel,by decide+kernel⟩
theorem c0x:Bd "_law_items_by" "_law_items_by" b1a ["_law_m","_law_many","_law_shapes","_law_letters","_law_classes"]:=fun _ _ _ _ _ _=>bd5 fun _ _ _ _ _=>rfl
theorem c0g:cSs G ["_law_m","_law_many","_law_shapes","_law_letters","_law_classes","_law_items","_law_k","_law_n","_law_faces"] (b5 b1a) 20 (c9 b1a)=some v5.body:=by kernel_rfl
abbrev b0Z:Stmt:=top 68
theorem c0N:FnScope ["_law_cell","_law_many","_law_shapes","_law_letters","_law_classes","_law_features","_law_rules","_law_k","_law_title","_law_m","_law_n","_law_sizes","_law_before","_law_core","_law_after","_law_size","_law_told"] ["_law_cell","_law_many","_law_shapes","_law_letters","_law_classes","_law_features"] (b5 b0Z):=⟨rfl,rfl,rfl,by decide+kernel,rfl,by decide+kernel,by decide+kernel⟩
theorem c0w:Bd "_law_rules_by" "_law_rules_by" b0Z ["_law_cell","_law_many","_law_shapes","_law_letters","_law_classes","_law_features"]:=fun _ _ _ _ _ _=>bd6 fun _ _ _ _ _ _=>rfl
theorem c0f:cSs G ["_law_cell","_law_many","_law_shapes","_law_letters","_law_classes","_law_features","_law_rules","_law_k","_law_title","_law_m","_law_n","_law_sizes","_law_before","_law_core","_law_after","_law_size","_law_told"] (b5 b0Z) 20 (c9 b0Z)=some t7.body:=by kernel_rfl
abbrev b0Y:Stmt:=top 69
theorem c0M:FnScope ["_law_script","_law_many","_law_cell","_law_shapes","_law_letters","_law_classes","_law_m","_law_features","_law_rules","_law_gaps","_law_marks","_law_points"] ["_law_script","_law_many"] (b5 b0Y):=⟨rfl,rfl,rfl,by decide+kernel,rfl,by decide+kernel,by decide+kernel⟩
theorem c0v:Bd "_law_hall_by" "_law_hall_by" b0Y ["_law_script","_law_many"]:=fun _ _ _ _ _ _=>bd2 fun _ _=>rfl
theorem c0e:cSs G ["_law_script","_law_many","_law_cell","_law_shapes","_law_letters","_law_classes","_law_m","_law_features","_law_rules","_law_gaps","_law_marks","_law_points"] (b5 b0Y) 20 (c9 b0Y)=some F8.body:=by kernel_rfl
abbrev b0X:Stmt:=top 70
theorem c0L:FnScope ["_law_spot"] ["_law_spot"] (b5 b0X):=⟨rfl,rfl,rfl,by decide+kernel,rfl,by decide+kernel,by decide+kernel⟩
theorem c0u:Bd "_law_pair_text" "_law_pair_text" b0X ["_law_spot"]:=fun _ _ _ _ _ _=>bd1 fun _=>rfl
theorem c0d:cSs G ["_law_spot"] (b5 b0X) 20 (c9 b0X)=some w8.body:=by kernel_rfl
abbrev b0W:Stmt:=top 71
theorem c0K:FnScope ["_law_rule","_law_words"] ["_law_rule"] (b5 b0W):=⟨rfl,rfl,rfl,by decide+kernel,rfl,by decide+kernel,by decide+kernel⟩
theorem c0t:Bd "_law_rule_text" "_law_rule_text" b0W ["_law_rule"]:=fun _ _ _ _ _ _=>bd1 fun _=>rfl
theorem c0c:cSs G ["_law_rule","_law_words"] (b5 b0W) 20 (c9 b0W)=some w5.body:=by kernel_rfl
abbrev b0V:Stmt:=top 72
theorem c0J:FnScope ["_law_h","_law_name","_law_rows","_law_side","_law_own","_law_past","_law_spots","_law_join","_law_way","_law_faces"] ["_law_h"] (b5 b0V):=⟨rfl,rfl,rfl,by decide+kernel,rfl,by decide+kernel,by decide+kernel⟩
theorem c0s:Bd "_law_hall_text" "_law_hall_text" b0V ["_law_h"]:=fun _ _ _ _ _ _=>bd1 fun _=>rfl
theorem c0b:cSs G ["_law_h","_law_name","_law_rows","_law_side","_law_own","_law_past","_law_spots","_law_join","_law_way","_law_faces"] (b5 b0V) 20 (c9 b0V)=some C0.body:=by kernel_rfl
abbrev b0U:Stmt:=top 73
theorem c0I:FnScope ["_law_found"] ["_law_found"] (b5 b0U):=⟨rfl,rfl,rfl,by decide+kernel,rfl,by decide+kernel,by decide+kernel⟩
theorem c0r:Bd "_law_whole" "_law_whole" b0U ["_law_found"]:=fun _ _ _ _ _ _=>bd1 fun _=>rfl
theorem c0a:cSs G ["_law_found"] (b5 b0U) 20 (c9 b0U)=some G3.body:=by kernel_rfl
abbrev b0T:Stmt:=top 74
theorem c0H:FnScope ["_law_script","_law_at","_law_shapes","_law_cells","_law_many","_law_k","_law_cell","_law_m","_law_size"] ["_law_script","_law_at","_law_shapes"] (b5 b0T):=⟨rfl,rfl,rfl,by decide+kernel,rfl,by decide+kernel,by decide+kernel⟩
theorem c0q:Bd "_law_cells_by" "_law_cells_by" b0T ["_law_script","_law_at","_law_shapes"]:=fun _ _ _ _ _ _=>bd3 fun _ _ _=>rfl
theorem b9Z:cSs G ["_law_script","_law_at","_law_shapes","_law_cells","_law_many","_law_k","_law_cell","_law_m","_law_size"] (b5 b0T) 20 (c9 b0T)=some E2.body:=by kernel_rfl
abbrev a4M:Stmt:=top 75
theorem b8Q:FnScope ["_law_script","_law_h","_law_hall","_law_widths","_law_marks","_law_cells","_law_due","_law_cut","_law_handed","_law_found"] ["_law_script"] (b5 a4M):=⟨rfl,rfl,rfl,by decide+kernel,rfl,by decide+kernel,by decide+kernel⟩
theorem b6j:Bd "law" "law" a4M ["_law_script"]:=fun _ _ _ _ _ _=>bd1 fun _=>rfl
theorem b8P:cSs G ["_law_script","_law_h","_law_hall","_law_widths","_law_marks","_law_cells","_law_due","_law_cut","_law_handed","_law_found"] (b5 a4M) 20 (c9 a4M)=some a5D.body:=by kernel_rfl
theorem AH:FnScope ["self"] ["self"] (b5 SH):=⟨rfl,rfl,rfl,by decide+kernel,rfl,by decide+kernel,by decide+kernel⟩
theorem BH:Bd "__init__" "Hall.__init__" SH ["self"]:=fun _ _ _ _ _ _=>bd1 fun _=>rfl
theorem CH:cSs G ["self"] (b5 SH) 20 (c9 SH)=some M6.body:=by kernel_rfl
end K41
namespace K41
open PySem L2 EV
open PySem.W (nsIn codeIn keepIn findIn)
section
variable{K:PySem.W.Frag}{x:Str}
structure DfE(K:PySem.W.Frag)(x:Str)(st:Stmt):Prop where
 ex:∃f fd,nsIn K mainGlobals x=some (some (.ref f))/\Fun K x x st f fd
theorem b7G{st:Stmt}{f:Addr}{oc:Value}{od an:Option Addr}{osl:Array (Option Value)}{kV doc pm cdv ct:Value}(e1:nsIn K mainGlobals x=some (some (.ref f)))(e2:K.lookup f=some ⟨oc,od,.func (PySem.W.fnOf x x (V7 st) (c9 st) (b5 st) .none kV doc pm an cdv ct),osl⟩)(e3:codeIn K cdv x=true)(e4:keepIn K (.ref f)=true):DfE K x st:=⟨f,_,e1,b0f e2 e3 e4⟩
structure StrE(K:PySem.W.Frag)(x y:Str):Prop where
 ex:∃t,nsIn K mainGlobals x=some (some (.str y t))
theorem b3R{y:Str}{t:Tok}(e1:nsIn K mainGlobals x=some (some (.str y t))):StrE K x y:=⟨t,e1⟩
structure IntE(K:PySem.W.Frag)(x:Str)(i:Int):Prop where
 ex:∃t,nsIn K mainGlobals x=some (some (.int i t))
theorem b5e{i:Int}{t:Tok}(e1:nsIn K mainGlobals x=some (some (.int i t))):IntE K x i:=⟨t,e1⟩
structure TupE(K:PySem.W.Frag)(x:Str)(vs:List V):Prop where
 ex:∃a,nsIn K mainGlobals x=some (some (.ref a))/\∀H,SqT K H a vs
theorem b1q{a:Addr}{d:Option Addr}{n:Nat}{sl:Array (Option Value)}{y z:Str}{t u:Tok}(e1:nsIn K mainGlobals x=some (some (.ref a)))(e2:K.lookup a=some ⟨.type "tuple",d,.seq #[.str y t,.str z u] n,sl⟩):TupE K x [.str y,.str z]:=
 ⟨a,e1,fun H=>.inr ⟨_,_,_,e2,rfl,rfl,by show 2<=sizeLine;decide,.cons ⟨_,rfl⟩ (.cons ⟨_,rfl⟩ .nil)⟩⟩
theorem b1p{a:Addr}{d:Option Addr}{n:Nat}{sl:Array (Option Value)}{y z v:Str}{t u r:Tok}(e1:nsIn K mainGlobals x=some (some (.ref a)))(e2:K.lookup a=some ⟨.type "tuple",d,.seq #[.str y t,.str z u,.str v r] n,sl⟩):TupE K x [.str y,.str z,.str v]:=
 ⟨a,e1,fun H=>.inr ⟨_,_,_,e2,rfl,rfl,by show 3<=sizeLine;decide,.cons ⟨_,rfl⟩ (.cons ⟨_,rfl⟩ (.cons ⟨_,rfl⟩ .nil))⟩⟩
structure DicE(K:PySem.W.Frag)(P:Program)(w:World)(x:Str)(gs:List (Key×V)):Prop where
 ex:∃a,nsIn K mainGlobals x=some (some (.ref a))/\a8u P w K a gs
theorem b3b{P:Program}{w:World}{a:Addr}{ep:Nat}{h1 h2 h3 h4:Int}{y1 y2 y3 y4:Str}{i1 i2 i3 i4:Int}{t1 t2 t3 t4 u1 u2 u3 u4:Tok}(e1:nsIn K mainGlobals x=some (some (.ref a)))
 (e2:K.lookup a=some ⟨.type "dict",none,.dict #[⟨h1,.str y1 t1,.int i1 u1⟩,⟨h2,.str y2 t2,.int i2 u2⟩,⟨h3,.str y3 t3,.int i3 u3⟩,⟨h4,.str y4 t4,.int i4 u4⟩] ep,#[]⟩) (ha:(a==sysModules)=false)
 (q1:h1=hashStr w y1) (q2:h2=hashStr w y2) (q3:h3=hashStr w y3) (q4:h4=hashStr w y4) (nd:([.inr y1,.inr y2,.inr y3,.inr y4]:List Key).Nodup):DicE K P w x [(.inr y1,.int i1),(.inr y2,.int i2),(.inr y3,.int i3),(.inr y4,.int i4)]:=by
 refine⟨a,e1,ha,[(.inr y1,.int i1 u1),(.inr y2,.int i2 u2),(.inr y3,.int i3 u3),(.inr y4,.int i4 u4)],?_,fun h kin=>⟨_,_,_,kin a _ e2,⟨rfl,rfl,rfl⟩,rfl,?_,?_,nd⟩⟩
 · exact .cons ⟨rfl,_,rfl⟩ (.cons ⟨rfl,_,rfl⟩ (.cons ⟨rfl,_,rfl⟩ (.cons ⟨rfl,_,rfl⟩ .nil)))
 · intro e he;simp only[List.mem_toArray,List.mem_cons,List.not_mem_nil,or_false] at he
   rcases he with rfl|rfl|rfl|rfl
   · exact⟨.inr y1,strKind_is P w y1 t1,q1⟩
   · exact⟨.inr y2,strKind_is P w y2 t2,q2⟩
   · exact⟨.inr y3,strKind_is P w y3 t3,q3⟩
   · exact⟨.inr y4,strKind_is P w y4 t4,q4⟩
 · exact .cons (strKind_is P w y1 t1) rfl (.cons (strKind_is P w y2 t2) rfl (.cons (strKind_is P w y3 t3) rfl (.cons (strKind_is P w y4 t4) rfl .nil)))
structure HallE(K:PySem.W.Frag)(C:Addr):Prop where
 ex:∃f fd,Mk K C f/\Fun K "__init__" "Hall.__init__" SH f fd
theorem b2E{C f:Addr}{oc:Value}{od an:Option Addr}{osl:Array (Option Value)}{kV doc pm cdv ct:Value}(m1:PySem.W.makesIn K C=true)(m2:findIn K (.ref C) "__init__"=some (some (.ref f)))(m3:PySem.W.isFn K (.ref f)=true)(m4:keepIn K (.ref C)=true)
 (e2:K.lookup f=some ⟨oc,od,.func (PySem.W.fnOf "__init__" "Hall.__init__" (V7 SH) (c9 SH) (b5 SH) .none kV doc pm an cdv ct),osl⟩) (e3:codeIn K cdv "Hall.__init__"=true) (e4:keepIn K (.ref f)=true):HallE K C:=⟨f,_,⟨m1,m2,m3,m4⟩,b0f e2 e3 e4⟩
end
theorem J6{α:Type}{x y:Str}{a b:α}{l:List (Str×α)}(h:((y,a)::l).lookup x=some b):(x=y/\a=b)∨l.lookup x=some b:=by
 rw[List.lookup_cons] at h
 split at h
 · rename_i e;exact .inl ⟨eq_of_beq e,Option.some.inj h⟩
 · exact .inr h
theorem a5p{α:Type}{x:Str}{b:α}(h:([]:List (Str×α)).lookup x=some b):False:=by simp at h
section
variable{K:PySem.W.Frag}{P:Program}{w:World}{h:Heap}{mg:Str->Option Value}
theorem row{x:Str}{st:Stmt}{id np:Nat}{N ps:List Str}{fn:Fn}(X:K.In h)(Gg:h.Ns mainGlobals mg)(d:DfE K x st)(S:FnScope N ps (b5 st))
 (B:Bd x x st ps)
 (hp:ps.length=np) (hF:F id=some fn) (h1:fn.np=np) (h2:fn.ns=N.length) (C:cSs G N (b5 st) 20 (c9 st)=some fn.body):∃f fd st N ps,mg x=some (.ref f)/\RowOk K G F x x id np f fd st N ps:=by
 obtain⟨f,fd,e,F⟩:=d.ex;exact⟨f,fd,st,N,ps,PySem.W.mg_of X Gg e,F,S,F.binds B,hp,fn,hF,h1,h2,C⟩
def a4N(K:PySem.W.Frag)(mg:Str->Option Value):List (Str×Nat×Nat)->Prop
 |[]=>True
 |p::l=>(∃f fd st N ps,mg p.1=some (.ref f)/\RowOk K G F p.1 p.1 p.2.1 p.2.2 f fd st N ps)/\a4N K mg l
theorem o0{p:Str×Nat×Nat}{l:List (Str×Nat×Nat)}(h:∃f fd st N ps,mg p.1=some (.ref f)/\RowOk K G F p.1 p.1 p.2.1 p.2.2 f fd st N ps)(r:a4N K mg l):a4N K mg (p::l):=⟨h,r⟩
theorem a6P:∀{l:List (Str×Nat×Nat)},a4N K mg l->∀x id np,l.lookup x=some (id,np)->∃f fd st N ps,mg x=some (.ref f)/\RowOk K G F x x id np f fd st N ps
 |[],_,x,id,np,h=>(a5p h).elim
 |(y,a,b)::l,r,x,id,np,h=>by
  rcases J6 h with⟨rfl,e⟩|h
  · cases e;exact r.1
  · exact a6P r.2 x id np h
variable{c6:Addr}(k6:nsIn K mainGlobals "Hall"=some (some (.ref c6)))(f1:DfE K "words_of" S1)(f2:DfE K "made_of" S2)(f3:DfE K "is_name" S3)(f4:DfE K "is_number" S4)(f5:DfE K "is_signed_number" S5)(f6:DfE K "class_of_item" S6)(f7:DfE K "is_class_item" S7)(f8:DfE K "is_item" S8)(f9:DfE K "all_names" S9)(f10:DfE K "all_signed_numbers" S10)(f11:DfE K "all_items" S11)(f12:DfE K "read_hall" S12)(f13:DfE K "take_row" S13)(f14:DfE K "first_due" S14)(f15:DfE K "has_shapes" S15)(f16:DfE K "pair_of" S16)(f17:DfE K "take_shape" S17)(f18:DfE K "has_side_form" S18)(f19:DfE K "take_mark" S19)(f20:DfE K "take_point" S20)(f21:DfE K "has_letter_form" S21)(f22:DfE K "take_letter" S22)(f23:DfE K "take_gap" S23)(f24:DfE K "take_class" S24)(f25:DfE K "take_feature" S25)(f26:DfE K "take_rule" S26)(f27:DfE K "has_rule_form" S27)(f28:DfE K "rule_parts" S28)(f29:DfE K "has_items" S29)(f30:DfE K "has_item" S30)(f31:DfE K "has_rule" S31)(f33:DfE K "width_of" S33)(f201:DfE K "_law_cell_at" b1j)(f202:DfE K "_law_mixed" b1i)(f203:DfE K "_law_names_by" b1h)(f204:DfE K "_law_shapes_by" b1g)(f205:DfE K "_law_spot_by" b1f)(f206:DfE K "_law_marks_by" b1e)(f207:DfE K "_law_points_by" b1d)(f208:DfE K "_law_letters_by" b1c)(f209:DfE K "_law_classes_by" b1b)(f210:DfE K "_law_items_by" b1a)(f211:DfE K "_law_rules_by" b0Z)(f212:DfE K "_law_hall_by" b0Y)(f213:DfE K "_law_pair_text" b0X)(f214:DfE K "_law_rule_text" b0W)(f215:DfE K "_law_hall_text" b0V)(f216:DfE K "_law_whole" b0U)(f217:DfE K "_law_cells_by" b0T)(f218:DfE K "law" a4M)(c_FIGURES:StrE K "FIGURES" "0123456789")(c_NAME_SIGNS:StrE K "NAME_SIGNS" "abcdefghijklmnopqrstuvwxyz0123456789")(c_CLASS_SIGN:StrE K "CLASS_SIGN" "@")(c_LONGEST_NAME:IntE K "LONGEST_NAME" 12)(c_LONGEST_NUMBER:IntE K "LONGEST_NUMBER" 5)(c_MOST_SHAPES:IntE K "MOST_SHAPES" 60)(c_MOST_LETTERS:IntE K "MOST_LETTERS" 24)(c_MOST_CLASSES:IntE K "MOST_CLASSES" 20)(c_MOST_FEATURES:IntE K "MOST_FEATURES" 10)(c_MOST_RULES:IntE K "MOST_RULES" 30)(c_MOST_IN_CLASS:IntE K "MOST_IN_CLASS" 20)(c_MOST_AROUND:IntE K "MOST_AROUND" 3)(c_MOST_IN_CORE:IntE K "MOST_IN_CORE" 4)(c_MOST_TOLD:IntE K "MOST_TOLD" 3)(t_SIDES:TupE K "SIDES" [.str "above",.str "below"])(t_SWITCHES:TupE K "SWITCHES" [.str "on",.str "off"])(t_WAYS:TupE K "WAYS" [.str "left",.str "right",.str "either"])(dJ:DicE K P w "SHAPES_OF_JOIN" [(.inr "none",.int 1),(.inr "clear",.int 1),(.inr "back",.int 2),(.inr "both",.int 4)])(hall:HallE K c6)(cl:Cls K c6)(n_shapes:findIn K (.ref c6) "shapes"=some none)(n_marks:findIn K (.ref c6) "marks"=some none)(n_points:findIn K (.ref c6) "points"=some none)(n_letters:findIn K (.ref c6) "letters"=some none)(n_gaps:findIn K (.ref c6) "gaps"=some none)(n_classes:findIn K (.ref c6) "classes"=some none)(n_features:findIn K (.ref c6) "features"=some none)(n_rules:findIn K (.ref c6) "rules"=some none)(b_len:nsIn K mainGlobals "len"=some none)(b_str:nsIn K mainGlobals "str"=some none)(b_int:nsIn K mainGlobals "int"=some none)(b_list:nsIn K mainGlobals "list"=some none)(b_tuple:nsIn K mainGlobals "tuple"=some none)(b_all:nsIn K mainGlobals "all"=some none)(b_any:nsIn K mainGlobals "any"=some none)(b_isinstance:nsIn K mainGlobals "isinstance"=some none)(b_bool:nsIn K mainGlobals "bool"=some none)(b_range:nsIn K mainGlobals "range"=some none)(b_enumerate:nsIn K mainGlobals "enumerate"=some none)(b_zip:nsIn K mainGlobals "zip"=some none)(b_sum:nsIn K mainGlobals "sum"=some none)(b_max:nsIn K mainGlobals "max"=some none)(b_dict:nsIn K mainGlobals "dict"=some none)
include k6 f1 f2 f3 f4 f5 f6 f7 f8 f9 f10 f11 f12 f13 f14 f15 f16 f17 f18 f19 f20 f21 f22 f23 f24 f25 f26 f27 f28 f29 f30 f31 f33 f201 f202 f203 f204 f205 f206 f207 f208 f209 f210 f211 f212 f213 f214 f215 f216 f217 f218 c_FIGURES c_NAME_SIGNS c_CLASS_SIGN c_LONGEST_NAME c_LONGEST_NUMBER c_MOST_SHAPES c_MOST_LETTERS c_MOST_CLASSES c_MOST_FEATURES c_MOST_RULES c_MOST_IN_CLASS c_MOST_AROUND c_MOST_IN_CORE c_MOST_TOLD t_SIDES t_SWITCHES t_WAYS dJ hall cl n_shapes n_marks n_points n_letters n_gaps n_classes n_features n_rules b_len b_str b_int b_list b_tuple b_all b_any b_isinstance b_bool b_range b_enumerate b_zip b_sum b_max b_dict
theorem b1E(X:K.In h)(Gg:h.Ns mainGlobals mg):Stat P w ⟨K,fun _=>c6,[6],[]⟩ G ct F mg where
 scal:=fun x d hx=>by
  have S:∀{x y:Str},StrE K x y->∃u v,mg x=some u/\n4 v u/\∀m H,Rp m H (.str y) v:=fun e=>by
   obtain⟨t,e⟩:=e.ex;exact⟨_,.str _,PySem.W.mg_of X Gg e,⟨t,rfl⟩,fun _ _=>rfl⟩
  have I:∀{x:Str} {i:Int},IntE K x i->∃u v,mg x=some u/\n4 v u/\∀m H,Rp m H (.int i) v:=fun e=>by
   obtain⟨t,e⟩:=e.ex;exact⟨_,.int _,PySem.W.mg_of X Gg e,⟨t,rfl⟩,fun _ _=>rfl⟩
  unfold G se at hx
  simp only at hx
  rcases J6 hx with⟨rfl,rfl⟩|hx
  · exact S c_FIGURES
  rcases J6 hx with⟨rfl,rfl⟩|hx
  · exact S c_NAME_SIGNS
  rcases J6 hx with⟨rfl,rfl⟩|hx
  · exact S c_CLASS_SIGN
  rcases J6 hx with⟨rfl,rfl⟩|hx
  · exact I c_LONGEST_NAME
  rcases J6 hx with⟨rfl,rfl⟩|hx
  · exact I c_LONGEST_NUMBER
  rcases J6 hx with⟨rfl,rfl⟩|hx
  · exact I c_MOST_SHAPES
  rcases J6 hx with⟨rfl,rfl⟩|hx
  · exact I c_MOST_LETTERS
  rcases J6 hx with⟨rfl,rfl⟩|hx
  · exact I c_MOST_CLASSES
  rcases J6 hx with⟨rfl,rfl⟩|hx
  · exact I c_MOST_FEATURES
  rcases J6 hx with⟨rfl,rfl⟩|hx
  · exact I c_MOST_RULES
  rcases J6 hx with⟨rfl,rfl⟩|hx
  · exact I c_MOST_IN_CLASS
  rcases J6 hx with⟨rfl,rfl⟩|hx
  · exact I c_MOST_AROUND
  rcases J6 hx with⟨rfl,rfl⟩|hx
  · exact I c_MOST_IN_CORE
  rcases J6 hx with⟨rfl,rfl⟩|hx
  · exact I c_MOST_TOLD
  exact(a5p hx).elim
 tups:=fun x ds hx=>by
  unfold G at hx
  simp only at hx
  rcases J6 hx with⟨rfl,rfl⟩|hx
  · obtain⟨a,e,s⟩:=t_SIDES.ex;exact⟨a,_,PySem.W.mg_of X Gg e,s,fun _ _=>⟨.str "above",_,rfl,rfl,⟨.str "below",_,rfl,rfl,rfl⟩⟩⟩
  rcases J6 hx with⟨rfl,rfl⟩|hx
  · obtain⟨a,e,s⟩:=t_WAYS.ex;exact⟨a,_,PySem.W.mg_of X Gg e,s,fun _ _=>⟨.str "left",_,rfl,rfl,⟨.str "right",_,rfl,rfl,⟨.str "either",_,rfl,rfl,rfl⟩⟩⟩⟩
  rcases J6 hx with⟨rfl,rfl⟩|hx
  · obtain⟨a,e,s⟩:=t_SWITCHES.ex;exact⟨a,_,PySem.W.mg_of X Gg e,s,fun _ _=>⟨.str "on",_,rfl,rfl,⟨.str "off",_,rfl,rfl,rfl⟩⟩⟩
  exact(a5p hx).elim
 dicts:=fun x kvs hx=>by
  unfold G at hx
  simp only at hx
  rcases J6 hx with⟨rfl,rfl⟩|hx
  · obtain⟨a,e,d⟩:=dJ.ex;exact⟨a,_,PySem.W.mg_of X Gg e,d,fun _ _=>.cons ⟨rfl,rfl⟩ (.cons ⟨rfl,rfl⟩ (.cons ⟨rfl,rfl⟩ (.cons ⟨rfl,rfl⟩ .nil)))⟩
  exact(a5p hx).elim
 blt:=fun x hx=>by
  rw[List.contains_iff_mem] at hx;unfold G at hx;simp only[List.mem_cons,List.not_mem_nil,or_false] at hx
  rcases hx with rfl|rfl|rfl|rfl|rfl|rfl|rfl|rfl|rfl|rfl|rfl|rfl|rfl|rfl|rfl
  · exact PySem.W.ns_none_of X Gg b_len
  · exact PySem.W.ns_none_of X Gg b_str
  · exact PySem.W.ns_none_of X Gg b_int
  · exact PySem.W.ns_none_of X Gg b_list
  · exact PySem.W.ns_none_of X Gg b_tuple
  · exact PySem.W.ns_none_of X Gg b_all
  · exact PySem.W.ns_none_of X Gg b_any
  · exact PySem.W.ns_none_of X Gg b_isinstance
  · exact PySem.W.ns_none_of X Gg b_bool
  · exact PySem.W.ns_none_of X Gg b_range
  · exact PySem.W.ns_none_of X Gg b_enumerate
  · exact PySem.W.ns_none_of X Gg b_zip
  · exact PySem.W.ns_none_of X Gg b_sum
  · exact PySem.W.ns_none_of X Gg b_max
  · exact PySem.W.ns_none_of X Gg b_dict
 fn:=fun x id np hx=>a6P (l:=fns) (o0 (row X Gg f1 A1 B1 rfl rfl rfl rfl C1) (o0 (row X Gg f2 A2 B2 rfl rfl rfl rfl C2) (o0 (row X Gg f3 A3 B3 rfl rfl rfl rfl C3) (o0 (row X Gg f4 A4 B4 rfl rfl rfl rfl C4) (o0 (row X Gg f5 A5 B5 rfl rfl rfl rfl C5) (o0 (row X Gg f6 A6 B6 rfl rfl rfl rfl C6) (o0 (row X Gg f7 A7 B7 rfl rfl rfl rfl C7) (o0 (row X Gg f8 A8 B8 rfl rfl rfl rfl C8) (o0 (row X Gg f9 A9 B9 rfl rfl rfl rfl C9) (o0 (row X Gg f10 A10 B10 rfl rfl rfl rfl C10) (o0 (row X Gg f11 A11 B11 rfl rfl rfl rfl C11) (o0 (row X Gg f12 A12 B12 rfl rfl rfl rfl C12) (o0 (row X Gg f13 A13 B13 rfl rfl rfl rfl C13) (o0 (row X Gg f14 A14 B14 rfl rfl rfl rfl C14) (o0 (row X Gg f15 A15 B15 rfl rfl rfl rfl C15) (o0 (row X Gg f16 A16 B16 rfl rfl rfl rfl C16) (o0 (row X Gg f17 A17 B17 rfl rfl rfl rfl C17) (o0 (row X Gg f18 A18 B18 rfl rfl rfl rfl C18) (o0 (row X Gg f19 A19 B19 rfl rfl rfl rfl C19) (o0 (row X Gg f20 A20 B20 rfl rfl rfl rfl C20) (o0 (row X Gg f21 A21 B21 rfl rfl rfl rfl C21) (o0 (row X Gg f22 A22 B22 rfl rfl rfl rfl C22) (o0 (row X Gg f23 A23 B23 rfl rfl rfl rfl C23) (o0 (row X Gg f24 A24 B24 rfl rfl rfl rfl C24) (o0 (row X Gg f25 A25 B25 rfl rfl rfl rfl C25) (o0 (row X Gg f26 A26 B26 rfl rfl rfl rfl C26) (o0 (row X Gg f27 A27 B27 rfl rfl rfl rfl C27) (o0 (row X Gg f28 A28 B28 rfl rfl rfl rfl C28) (o0 (row X Gg f29 A29 B29 rfl rfl rfl rfl C29) (o0 (row X Gg f30 A30 B30 rfl rfl rfl rfl C30) (o0 (row X Gg f31 A31 B31 rfl rfl rfl rfl C31) (o0 (row X Gg f33 A33 B33 rfl rfl rfl rfl C33) (o0 (row X Gg f201 c0X c0G rfl rfl rfl rfl c0p) (o0 (row X Gg f202 c0W c0F rfl rfl rfl rfl c0o) (o0 (row X Gg f203 c0V c0E rfl rfl rfl rfl c0n) (o0 (row X Gg f204 c0U c0D rfl rfl rfl rfl c0m) (o0 (row X Gg f205 c0T c0C rfl rfl rfl rfl c0l) (o0 (row X Gg f206 c0S c0B rfl rfl rfl rfl c0k) (o0 (row X Gg f207 c0R c0A rfl rfl rfl rfl c0j) (o0 (row X Gg f208 c0Q c0z rfl rfl rfl rfl c0i) (o0 (row X Gg f209 c0P c0y rfl rfl rfl rfl c0h) (o0 (row X Gg f210 c0O c0x rfl rfl rfl rfl c0g) (o0 (row X Gg f211 c0N c0w rfl rfl rfl rfl c0f) (o0 (row X Gg f212 c0M c0v rfl rfl rfl rfl c0e) (o0 (row X Gg f213 c0L c0u rfl rfl rfl rfl c0d) (o0 (row X Gg f214 c0K c0t rfl rfl rfl rfl c0c) (o0 (row X Gg f215 c0J c0s rfl rfl rfl rfl c0b) (o0 (row X Gg f216 c0I c0r rfl rfl rfl rfl c0a) (o0 (row X Gg f217 c0H c0q rfl rfl rfl rfl b9Z) (o0 (row X Gg f218 b8Q b6j rfl rfl rfl rfl b8P) (True.intro))))))))))))))))))))))))))))))))))))))))))))))))))) x id np hx
 obj:=fun x k hx=>by
  unfold G at hx
  simp only at hx
  rcases J6 hx with⟨rfl,rfl⟩|hx
  · obtain⟨f,fd,M,F⟩:=hall.ex;exact⟨by simp,PySem.W.mg_of X Gg k6,f,fd,SH,["self"],["self"],"Hall.__init__",M,F,AH,F.binds BH,rfl,M6,rfl,rfl,rfl,CH⟩
  exact(a5p hx).elim
 att:=fun k hk=>by
  refine⟨cl,fun f hf=>?_⟩
  rw[List.contains_iff_mem] at hf;unfold G at hf;simp only[List.mem_cons,List.not_mem_nil,or_false] at hf
  rcases hf with rfl|rfl|rfl|rfl|rfl|rfl|rfl|rfl
  · exact n_shapes
  · exact n_marks
  · exact n_points
  · exact n_letters
  · exact n_gaps
  · exact n_classes
  · exact n_features
  · exact n_rules
theorem b1F:∃cA,DfE K "law" a4M/\∀{h:Heap} {mg:Str->Option Value},K.In h->h.Ns mainGlobals mg->Stat P w ⟨K,cA,[6],[]⟩ G ct F mg:=⟨_,f218,fun X Gg=>b1E k6 f1 f2 f3 f4 f5 f6 f7 f8 f9 f10 f11 f12 f13 f14 f15 f16 f17 f18 f19 f20 f21 f22 f23 f24 f25 f26 f27 f28 f29 f30 f31 f33 f201 f202 f203 f204 f205 f206 f207 f208 f209 f210 f211 f212 f213 f214 f215 f216 f217 f218 c_FIGURES c_NAME_SIGNS c_CLASS_SIGN c_LONGEST_NAME c_LONGEST_NUMBER c_MOST_SHAPES c_MOST_LETTERS c_MOST_CLASSES c_MOST_FEATURES c_MOST_RULES c_MOST_IN_CLASS c_MOST_AROUND c_MOST_IN_CORE c_MOST_TOLD t_SIDES t_SWITCHES t_WAYS dJ hall cl n_shapes n_marks n_points n_letters n_gaps n_classes n_features n_rules b_len b_str b_int b_list b_tuple b_all b_any b_isinstance b_bool b_range b_enumerate b_zip b_sum b_max b_dict X Gg⟩
end
end K41
namespace K41
open PySem L2 EV
open PyProof.Rows hiding St
theorem b6o{l:PySem.W.OpenLaw}{n k:Nat}{q:Program}{loose:List Str}{XP:(Str->Option Value)->Heap->Prop}{YP:World->Heap->Prop}{d:DefRec}{K:Params->PySem.W.Frag}{CX:World->CXT}{sp:PySem.W.Frag->Sp}{x:Str}
 (hn:l.most=some n) (hn2:n<=sizeLine) (hdf:d.params.defaults=[]) (hr:Room k callerA)
 (hY:∀(w:World) (h:Heap),YP w h->(K w.params).In h)
 (F:∀(w:World) (mg:Str->Option Value) (fa:Addr) (h:Heap),(K w.params).In h->h.Ns mainGlobals mg->mg d.name=some (.ref fa)→
  ∃fd:FuncData,(∀(s:Shared) (u:Value),BindsTo s fd ⟨[u],[]⟩ [(x,u)])∧
   ∀base:Heap,(K w.params).In base->base.Ns mainGlobals mg->FnOk l.prog w (K w.params) mg base (CX w) k fa fd [x] (sp (K w.params)))
 (hsp:∀(w:World) (H:Hp) (a:Addr) (ns:List Int),ns.length<=n->b1k H->SqL (K w.params) H a (ns.map V.int)->sp (K w.params) [.ref a] H (fun v _=>v=.bl true) fun _ _ _=>False)
 (hCX:∀(w:World) (H:Hp) (s:Shared) (e:Value) (s':Shared),CX w [] H s (fun _ _ _=>False) e s'->False):
 PySem.W.WalkO q loose XP YP l.row.toRowW d [] (fun f vs=>PySem.call f vs):=
 b1n (K:=K) (CX:=CX) (sp:=fun w=>sp (K w.params)) hn hn2 hdf hr hY F hsp hCX
def spK(K:PySem.W.Frag):Sp:=fun vs H Q E=>∀cA,a3M ⟨K,cA,[6],[]⟩ (b6 ct F 20) 218 1 vs H Q E
theorem b5l{K:PySem.W.Frag}{P:Program}{w:World}{cA:Nat->Addr}{h:Heap}{mg:Str->Option Value}{fa:Addr}(D:DfE K "law" a4M)(S:Stat P w ⟨K,cA,[6],[]⟩ G ct F mg)(X:K.In h)(Gg:h.Ns mainGlobals mg)(hmg:mg "law"=some (.ref fa)):
 ∃fd,(∀(s:Shared) (u:Value),BindsTo s fd ⟨[u],[]⟩ [("_law_script",u)])/\∀base:Heap,FnOk P w K mg base CX0 46 fa fd ["_law_script"] (spK K):=by
 obtain⟨f,fd,e,Fn⟩:=D.ex;have e0:=hmg.symm.trans (PySem.W.mg_of X Gg e);cases e0
 have R:RowOk K G F "law" "law" 218 1 fa fd a4M ["_law_script","_law_h","_law_hall","_law_widths","_law_marks","_law_cells","_law_due","_law_cut","_law_handed","_law_found"] ["_law_script"]:=⟨Fn,b8Q,Fn.binds b6j,rfl,a5D,rfl,rfl,rfl,b8P⟩
 refine⟨fd,fun s u=>?_,fun base=>?_⟩
 · obtain⟨oc,od,kV,doc,pm,an,cdv,ct,osl,rfl,lk,hcd⟩:=Fn.ex;exact .of_eq (b6j kV doc pm an cdv ct [u] rfl)
 · have ih:=b5k S 19;have g:=a4r S ih.1 ih.2 (b0O S 19) R base;exact⟨fun vs H Q E hh=>g.len vs H Q E (hh cA),fun A outer s H args us vs Q E a1 a2 a3 a4 hh=>g.run A outer s H args us vs Q E a1 a2 a3 a4 (hh cA)⟩
def isL(o:Obj):Bool:=match o.cls with
 |.type n=>n=="list"
 |_=>false
def a9y(K:PySem.W.Frag):Bool:=K.all fun p=>!isL p.2
theorem b2q{K:PySem.W.Frag}(h:a9y K=true){a:Addr}{o:Obj}(e:K.lookup a=some o):o.cls≠.type "list":=by
 intro z
 have hm:∃b,(b,o)∈K:=by
  clear h
  induction K with
  |nil=>cases e
  |cons p r ih=>
   rw[List.lookup_cons] at e
   split at e
   · cases e;exact⟨p.1,List.mem_cons_self⟩
   · obtain⟨b,hb⟩:=ih e;exact⟨b,List.mem_cons_of_mem _ hb⟩
 obtain⟨b,hb⟩:=hm
 have:=List.all_eq_true.mp h (b,o) hb
 unfold isL at this
 simp only at this
 rw[z] at this
 simp at this
theorem a5e(m:List Addr)(H:Hp):∀ns:List Int,Rps m H (ns.map D.int) (ns.map V.int)
 |[]=>rfl
 |n::r=>⟨_,_,rfl,rfl,a5e m H r⟩
theorem b4R{K:PySem.W.Frag}{H:Hp}{a:Addr}{ns:List Int}(LT:∀ns:List Int,ns.length<=63->∃h',b6 ct F 20 218 [.ref 0] [.rol (ns.map .int)]=.ok (.bl true) h')(nl:a9y K=true)(hl:ns.length<=63)(hO:b1k H)(hS:SqL K H a (ns.map V.int)):
 spK K [.ref a] H (fun v _=>v=.bl true) fun _ _ _=>False:=by
 intro cA;obtain⟨h',e⟩:=LT ns hl
 have hf:∃o,H a=some (.frz o (.lst (ns.map V.int))):=by
  rcases hS with hS|⟨o,its,n,hk,hc,_⟩
  · rcases hS with hS|hS
    · rcases hO a with z|⟨o,xs,z⟩
      · rw[hS] at z;cases z
      · rw[hS] at z;cases z
    · exact hS
  · exact absurd hc (b2q nl hk)
 refine⟨[.ref 0],[.rol (ns.map .int)],[a],rfl,⟨_,_,rfl,⟨a,rfl,rfl⟩,rfl⟩,⟨rfl,by simp,fun n b c hn hc=>?_⟩,?_⟩
 · cases n with
   |zero=>
    cases hn;cases hc;obtain⟨o,hf⟩:=hf;exact⟨_,hS,a5e _ _ _,o,hf⟩
   |succ n=>simp at hn
 · rw[e];exact fun m' H' v _ _ _ rv=>rv
end K41
namespace EV
open PySem L2 L2T
def W9:R Out->R D
 |.ok (.nx _) h=>.ok .non h
 |.ok (.rt d) h=>.ok d h
 |.no=>.no
theorem a0k:∀{a b:List Char},a.map Char.toNat=b.map Char.toNat->a=b
 |[],[],_=>rfl
 |[],_::_,h=>by simp at h
 |_::_,[],h=>by simp at h
 |x::xs,y::ys,h=>by
  rw[List.map_cons,List.map_cons] at h
  injection h with h1 h2
  rw[a0k h2,Char.ext (UInt32.toNat_inj.mp h1)]
theorem a3Y{a b:String}:(Str.ofString a=Str.ofString b)=(a=b):=propext ⟨fun h=>by
 rw[Str.ofString_eq_toList,Str.ofString_eq_toList] at h
 injection h with h
 have:=congrArg Array.toList h
 exact String.toList_inj.mp (a0k (by simpa using this)),fun h=>by rw[h]⟩
theorem sl1:(1<=SL)=True:=eq_true (by decide)
theorem sl2:(2<=SL)=True:=eq_true (by decide)
theorem sl3:(3<=SL)=True:=eq_true (by decide)
theorem sl4:(4<=SL)=True:=eq_true (by decide)
theorem sl5:(5<=SL)=True:=eq_true (by decide)
theorem sl6:(6<=SL)=True:=eq_true (by decide)
theorem b2i{env:j9}{h:AH}:W9 (.ok (.nx env) h)=.ok .non h:=rfl
theorem b2h{d:D}{h:AH}:W9 (.ok (.rt d) h)=.ok d h:=rfl
theorem b2j:W9 .no=.no:=rfl
structure PF(F:Nat->Option Fn):Prop where
 f1:F 1=some V3
 f2:F 2=some Z8
 f3:F 3=some Z9
 f4:F 4=some R3
 f5:F 5=some D7
 f6:F 6=some J5
 f7:F 7=some J2
 f8:F 8=some a0a
 f9:F 9=some Y1
 f10:F 10=some F7
 f11:F 11=some Y2
 f12:F 12=some Q9
 f13:F 13=some z4
 f14:F 14=some R5
 f15:F 15=some O1
 f16:F 16=some Z7
 f17:F 17=some N6
 f18:F 18=some J3
 f19:F 19=some Q8
 f20:F 20=some N7
 f21:F 21=some E8
 f22:F 22=some M3
 f23:F 23=some V4
 f24:F 24=some N9
 f25:F 25=some K7
 f26:F 26=some Q7
 f27:F 27=some J4
 f28:F 28=some O0
 f29:F 29=some R4
 f30:F 30=some V6
 f31:F 31=some V5
 f32:F 32=some M6
section
variable{ct:CT}{F:Nat->Option Fn}
theorem n0{n f:Nat}{ds:List D}{h:AH}{fd:Fn}(hF:F f=some fd)(hl:ds.length=fd.np):b6 ct F (n+1) f ds h=gcR fd.gc h (W9 (exs ct (b6 ct F n) fd.body (ds.map some++List.replicate (fd.ns-fd.np) none) h)):=by
 show(match F f with
  |none=>R.no
  |some fd=>if ds.length=fd.np then gcR fd.gc h (match exs ct (b6 ct F n) fd.body (ds.map some++List.replicate (fd.ns-fd.np) none) h with
   |.ok (.nx _) h'=>.ok .non h'
   |.ok (.rt d) h'=>.ok d h'
   |.no=>.no) else .no)=_
 rw[hF]
 simp only
 rw[if_pos hl];generalize exs ct (b6 ct F n) fd.body (ds.map some++List.replicate (fd.ns-fd.np) none) h=r
 cases r with
 |ok o h=>cases o<;>rfl
 |no=>rfl
theorem a0B{g:List (Nat×Cell)}{p:Pat}{t:j9->AH->R Bool}{e:j9->AH->R D}{env0:j9}{h:AH}(hg:gOk g h=true)(B:D->Bool)(f:D->D)(env:D->j9):
 ∀(l acc:List D),(∀x∈l,G9 p x env0=some (env x)/\t (env x) h=.ok (B x) h/\(B x=true->e (env x) h=.ok (f x) h))->acc.length+l.length<=SL->R6 g p t e env0 l acc h=.ok (acc++(l.filter B).map f) h
 |[],acc,_,_=>by rw[R6,if_pos hg];simp
 | x::r,acc,hx,hl=>by
  obtain⟨h1,h2,h3⟩:=hx x List.mem_cons_self;have ih:=fun acc' hl'=>a0B hg B f env r acc' (fun y hy=>hx y (List.mem_cons_of_mem _ hy)) hl'
  rw[R6,if_pos hg,h1]
  simp only
  rw[h2,k7];rw[List.length_cons] at hl
  cases hb:B x with
  |true=>
   rw[if_pos rfl,h3 hb,k7,if_pos (by omega),ih _ (by simp;omega),List.filter_cons_of_pos hb]
   simp
  |false=>
   rw[if_neg (by simp),ih _ (by omega),List.filter_cons_of_neg (by simp[hb])]
theorem a8p{g:List (Nat×Cell)}{p:Pat}{e:j9->AH->R D}{env0:j9}{h:AH}{c:CF}(hg:gOk g h=true)(f:D->D)(env:D->j9)(l:List D)(hx:∀x∈l,G9 p x env0=some (env x)/\e (env x) h=.ok (f x) h)(hl:l.length<=SL):
 R6 g p (tst ct c .yes) e env0 l [] h=.ok (l.map f) h:=by
 have:=a0B (t:=tst ct c .yes) hg (fun _=>true) f env l [] (fun x hx'=>⟨(hx x hx').1,by simp only[tst],fun _=>(hx x hx').2⟩) (by simpa using hl)
 rw[this,List.filter_eq_self.mpr (fun _ _=>rfl),List.nil_append]
theorem a2I{α:Type}(P:α->Bool):∀l:List α,a5Q (l.map fun x=>D.bl (P x))=some (l.map P)
 |[]=>rfl
 |x::r=>by rw[List.map_cons,a5Q,a2I P r];rfl
theorem a1c:∀l:List Str,a1X (l.map D.str)=some l
 |[]=>rfl
 |x::r=>by rw[List.map_cons,a1X,a1c r];rfl
theorem a1L{h:AH}{l:List D}:rdL (h++[.lst l]) h.length=some l:=by
 unfold rdL;simp
theorem b8{h:AH}{c:Cell}:(h++[c])[h.length]? =some c:=by simp
theorem a1T{h:AH}{α:Type}{P:α->Bool}{l:List α}:biD .all (h++[.lst (l.map fun x=>D.bl (P x))]) [.ref h.length]=.ok (.bl (l.all P)) (h++[.lst (l.map fun x=>D.bl (P x))]):=by
 simp only[biD,b8,a1L,a2I];congr 2;simp[List.all_map]
theorem b3p{h:AH}{α:Type}{P:α->Bool}{l:List α}:biD .any (h++[.lst (l.map fun x=>D.bl (P x))]) [.ref h.length]=.ok (.bl (l.any P)) (h++[.lst (l.map fun x=>D.bl (P x))]):=by
 simp only[biD,b8,a1L,a2I];congr 2;simp[List.any_map]
theorem gc1{h g:AH}{d:D}(hd:d.flat=true):gcR 1 h (.ok d (h++g))=.ok d h:=by
 unfold gcR
 simp only
 rw[if_neg (by decide)]
 simp[hd]
theorem E1{h:AH}{d:D}(hd:d.flat=true):gcR 1 h (.ok d h)=.ok d h:=by
 have:=gc1 (h:=h) (g:=[]) hd
 simpa using this
theorem gc0{h:AH}{r:R D}:gcR 0 h r=r:=by
 cases r<;>rfl
def L7(row:Str):List Str:=(Txt.split row " ").filter fun w=>decide (w≠"")
theorem a1r(c:Nat):∀cs:List Nat,∃ps:List (List Nat),ps≠[]/\(∀p∈ps,c∉p)/\jn c ps=cs
 |[]=>⟨[[]],by simp,by simp,rfl⟩
 | x ::cs=>by
  obtain⟨ps,h1,h2,h3⟩:=a1r c cs
  by_cases hx:x=c
  · subst hx;refine⟨[]::ps,by simp,fun p hp=>?_,?_⟩
    · rcases List.mem_cons.mp hp with rfl|hp
      · simp
      · exact h2 p hp
    · cases ps with
      |nil=>exact absurd rfl h1
      |cons p r=>rw[←h3];rfl
  · cases ps with
    |nil=>exact absurd rfl h1
    |cons p r=>
     refine⟨(x::p)::r,by simp,fun q hq=>?_,?_⟩
     · rcases List.mem_cons.mp hq with rfl|hq
       · intro hc
         rcases List.mem_cons.mp hc with e|e
         · exact hx e.symm
         · exact h2 p List.mem_cons_self e
       · exact h2 q (List.mem_cons_of_mem _ hq)
     · rw[←h3]
       cases r<;>rfl
theorem a9L(c:Nat):∀ps:List (List Nat),ps.length<=(jn c ps).length+1
 |[]=>by simp
 |[x]=>by simp
 |x::y::r=>by
  have:=a9L c (y::r)
  show(y::r).length+1<=(x++c::jn c (y::r)).length+1
  simp only[List.length_append,List.length_cons] at this⊢;omega
theorem a7E(x:Str)(c:Nat):(Txt.split x ⟨#[c]⟩).length<=x.length+1:=by
 obtain⟨ps,h1,h2,h3⟩:=a1r c (cd x)
 have e:(ps.map fun p=>(⟨p.toArray⟩:Str)).map cd=ps:=by
  rw[List.map_map];refine List.map_id'' (fun p=>?_) ps
  simp[cd]
 rw[a2a (ps:=ps.map fun p=>(⟨p.toArray⟩:Str)) (by simpa using h1) (fun p hp=>by
  obtain⟨q,hq,rfl⟩:=List.mem_map.mp hp
  simpa [cd] using h2 q hq) (by rw[e,h3]),List.length_map,←o8,←h3]
 exact a9L c ps
theorem J8:∀l:List Str,D.flats (l.map D.str)=true
 |[]=>rfl
 |x::r=>by rw[List.map_cons,D.flats,J8 r];rfl
section
variable{c:CF}{env:j9}{h:AH}{a b e:E}{t:T}
theorem b9z{i:Nat}:ev ct c (.v i) env h=(match env[i]? with
 |some (some d)=>.ok d h
 |_=>.no):=by(rw[ev];try rfl)
theorem b9A{d:D}:ev ct c (.k d) env h=.ok d h:=by(rw[ev];try rfl)
theorem b5z{o:B}:ev ct c (.bin o a b) env h=(ev ct c a env h).bind fun x h1=>(ev ct c b env h1).bind fun y h2=>op2 o h2 x y:=by(rw[ev];try rfl)
theorem b5v:ev ct c (.isN a) env h=(ev ct c a env h).bind fun x h1=>.ok (.bl (decide (x=.non))) h1:=by(rw[ev];try rfl)
theorem b2Q:ev ct c (.notN a) env h=(ev ct c a env h).bind fun x h1=>.ok (.bl (!decide (x=.non))) h1:=by(rw[ev];try rfl)
theorem b7L:ev ct c (.nt a) env h=(asB (ev ct c a env h)).bind fun b h1=>.ok (.bl (!b)) h1:=by(rw[ev];try rfl)
theorem b7Q:ev ct c (.an a b) env h=(asB (ev ct c a env h)).bind fun x h1=>if x=true then ev ct c b env h1 else .ok (.bl false) h1:=by(rw[ev];try rfl)
theorem b5s:ev ct c (.orr a b) env h=(asB (ev ct c a env h)).bind fun x h1=>if x=true then .ok (.bl true) h1 else ev ct c b env h1:=by(rw[ev];try rfl)
theorem b5y{o p:B}:ev ct c (.chn o p a b e) env h=(ev ct c a env h).bind fun x h1=>(ev ct c b env h1).bind fun y h2=>(asB (op2 o h2 x y)).bind fun k h3=>if k=true then(ev ct c e env h3).bind fun z h4=>op2 p h4 y z else .ok (.bl false) h3:=by(rw[ev];try rfl)
theorem b7O:ev ct c (.ix a b) env h=(ev ct c a env h).bind fun x h1=>(ev ct c b env h1).bind fun y h2=>ixD h2 x y:=by(rw[ev];try rfl)
theorem b7K{lo hi:O}:ev ct c (.sl a lo hi) env h=(ev ct c a env h).bind fun x h1=>(evo ct c lo env h1).bind fun l h2=>(evo ct c hi env h2).bind fun u h3=>slD h3 l u x:=by(rw[ev];try rfl)
theorem b5x{f:Str}:ev ct c (.fld a f) env h=(ev ct c a env h).bind fun x h1=>V2 h1 f x:=by(rw[ev];try rfl)
theorem b0v{es:Es}:ev ct c (.lst es) env h=(evs ct c es env h).bind fun ds h1=>if ds.length<=SL then x5 (.lst ds) h1 else .no:=by(rw[ev];try rfl)
theorem b5r{es:Es}:ev ct c (.tup es) env h=(evs ct c es env h).bind fun ds h1=>if ds.length<=SL then .ok (.tup ds) h1 else .no:=by(rw[ev];try rfl)
theorem b2T:ev ct c .dnew env h=x5 (.dict []) h:=by(rw[ev];try rfl)
theorem b5t:ev ct c (.neg a) env h=(ev ct c a env h).bind fun x h1=>(match x with
 |.int i=>.ok (.int (-i)) h1
 |_=>.no):=by(rw[ev];try rfl)
theorem b2V{f:Nat}{es:Es}:ev ct c (.call f es) env h=(evs ct c es env h).bind fun ds h1=>c f ds h1:=by(rw[ev];try rfl)
theorem b7N{k:Nat}{es:Es}:ev ct c (.mk k es) env h=(evs ct c es env h).bind fun ds h1=>(c (ct.init k) (.ref h1.length::ds) (h1++[.obj k []])).bind fun r h2=>(match r with
 |.non=>.ok (.ref h1.length) h2
 |_=>.no):=by(rw[ev];try rfl)
theorem b7P{b:Bi}{es:Es}:ev ct c (.bi b es) env h=(evs ct c es env h).bind fun ds h1=>biD b h1 ds:=by(rw[ev];try rfl)
theorem b7M{b:Mt}{o:E}{es:Es}:ev ct c (.mt b o es) env h=(ev ct c o env h).bind fun x h1=>if mtT b h1 x=true then(evs ct c es env h1).bind fun ds h2=>mtD b h2 x ds else .no:=by(rw[ev];try rfl)
theorem b5w{neg:Bool}{ds:List D}:ev ct c (.gin neg a ds) env h=(ev ct c a env h).bind fun x h1=>if p7 x=true/\ds.all p7=true then .ok (.bl (inD x ds !=neg)) h1 else .no:=by(rw[ev];try rfl)
theorem b2S{neg:Bool}{kvs:List (D×D)}:ev ct c (.gdin neg a kvs) env h=(ev ct c a env h).bind fun x h1=>if(K0 x).isSome=true then .ok (.bl ((o5 kvs x).isSome !=neg)) h1 else .no:=by(rw[ev];try rfl)
theorem b2R{kvs:List (D×D)}:ev ct c (.gdix a kvs) env h=(ev ct c a env h).bind fun x h1=>if(K0 x).isSome=true then(match o5 kvs x with
 |some d=>.ok d h1
 |none=>.no) else .no:=by(rw[ev];try rfl)
theorem b5u{k:Bool}:ev ct c (.isi k a) env h=(ev ct c a env h).bind fun x h1=>(match x with
 |.bl _=>.ok (.bl true) h1
 |.int _=>.ok (.bl k) h1
 |_=>.no):=by(rw[ev];try rfl)
theorem b2N:evs ct c .nil env h=.ok [] h:=by(rw[evs];try rfl)
theorem b0s{r:Es}:evs ct c (.cons e r) env h=(ev ct c e env h).bind fun d h1=>(evs ct c r env h1).bind fun ds h2=>.ok (d::ds) h2:=by(rw[evs];try rfl)
theorem a6I:tst ct c .yes env h=.ok true h:=by(rw[tst];try rfl)
theorem b1r:tst ct c (.val e) env h=asB (ev ct c e env h):=by(rw[tst];try rfl)
theorem b1u{o:B}:tst ct c (.cmp o a b) env h=asB ((ev ct c a env h).bind fun x h1=>(ev ct c b env h1).bind fun y h2=>op2 o h2 x y):=by(rw[tst];try rfl)
theorem b1t:tst ct c (.isN a) env h=(ev ct c a env h).bind fun x h1=>.ok (decide (x=.non)) h1:=by(rw[tst];try rfl)
theorem a8A:tst ct c (.notN a) env h=(ev ct c a env h).bind fun x h1=>.ok (!decide (x=.non)) h1:=by(rw[tst];try rfl)
theorem b1v{o p:B}:tst ct c (.chn o p a b e) env h=asB ((ev ct c a env h).bind fun x h1=>(ev ct c b env h1).bind fun y h2=>(asB (op2 o h2 x y)).bind fun k h3=>if k=true then(ev ct c e env h3).bind fun z h4=>op2 p h4 y z else .ok (.bl false) h3):=by(rw[tst];try rfl)
theorem b3K{u:T}:tst ct c (.an t u) env h=(tst ct c t env h).bind fun x h1=>if x=true then tst ct c u env h1 else .ok false h1:=by(rw[tst];try rfl)
theorem b1s{u:T}:tst ct c (.orr t u) env h=(tst ct c t env h).bind fun x h1=>if x=true then .ok true h1 else tst ct c u env h1:=by(rw[tst];try rfl)
theorem b3J:tst ct c (.nt t) env h=(tst ct c t env h).bind fun x h1=>.ok (!x) h1:=by(rw[tst];try rfl)
theorem b5p:evo ct c .no env h=.ok none h:=by(rw[evo];try rfl)
theorem b5q:evo ct c (.at e) env h=a7j (ev ct c e env h):=by(rw[evo];try rfl)
theorem b2x{i:Int}:a7j (.ok (.int i) h)=.ok (some i) h:=rfl
theorem Y8{b:Bool}:asB (.ok (.bl b) h)=.ok b h:=rfl
theorem a4w:evi ct c (.seq e) env h=(ev ct c e env h).bind fun d h1=>a0q h1 d:=by(rw[evi];try rfl)
theorem b0u:evi ct c (.enum e) env h=(ev ct c e env h).bind fun d h1=>a0m h1 d:=by(rw[evi];try rfl)
theorem a5E:evi ct c (.rng1 a) env h=(ev ct c a env h).bind fun d h1=>a8X h1 (.int 0) d:=by(rw[evi];try rfl)
theorem b2O:evi ct c (.zip a b) env h=(ev ct c a env h).bind fun x h1=>(ev ct c b env h1).bind fun y h2=>b1l h2 x y:=by(rw[evi];try rfl)
theorem a4v{i:Nat}:ex ct c (.set i e) env h=(ev ct c e env h).bind fun d h1=>.ok (.nx (env.set i (some d))) h1:=by(rw[ex];try rfl)
theorem b7I:ex ct c (.ex e) env h=(ev ct c e env h).bind fun _ h1=>.ok (.nx env) h1:=by(rw[ex];try rfl)
theorem a6v:ex ct c (.ret e) env h=(ev ct c e env h).bind fun d h1=>.ok (.rt d) h1:=by(rw[ex];try rfl)
theorem b5o{u v:Ss}:ex ct c (.iff t u v) env h=(tst ct c t env h).bind fun x h1=>if x=true then exs ct c u env h1 else exs ct c v env h1:=by(rw[ex];try rfl)
theorem b0r{p:Pat}{it:I}{u:Ss}:ex ct c (.for p it u) env h=(evi ct c it env h).bind fun x h1=>N5 x.2 p (exs ct c u) x.1 env h1:=by(rw[ex];try rfl)
theorem b5m{i v:E}:ex ct c (.six a i v) env h=(ev ct c v env h).bind fun x h1=>(ev ct c a env h1).bind fun o h2=>(ev ct c i env h2).bind fun k h3=>(a1p h3 o k x).bind fun _ h4=>.ok (.nx env) h4:=by(rw[ex];try rfl)
theorem b5n{f:Str}{v:E}:ex ct c (.sfl a f v) env h=(ev ct c v env h).bind fun x h1=>(ev ct c a env h1).bind fun o h2=>(a3O h2 o f x).bind fun _ h3=>.ok (.nx env) h3:=by(rw[ex];try rfl)
theorem a4u:exs ct c .nil env h=.ok (.nx env) h:=by(rw[exs];try rfl)
theorem a0T{s:S}{r:Ss}:exs ct c (.cons s r) env h=(ex ct c s env h).bind fun o h1=>(match o with
 |.nx env'=>exs ct c r env' h1
 |.rt d=>.ok (.rt d) h1):=by(rw[exs];try rfl)
theorem a4x{p:Pat}{it:I}{n:Nat}{fr:List Nat}{x:Its}{h1 h2:AH}{ds:List D}(hi:evi ct c it env h=.ok x h1)(hc:R6 x.2 p (tst ct c t) (ev ct c e) (D9 n fr env) x.1 [] h1=.ok ds h2):ev ct c (.comp p it n fr t e) env h=.ok (.ref h2.length) (h2++[.lst ds]):=by
 rw[ev,hi,k7,hc];rfl
end
section
variable{c:CF}{env:j9}{h:AH}{e:E}{t:T}
theorem Q0{p:Pat}{it:I}{n:Nat}{fr:List Nat}{l:List D}{g:List (Nat×Cell)}{h1:AH}(hi:evi ct c it env h=.ok (l,g) h1)(hg:gOk g h1=true)(B:D->Bool)(f:D->D)(envf:D->j9)
 (hx:∀x∈l,G9 p x (D9 n fr env)=some (envf x)/\tst ct c t (envf x) h1=.ok (B x) h1/\(B x=true->ev ct c e (envf x) h1=.ok (f x) h1)) (hl:l.length<=SL):ev ct c (.comp p it n fr t e) env h=.ok (.ref h1.length) (h1++[.lst ((l.filter B).map f)]):=
 a4x (x:=(l,g)) hi (a0B hg B f envf l [] hx (by simpa using hl))
theorem y9{p:Pat}{it:I}{n:Nat}{fr:List Nat}{l:List D}{g:List (Nat×Cell)}{h1:AH}(hi:evi ct c it env h=.ok (l,g) h1)(hg:gOk g h1=true)(f:D->D)(envf:D->j9)
 (hx:∀x∈l,G9 p x (D9 n fr env)=some (envf x)/\ev ct c e (envf x) h1=.ok (f x) h1) (hl:l.length<=SL):ev ct c (.comp p it n fr .yes e) env h=.ok (.ref h1.length) (h1++[.lst (l.map f)]):=
 a4x (x:=(l,g)) hi (a8p hg f envf l hx hl)
end
theorem gc2{h g:AH}{k:Nat}{c:Cell}(hk:(h++g)[k]? =some c)(hl:h.length<=k)(hc:c.flat=true):gcR 2 h (.ok (.ref k) (h++g))=.ok (.ref h.length) (h++[c]):=by
 unfold gcR;simp only[hk];simp[hl,hc]
end
end EV
local macro_rules
  | `(tactic| simp_arith [$ls,*]) => `(tactic| simp only [EV.b9z, EV.b9A, EV.b5z, EV.b5v, EV.b2Q, EV.b7L, EV.b7Q, EV.b5s, EV.b5y, EV.b7O, EV.b7K, EV.b5x, EV.b0v, EV.b5r, EV.b2T, EV.b5t, EV.b2V, EV.b7N, EV.b7P, EV.b7M, EV.b5w, EV.b2S, EV.b2R, EV.b5u, EV.b2N, EV.b0s, EV.a6I, EV.b1r, EV.b1u, EV.b1t, EV.a8A, EV.b1v, EV.b3K, EV.b1s, EV.b3J, EV.b5p, EV.b5q, EV.b2x, EV.Y8, EV.a4w, EV.b0u, EV.a5E, EV.b2O, EV.a4v, EV.b7I, EV.a6v, EV.b5o, EV.b0r, EV.b5m, EV.b5n, EV.a4u, EV.a0T, EV.k7, EV.b3l,
      List.map_cons, List.map_nil, List.cons_append, List.nil_append, List.getElem?_cons_zero, List.getElem?_cons_succ, List.set_cons_zero, List.set_cons_succ, List.replicate, List.length_cons, List.length_nil, if_true, if_false, Bool.false_eq_true, Bool.true_eq_false, EV.b2h, EV.b2i, EV.b2j, Nat.reduceSub, Nat.reduceAdd, Nat.reduceLT, Nat.zero_add, Nat.zero_le, EV.a3Y, String.reduceEq, EV.sl1, EV.sl2, EV.sl3, EV.sl4, EV.sl5, EV.sl6, $ls,*])
namespace EV
open PySem L2 L2T
section
variable{ct:CT}{F:Nat->Option Fn}
def due(a b c:Bool):Option Str:=if a then some "twice" else if !b then some "name" else if c then some "many" else none
def T5:Option Str->D
 |some x=>.str x
 |none=>.non
theorem U5(o:Option Str):decide (T5 o=.non)=o.isNone:=by cases o<;>simp[T5]
theorem Y6{a b c:Bool}(h:due a b c=none):a=false/\b=true/\c=false:=by
 cases a<;>cases b<;>cases c<;>simp[due] at h⊢
theorem a1Z{z:Str}{c:Nat}:Txt.startswith z ⟨#[c]⟩=decide ((cd z).head? =some c):=by
 have:=StrLaws.subAt_one z c 0
 unfold Txt.startswith;rw[Bool.eq_iff_iff,Bool.and_eq_true,decide_eq_true_iff,this,decide_eq_true_iff]
 show(cd z)[0]? =some c↔_
 rw[List.head?_eq_getElem?]
theorem a5a(z:Str)(h:1<=z.length):Txt.slice z (some 1) none=tl z:=by
 rw[PyProof.Rows.slice_from_eq (b:=z.length) (by decide) (by omega) rfl]
 unfold tl;congr 2
 have:(z.cps.toList.drop 1).length=z.length-1:=by rw[List.length_drop,show z.cps.toList.length=z.length from o8 z]
 show List.take ((z.length:Int)-1).toNat (List.drop 1 z.cps.toList)=_
 exact List.take_of_length_le (by omega)
theorem ix_str{z:Str}{i c:Nat}{h:AH}(hl:z.length<=SL)(hc:(cd z)[i]? =some c):ixD h (.str z) (.int (i:Nat))=.ok (.str ⟨#[c]⟩) h:=by
 have hi:=(List.getElem?_eq_some_iff.mp hc).1
 have:atI z.cps.toList (i:Int)=some c:=by
  show(ixN (cd z).length (i:Int)).bind (fun j=>(cd z)[j]?)=some c
  have e:ixN (cd z).length (i:Int)=some i:=by
   unfold ixN;rw[if_pos (by omega),if_pos (by omega)]
   simp
  rw[e];exact hc
 simp only[ixD,if_pos hl,this]
theorem B0{xs:List D}{i:Nat}{w:Nat}{d:D}{h:AH}(hw:h[w]? =some (.lst xs))(hd:xs[i]? =some d):ixD h (.ref w) (.int (i:Nat))=.ok d h:=by
 have hi:=(List.getElem?_eq_some_iff.mp hd).1
 have:atI xs (i:Int)=some d:=by
  show(ixN xs.length (i:Int)).bind (fun j=>xs[j]?)=some d
  have e:ixN xs.length (i:Int)=some i:=by
   unfold ixN;rw[if_pos (by omega),if_pos (by omega)]
   simp
  rw[e];exact hd
 simp only[ixD,hw,this]
variable(W:PF F)
include W
theorem a4Q{n:Nat}{row:Str}{h:AH}(hr:row.length<=100000):b6 ct F (n+1) 1 [.str row] h=.ok (.ref h.length) (h++[.lst ((L7 row).map .str)]):=by
 rw[n0 W.f1 rfl]
 have hs:(Txt.split row " ").length<=SL:=Nat.le_trans (a7E row 32) (by show _<=16777216;omega)
 simp only[V3];simp_arith[];rw[Q0 (l:=(Txt.split row " ").map D.str) (g:=[(h.length,.lst ((Txt.split row " ").map D.str))]) (h1:=h++[.lst ((Txt.split row " ").map D.str)]) ?_ (by simp[gOk]) (fun d=>match d with|.str w=>decide (w≠"")|_=>false) id (fun d=>[some d]) ?_ (by simpa using hs)]
 · simp_arith[]
   have e:List.map id (List.filter (fun d=>match d with|D.str w=>decide (w≠"")|_=>false) ((Txt.split row " ").map D.str))=(L7 row).map D.str:=by
    rw[List.map_id,List.filter_map];rfl
   rw[e,List.append_assoc];exact gc2 (by simp) (by simp) (J8 _)
 · simp_arith[mtT,mtD,x5];rw[if_pos ⟨by decide,by show _<=16777216;omega⟩]
   simp only[k7,a0q,b8]
 · intro x hx;obtain⟨w,_,rfl⟩:=List.mem_map.mp hx;refine⟨rfl,?_,fun _=>?_⟩
   · simp_arith[op2,a0v,eqS];simp
   · simp_arith[id]
theorem a2r{n:Nat}{z g:Str}{h:AH}(hz:z.length<=100000):b6 ct F (n+1) 2 [.str z,.str g] h=.ok (.bl ((cd z).all fun c=>decide (c∈cd g))) h:=by
 rw[n0 W.f2 rfl];simp only[Z8];simp_arith[];rw[y9 (l:=V8 z) (g:=[]) (h1:=h) ?_ (by simp[gOk]) (fun d=>match d with|.str w=>.bl (a3Z w g)|_=>.non) (fun d=>[some d,some (.str g)]) ?_ (by unfold V8;rw[List.length_map,show z.cps.toList.length=z.length from o8 z];show _<=16777216;omega)]
 · have e:(V8 z).map (fun d=>match d with|D.str w=>D.bl (a3Z w g)|_=>D.non)=(cd z).map fun c=>D.bl (decide (c∈cd g)):=by
    unfold V8;rw[List.map_map];refine List.map_congr_left fun c _=>?_
    simp only[Function.comp,a3Z];rw[StrLaws.found_one]
   rw[e];simp_arith[a1T];exact gc1 rfl
 · simp_arith[a0q]
 · intro x hx;unfold V8 at hx;obtain⟨w,_,rfl⟩:=List.mem_map.mp hx;refine⟨rfl,?_⟩
   simp_arith[op2,U9];simp
theorem F5{n:Nat}{z:Str}{h:AH}(hz:z.length<=100000):b6 ct F (n+2) 3 [.str z] h=.ok (.bl (d0 z)) h:=by
 rw[n0 W.f3 rfl];simp only[Z9]
 have hl:z.length<=SL:=by show _<=16777216;omega
 simp_arith[biD,if_pos hl,op2,D2,a2r W hz]
 have e:d0 z=(decide ((1:Int)<=(z.length:Int))&&(decide ((z.length:Int)<=12)&&(cd z).all M9)):=by
  unfold d0;rw[Bool.and_assoc];congr 1
  · exact decide_eq_decide.mpr (by omega)
  · congr 1;exact decide_eq_decide.mpr (by omega)
 rw[e]
 by_cases h1:(1:Int)<=(z.length:Int)
 · by_cases h2:(z.length:Int)<=12
   · simp only[h1,h2,decide_true,if_true,Bool.true_and,k7,Y8];exact E1 rfl
   · simp only[h1,h2,decide_true,decide_false,if_true,Bool.true_and,Bool.false_and,k7,Y8,Bool.false_eq_true,if_false];exact E1 rfl
 · simp only[h1,decide_false,Bool.false_and,k7,Y8,Bool.false_eq_true,if_false];exact E1 rfl
theorem K4{n:Nat}{z:Str}{h:AH}(hz:z.length<=100000):b6 ct F (n+2) 4 [.str z] h=.ok (.bl (a1t z)) h:=by
 rw[n0 W.f4 rfl];simp only[R3]
 have hl:z.length<=SL:=by show _<=16777216;omega
 have hm:∀h,b6 ct F (n+1) 2 [.str z,.str "0123456789"] h=.ok (.bl ((cd z).all Q6)) h:=fun h=>a2r W hz
 simp_arith[biD,if_pos hl,op2,D2,hm]
 have e:a1t z=(decide ((1:Int)<=(z.length:Int))&&(decide ((z.length:Int)<=5)&&((cd z).all Q6&&(decide (z="0")||!decide ((cd z).head? =some 48))))):=by
  unfold a1t;rw[Bool.and_assoc,Bool.and_assoc];congr 1
  · exact decide_eq_decide.mpr (by omega)
  · congr 1;exact decide_eq_decide.mpr (by omega)
 rw[e]
 by_cases h1:(1:Int)<=(z.length:Int)
 · by_cases h2:(z.length:Int)<=5
   · simp_arith[hm,h1,h2,decide_true,if_true,Bool.true_and,k7,Y8,Bool.not_true,Bool.false_eq_true,if_false,op2]
     cases hf:(cd z).all Q6 with
     |false=>
      simp_arith[hm,Bool.not_false,if_true,Bool.false_and,k7,op2];exact E1 rfl
     | true=>
      obtain⟨c,r,hc⟩:∃c r,cd z=c::r:=by
       cases hq:cd z with
       |nil=>have:=o8 z;rw[hq] at this;simp at this;omega
       |cons c r=>exact⟨c,r,rfl⟩
      have hix:ixD h (.str z) (.int 0)=.ok (.str ⟨#[c]⟩) h:=ix_str (i:=0) hl (by rw[hc];rfl)
      have h0:decide ((⟨#[c]⟩:Str)="0")=decide ((cd z).head? =some 48):=by
       rw[hc];refine decide_eq_decide.mpr ?_
       rw[show(Str.ofString "0")=⟨#[48]⟩ from rfl];simp
      simp_arith[hm,Bool.not_true,Bool.false_eq_true,if_false,Bool.true_and,k7,G0,a0v,eqS,Y8,hix,h0,op2]
      cases hz0:decide (z="0") with
      |true=>
       simp_arith[hm,if_true,Bool.true_or,op2];exact E1 rfl
      |false=>
       simp_arith[hm,Bool.false_eq_true,if_false,Bool.false_or,op2];exact E1 rfl
   · simp_arith[hm,h1,h2,decide_true,decide_false,if_true,Bool.true_and,Bool.false_and,k7,Y8,Bool.false_eq_true,if_false,Bool.not_false,op2];exact E1 rfl
 · simp_arith[hm,h1,decide_false,Bool.false_and,k7,Y8,Bool.false_eq_true,if_false,Bool.not_false,if_true,op2];exact E1 rfl
theorem a4k{n:Nat}{z:Str}{h:AH}(hz:z.length<=100000):b6 ct F (n+3) 5 [.str z] h=.ok (.bl (a3a z)) h:=by
 rw[n0 W.f5 rfl];simp only[D7]
 have hl:z.length<=SL:=by show _<=16777216;omega
 have hst:Txt.startswith z "-"=decide ((cd z).head? =some 45):=a1Z
 simp_arith[mtT,mtD,op2,a0v,eqS,slD,if_pos hl,hst,K4 W hz];unfold a3a
 by_cases h1:(cd z).head? =some 45
 · have hl1:1<=z.length:=by
    rw[←o8]
    cases hq:cd z with
    |nil=>rw[hq] at h1;cases h1
    |cons c r=>simp
   have ht:(tl z).length<=100000:=by rw[←o8,a3z,List.length_drop,o8];omega
   simp_arith[h1,decide_true,if_true,a5a z hl1,K4 W ht,k7,K4 W hz]
   cases hz0:decide (z="-0") with
   |true=>
    simp_arith[Bool.not_true,Bool.false_eq_true,if_false,Bool.false_and];exact E1 rfl
   |false=>
    simp_arith[Bool.not_false,if_true,Bool.true_and];exact E1 rfl
 · simp_arith[h1,decide_false,Bool.false_eq_true,if_false,K4 W hz];exact E1 rfl
theorem y8{n:Nat}{a b c:Bool}{h:AH}:b6 ct F (n+1) 14 [.bl a,.bl b,.bl c] h=.ok (T5 (due a b c)) h:=by
 rw[n0 W.f14 rfl];simp only[R5];simp_arith[]
 cases a<;>cases b<;>cases c<;>exact E1 rfl
theorem a1n{n k id:Nat}{P:Str->Bool}{ws:List Str}{h:AH}{fd:Fn}(hF:F id=some fd)(hb:fd=⟨1,1,1,(.cons (.ret (.bi .all (.cons (.comp (.nm 0) (.seq (.v 0)) 1 [] .yes (.call k (.cons (.v 0) .nil))) .nil))) .nil)⟩)
 {w:Nat} (hw:h[w]? =some (.lst (ws.map D.str))) (hl:ws.length<=SL) (hP:∀x∈ws,b6 ct F n k [.str x] h=.ok (.bl (P x)) h):b6 ct F (n+1) id [.ref w] h=.ok (.bl (ws.all P)) h:=by
 subst hb;rw[n0 hF rfl];simp_arith[];rw[y9 (l:=ws.map D.str) (g:=[(w,.lst (ws.map D.str))]) (h1:=h) ?_ (by simp[gOk,hw]) (fun d=>match d with|.str x=>.bl (P x)|_=>.non) (fun d=>[some d]) ?_ (by simpa using hl)]
 · have e:(ws.map D.str).map (fun d=>match d with|D.str x=>D.bl (P x)|_=>D.non)=ws.map fun x=>D.bl (P x):=by
    rw[List.map_map];rfl
   rw[e];simp_arith[a1T];exact gc1 rfl
 · simp_arith[a0q,hw]
 · intro x hx;obtain⟨y,hy,rfl⟩:=List.mem_map.mp hx;refine⟨rfl,?_⟩
   simp_arith[hP y hy]
theorem O5{n w:Nat}{ws:List Str}{h:AH}(hw:h[w]? =some (.lst (ws.map D.str)))(hl:ws.length<=SL)(hs:∀x∈ws,x.length<=100000):b6 ct F (n+3) 9 [.ref w] h=.ok (.bl (ws.all d0)) h:=
 a1n (n:=n+2) W W.f9 rfl hw hl fun x hx=>F5 W (hs x hx)
theorem a2U{n w:Nat}{ws:List Str}{h:AH}(hw:h[w]? =some (.lst (ws.map D.str)))(hl:ws.length<=SL)(hs:∀x∈ws,x.length<=100000):b6 ct F (n+4) 10 [.ref w] h=.ok (.bl (ws.all a3a)) h:=
 a1n (n:=n+3) W W.f10 rfl hw hl fun x hx=>a4k W (hs x hx)
end
end EV
namespace EV
open PySem L2 L2T
structure HD where
 shapes:List (Str×D):=[]
 marks:List (Str×D):=[]
 points:List ((Str×Str)×D):=[]
 letters:List (Str×D):=[]
 gaps:List Str:=[]
 classes:List (Str×D):=[]
 features:List (Str×D):=[]
 rules:List (Str×List D):=[]
def kd(l:List (Str×D)):List (D×D):=l.map fun p=>(.str p.1,p.2)
def pd(l:List ((Str×Str)×D)):List (D×D):=l.map fun p=>(.tup [.str p.1.1,.str p.1.2],p.2)
def rd(l:List (Str×List D)):List D:=l.map fun r=>.tup (.str r.1::r.2)
def a1j(n:Nat):List (Str×D):=[("shapes",.ref (n+1)),("marks",.ref (n+2)),("points",.ref (n+3)),("letters",.ref (n+4)),("gaps",.ref (n+5)),("classes",.ref (n+6)),("features",.ref (n+7)),("rules",.ref (n+8))]
structure HallAt(h:AH)(n:Nat)(H:HD):Prop where
 o:h[n]? =some (.obj 6 (a1j n))
 c1:h[n+1]? =some (.dict (kd H.shapes))
 c2:h[n+2]? =some (.dict (kd H.marks))
 c3:h[n+3]? =some (.dict (pd H.points))
 c4:h[n+4]? =some (.dict (kd H.letters))
 c5:h[n+5]? =some (.lst (H.gaps.map .str))
 c6:h[n+6]? =some (.dict (kd H.classes))
 c7:h[n+7]? =some (.dict (kd H.features))
 c8:h[n+8]? =some (.lst (rd H.rules))
structure Fr(n:Nat)(h h':AH):Prop where
 len:h.length<=h'.length
 get:∀i,i<h.length->(i<n∨n+8<i)->h'[i]? =h[i]?
theorem Fr.refl(n:Nat)(h:AH):Fr n h h:=⟨Nat.le_refl _,fun _ _ _=>rfl⟩
theorem Fr.trans{n:Nat}{h h' h'':AH}(a:Fr n h h')(b:Fr n h' h''):Fr n h h'':=
 ⟨Nat.le_trans a.len b.len,fun i hi hn=>(b.get i (Nat.lt_of_lt_of_le hi a.len) hn).trans (a.get i hi hn)⟩
theorem Fr.app(n:Nat)(h g:AH):Fr n h (h++g):=⟨by simp,fun i hi _=>List.getElem?_append_left hi⟩
theorem Fr.set{n k:Nat}{h:AH}{c:Cell}(h1:n<=k)(h2:k<=n+8):Fr n h (h.set k c):=⟨by simp,fun i hi hn=>List.getElem?_set_ne (by omega)⟩
theorem b7{h g:AH}{i:Nat}{c:Cell}(e:h[i]? =some c):(h++g)[i]? =some c:=by
 rw[List.getElem?_append_left (List.getElem?_eq_some_iff.mp e).1]
 exact e
theorem HallAt.app{h:AH}{n:Nat}{H:HD}(A:HallAt h n H)(g:AH):HallAt (h++g) n H:=
 ⟨b7 A.o,b7 A.c1,b7 A.c2,b7 A.c3,b7 A.c4,b7 A.c5,b7 A.c6,b7 A.c7,b7 A.c8⟩
theorem b9{h:AH}{i k:Nat}{c c':Cell}(hne:k≠i)(e:h[i]? =some c):(h.set k c')[i]? =some c:=by
 rw[List.getElem?_set_ne hne]
 exact e
theorem y7{h:AH}{i:Nat}{c c':Cell}(e:h[i]? =some c):(h.set i c')[i]? =some c':=List.getElem?_set_self (List.getElem?_eq_some_iff.mp e).1
theorem HallAt.s1{h:AH}{n:Nat}{H:HD}(A:HallAt h n H)(l:List (Str×D)):HallAt (h.set (n+1) (.dict (kd l))) n {H with shapes:=l}:=
 ⟨b9 (by omega) A.o,y7 A.c1,b9 (by omega) A.c2,b9 (by omega) A.c3,b9 (by omega) A.c4,b9 (by omega) A.c5,b9 (by omega) A.c6,b9 (by omega) A.c7,b9 (by omega) A.c8⟩
theorem HallAt.s2{h:AH}{n:Nat}{H:HD}(A:HallAt h n H)(l:List (Str×D)):HallAt (h.set (n+2) (.dict (kd l))) n {H with marks:=l}:=
 ⟨b9 (by omega) A.o,b9 (by omega) A.c1,y7 A.c2,b9 (by omega) A.c3,b9 (by omega) A.c4,b9 (by omega) A.c5,b9 (by omega) A.c6,b9 (by omega) A.c7,b9 (by omega) A.c8⟩
theorem HallAt.s3{h:AH}{n:Nat}{H:HD}(A:HallAt h n H)(l:List ((Str×Str)×D)):HallAt (h.set (n+3) (.dict (pd l))) n {H with points:=l}:=
 ⟨b9 (by omega) A.o,b9 (by omega) A.c1,b9 (by omega) A.c2,y7 A.c3,b9 (by omega) A.c4,b9 (by omega) A.c5,b9 (by omega) A.c6,b9 (by omega) A.c7,b9 (by omega) A.c8⟩
theorem HallAt.s4{h:AH}{n:Nat}{H:HD}(A:HallAt h n H)(l:List (Str×D)):HallAt (h.set (n+4) (.dict (kd l))) n {H with letters:=l}:=
 ⟨b9 (by omega) A.o,b9 (by omega) A.c1,b9 (by omega) A.c2,b9 (by omega) A.c3,y7 A.c4,b9 (by omega) A.c5,b9 (by omega) A.c6,b9 (by omega) A.c7,b9 (by omega) A.c8⟩
theorem HallAt.s6{h:AH}{n:Nat}{H:HD}(A:HallAt h n H)(l:List (Str×D)):HallAt (h.set (n+6) (.dict (kd l))) n {H with classes:=l}:=
 ⟨b9 (by omega) A.o,b9 (by omega) A.c1,b9 (by omega) A.c2,b9 (by omega) A.c3,b9 (by omega) A.c4,b9 (by omega) A.c5,y7 A.c6,b9 (by omega) A.c7,b9 (by omega) A.c8⟩
theorem HallAt.s7{h:AH}{n:Nat}{H:HD}(A:HallAt h n H)(l:List (Str×D)):HallAt (h.set (n+7) (.dict (kd l))) n {H with features:=l}:=
 ⟨b9 (by omega) A.o,b9 (by omega) A.c1,b9 (by omega) A.c2,b9 (by omega) A.c3,b9 (by omega) A.c4,b9 (by omega) A.c5,b9 (by omega) A.c6,y7 A.c7,b9 (by omega) A.c8⟩
theorem HallAt.s8{h:AH}{n:Nat}{H:HD}(A:HallAt h n H)(l:List (Str×List D)):HallAt (h.set (n+8) (.lst (rd l))) n {H with rules:=l}:=
 ⟨b9 (by omega) A.o,b9 (by omega) A.c1,b9 (by omega) A.c2,b9 (by omega) A.c3,b9 (by omega) A.c4,b9 (by omega) A.c5,b9 (by omega) A.c6,b9 (by omega) A.c7,y7 A.c8⟩
theorem HallAt.fld1{h:AH}{n:Nat}{H:HD}(A:HallAt h n H):V2 h "shapes" (.ref n)=.ok (.ref (n+1)) h:=by simp only[V2,A.o];rfl
theorem HallAt.fld2{h:AH}{n:Nat}{H:HD}(A:HallAt h n H):V2 h "marks" (.ref n)=.ok (.ref (n+2)) h:=by simp only[V2,A.o];rfl
theorem HallAt.fld3{h:AH}{n:Nat}{H:HD}(A:HallAt h n H):V2 h "points" (.ref n)=.ok (.ref (n+3)) h:=by simp only[V2,A.o];rfl
theorem HallAt.fld4{h:AH}{n:Nat}{H:HD}(A:HallAt h n H):V2 h "letters" (.ref n)=.ok (.ref (n+4)) h:=by simp only[V2,A.o];rfl
theorem HallAt.fld5{h:AH}{n:Nat}{H:HD}(A:HallAt h n H):V2 h "gaps" (.ref n)=.ok (.ref (n+5)) h:=by simp only[V2,A.o];rfl
theorem HallAt.fld6{h:AH}{n:Nat}{H:HD}(A:HallAt h n H):V2 h "classes" (.ref n)=.ok (.ref (n+6)) h:=by simp only[V2,A.o];rfl
theorem HallAt.fld7{h:AH}{n:Nat}{H:HD}(A:HallAt h n H):V2 h "features" (.ref n)=.ok (.ref (n+7)) h:=by simp only[V2,A.o];rfl
theorem HallAt.fld8{h:AH}{n:Nat}{H:HD}(A:HallAt h n H):V2 h "rules" (.ref n)=.ok (.ref (n+8)) h:=by simp only[V2,A.o];rfl
theorem a1R(k:Str)(l:List (Str×D)):E9 (.str k) (kd l)=true:=by
 simp[E9,kd,J0]
theorem a7d(a b:Str)(l:List ((Str×Str)×D)):E9 (.tup [.str a,.str b]) (pd l)=true:=by
 simp[E9,pd,J0,F0,K0]
theorem a6t(k:Str):∀l:List (Str×D),(o5 (kd l) (.str k)).isSome=decide (k∈l.map (·.1))
 |[]=>rfl
 | p ::r=>by
  have ih:=a6t k r;unfold o5 kd at ih⊢;rw[List.map_cons,List.find?_cons]
  by_cases e:p.1=k
  · simp[e]
  · have e':¬(D.str p.1=D.str k):=fun z=>e (by injection z)
    simp only[e',decide_false];rw[ih]
    exact decide_eq_decide.mpr ⟨fun z=>by simp[z],fun z=>by
     rw[List.map_cons] at z
     rcases List.mem_cons.mp z with z|z
     · exact absurd z.symm e
     · exact z⟩
theorem b0d(a b:Str):∀l:List ((Str×Str)×D),(o5 (pd l) (.tup [.str a,.str b])).isSome=decide ((a,b)∈l.map (·.1))
 |[]=>rfl
 | p ::r=>by
  have ih:=b0d a b r;unfold o5 pd at ih⊢;rw[List.map_cons,List.find?_cons]
  by_cases e:p.1=(a,b)
  · simp[e]
  · have e':¬(D.tup [.str p.1.1,.str p.1.2]=D.tup [.str a,.str b]):=fun z=>e (by
     injection z with z
     injection z with z1 z2
     injection z1 with z1
     injection z2 with z2
     injection z2 with z2
     exact Prod.ext z1 z2)
    simp only[e',decide_false];rw[ih]
    exact decide_eq_decide.mpr ⟨fun z=>by simp[z],fun z=>by
     rw[List.map_cons] at z
     rcases List.mem_cons.mp z with z|z
     · exact absurd z.symm e
     · exact z⟩
theorem a8Z{k:Str}{d:D}{l:List (Str×D)}(h:k∉l.map (·.1)):a0N (kd l) (.str k) d=kd (l++[(k,d)]):=by
 unfold a0N;rw[if_neg]
 · simp[kd]
 · intro z;rw[List.any_eq_true] at z;obtain⟨p,hp,e⟩:=z;unfold kd at hp;obtain⟨q,hq,rfl⟩:=List.mem_map.mp hp;have e:=of_decide_eq_true e
   injection e with e
   exact h (List.mem_map.mpr ⟨q,hq,e⟩)
theorem b4b{a b:Str}{d:D}{l:List ((Str×Str)×D)}(h:(a,b)∉l.map (·.1)):a0N (pd l) (.tup [.str a,.str b]) d=pd (l++[((a,b),d)]):=by
 unfold a0N;rw[if_neg]
 · simp[pd]
 · intro z;rw[List.any_eq_true] at z;obtain⟨p,hp,e⟩:=z;unfold pd at hp;obtain⟨q,hq,rfl⟩:=List.mem_map.mp hp;have e:=of_decide_eq_true e
   injection e with e
   injection e with e1 e2
   injection e1 with e1
   injection e2 with e2
   injection e2 with e2
   exact h (List.mem_map.mpr ⟨q,hq,Prod.ext e1 e2⟩)
theorem W1{h:AH}{n:Nat}{l:List (Str×D)}{k:Str}(e:h[n]? =some (.dict (kd l))):U9 false h (.str k) (.ref n)=.ok (.bl (decide (k∈l.map (·.1)))) h:=by
 simp only[U9,e,a1R,if_true,a6t];simp
theorem b7p{h:AH}{n:Nat}{l:List ((Str×Str)×D)}{a b:Str}(e:h[n]? =some (.dict (pd l))):U9 false h (.tup [.str a,.str b]) (.ref n)=.ok (.bl (decide ((a,b)∈l.map (·.1)))) h:=by
 simp only[U9,e,a7d,if_true,b0d];simp
theorem a4f{h:AH}{n:Nat}{l:List (Str×D)}(e:h[n]? =some (.dict (kd l))):biD .len h [.ref n]=.ok (.int l.length) h:=by
 have:E9 (.int 0) (kd l)=true:=by simp[E9,kd,J0]
 simp only[biD,e,this,if_true];simp[kd]
theorem p8{h:AH}{n:Nat}{l:List D}(e:h[n]? =some (.lst l)):biD .len h [.ref n]=.ok (.int l.length) h:=by
 have:rdL h n=some l:=by unfold rdL;rw[e]
 simp only[biD,e,this]
section
variable{ct:CT}{F:Nat->Option Fn}(W:PF F)
include W
theorem a9Y{n:Nat}{h:AH}:b6 ct F (n+1) 32 [.ref h.length] (h++[.obj 6 []])=.ok .non (h++[.obj 6 (a1j h.length),.dict [],.dict [],.dict [],.dict [],.lst [],.dict [],.dict [],.lst []]):=by
 rw[n0 W.f32 rfl];simp only[M6];rw[gc0]
 have hs:∀(x z:Cell) (t:AH),(h++x::t).set h.length z=h++z::t:=fun x z t=>by
  rw[List.set_append_right _ _ (Nat.le_refl _)];simp
 have hg:∀(x:Cell) (t:AH),(h++x::t)[h.length]? =some x:=fun x t=>by simp
 simp_arith[x5,a3O,hs,hg,List.append_assoc,a3e];simp only[List.length_append,List.length_cons,List.length_nil,a1j]
end
end EV
namespace EV
open PySem L2 L2T
theorem r8{xs:List D}{w:Nat}{d:D}{h:AH}(i:Int)(k:Nat)(hi:i=(k:Nat))(hw:h[w]? =some (.lst xs))(hd:xs[k]? =some d):ixD h (.ref w) (.int i)=.ok d h:=by
 subst hi;exact B0 hw hd
theorem W7{h:AH}{n:Nat}{l:List (Str×D)}{k:Str}{d:D}(e:h[n]? =some (.dict (kd l)))(hk:k∉l.map (·.1))(hl:l.length<SL):a1p h (.ref n) (.str k) d=.ok () (h.set n (.dict (kd (l++[(k,d)])))):=by
 simp only[a1p,e];rw[if_pos ⟨a1R _ _,by simpa [kd] using hl⟩,a8Z hk]
theorem a7I{h:AH}{n:Nat}{l:List ((Str×Str)×D)}{a b:Str}{d:D}(e:h[n]? =some (.dict (pd l)))(hk:(a,b)∉l.map (·.1))(hl:l.length<SL):a1p h (.ref n) (.tup [.str a,.str b]) d=.ok () (h.set n (.dict (pd (l++[((a,b),d)])))):=by
 simp only[a1p,e];rw[if_pos ⟨a7d _ _ _,by simpa [pd] using hl⟩,b4b hk]
theorem a6r{b:Str}{v:Int}{h:AH}(hl:b.length<=640)(hv:intText? b=some v):biD .int h [.str b]=.ok (.int v) h:=by
 simp only[biD,if_pos hl,hv]
theorem Q2(k:Nat)(xs:List D):O3 xs (some (k:Int)) none=xs.drop k:=by
 unfold O3 HT.sIx
 simp only
 rw[if_neg (by omega)]
 show(xs.drop (min k xs.length)).take (xs.length-min k xs.length)=xs.drop k
 by_cases h:k<=xs.length
 · rw[Nat.min_eq_left h];exact List.take_of_length_le (by simp)
 · rw[Nat.min_eq_right (by omega),List.drop_length,List.drop_of_length_le (by omega)];simp
theorem a0d(k l:Nat)(xs:List D)(hk:k<=l)(hl:l<=xs.length):O3 xs (some (k:Int)) (some (l:Int))=(xs.drop k).take (l-k):=by
 unfold O3 HT.sIx
 simp only
 rw[if_neg (by omega),if_neg (by omega)]
 show(xs.drop (min k xs.length)).take (min l xs.length-min k xs.length)=_
 rw[Nat.min_eq_left (show k<=xs.length by omega),Nat.min_eq_left hl]
theorem L1{h:AH}{w:Nat}{xs:List D}{lo hi:Option Int}(hw:h[w]? =some (.lst xs)):slD h lo hi (.ref w)=.ok (.ref h.length) (h++[.lst (O3 xs lo hi)]):=by
 have:rdL h w=some xs:=by unfold rdL;rw[hw]
 simp only[slD,this,x5]
theorem L9{h:AH}{w:Nat}{xs:List D}(hw:h[w]? =some (.lst xs)):biD .tuple h [.ref w]=.ok (.tup xs) h:=by
 have:rdL h w=some xs:=by unfold rdL;rw[hw]
 simp only[biD,hw,this]
section
variable{ct:CT}{F:Nat->Option Fn}(W:PF F)
include W
theorem a2N{k n w:Nat}{h:AH}{H:HD}{x a b:Str}{v:Int}(A:HallAt h n H)(hw:h[w]? =some (.lst [.str x,.str a,.str b]))(ha:d0 a=true)(hal:a.length<=100000)(hb:U0 b=some v):
 b6 ct F (k+3) 17 [.ref n,.ref w] h=match due (decide (a∈H.shapes.map (·.1))) true (decide ((60:Int)<=(H.shapes.length:Int))) with
  |some f=>.ok (.str f) h
  |none=>.ok .non (h.set (n+1) (.dict (kd (H.shapes++[(a,.int v)])))):=by
 obtain⟨hv,hbl,_,_⟩:=a1P hb
 have hbn:a1t b=true:=by rw[a2l,hb];rfl
 rw[n0 W.f17 rfl];simp only[N6];rw[gc0];simp_arith[p8 hw,op2,a0v,eqS,r8 1 1 rfl hw rfl,r8 2 2 rfl hw rfl,F5 W hal,K4 W (show b.length<=100000 by omega),ha,hbn,A.fld1,W1 A.c1,a4f A.c1,D2,y8 W,U5,a6r hbl hv,Int.cast_ofNat_Int,decide_true,Bool.not_true]
 cases hd:due (decide (a∈H.shapes.map (·.1))) true (decide ((60:Int)<=(H.shapes.length:Int))) with
 |some f=>simp_arith[Option.isNone_some,T5]
 |none=>
  obtain⟨d1,_,d2⟩:=Y6 hd;have d2:=of_decide_eq_false d2;simp_arith[Option.isNone_none,W7 A.c1 (of_decide_eq_false d1) (show _<16777216 by omega),T5]
theorem a1B{k n w:Nat}{h:AH}{H:HD}{x a b:Str}(A:HallAt h n H)(hw:h[w]? =some (.lst [.str x,.str a,.str b]))(ha:d0 a=true)(hal:a.length<=100000)(hb:b="on"∨b="off"):
 b6 ct F (k+3) 25 [.ref n,.ref w] h=match due (decide (a∈H.features.map (·.1))) true (decide ((10:Int)<=(H.features.length:Int))) with
  |some f=>.ok (.str f) h
  |none=>.ok .non (h.set (n+7) (.dict (kd (H.features++[(a,.bl (decide (b="on")))])))):=by
 have hin:inD (.str b) [.str "on",.str "off"]=true:=by
  rcases hb with rfl|rfl<;>decide
 rw[n0 W.f25 rfl];simp only[K7];rw[gc0];simp_arith[p8 hw,op2,a0v,G0,eqS,r8 1 1 rfl hw rfl,r8 2 2 rfl hw rfl,F5 W hal,ha,A.fld7,W1 A.c7,a4f A.c7,D2,y8 W,U5,hin,p7,List.all_cons,List.all_nil,Bool.and_self,and_self,bne_self_eq_false,Int.cast_ofNat_Int,decide_true,Bool.not_true]
 cases hd:due (decide (a∈H.features.map (·.1))) true (decide ((10:Int)<=(H.features.length:Int))) with
 |some f=>simp_arith[Option.isNone_some,T5]
 |none=>
  obtain⟨d1,_,d2⟩:=Y6 hd;have d2:=of_decide_eq_false d2;simp_arith[Option.isNone_none,op2,G0,eqS,r8 2 2 rfl hw rfl,A.fld7,W7 A.c7 (of_decide_eq_false d1) (show _<16777216 by omega),T5]
theorem T4{k n w:Nat}{h:AH}{H:HD}{ws:List Str}(A:HallAt h n H)(hw:h[w]? =some (.lst (ws.map .str)))(hl:ws.length<=SL):b6 ct F (k+1) 15 [.ref n,.ref w] h=.ok (.bl (ws.all fun x=>decide (x∈H.shapes.map (·.1)))) h:=by
 rw[n0 W.f15 rfl];simp only[O1];simp_arith[];rw[y9 (l:=ws.map D.str) (g:=[(w,.lst (ws.map D.str))]) (h1:=h) ?_ (by simp[gOk,hw]) (fun d=>match d with|.str x=>.bl (decide (x∈H.shapes.map (·.1)))|_=>.non) (fun d=>[some d,some (.ref n)]) ?_ (by simpa using hl)]
 · have e:(ws.map D.str).map (fun d=>match d with|D.str x=>D.bl (decide (x∈H.shapes.map (·.1)))|_=>D.non)=ws.map fun x=>D.bl (decide (x∈H.shapes.map (·.1))):=by
    rw[List.map_map];rfl
   rw[e];simp_arith[a1T];exact gc1 rfl
 · simp_arith[a0q,hw]
 · intro x hx;obtain⟨y,hy,rfl⟩:=List.mem_map.mp hx;refine⟨rfl,?_⟩
   simp_arith[op2,A.fld1,W1 A.c1]
def a5t:List (D×D):=[(.str "none",.int 1),(.str "clear",.int 1),(.str "back",.int 2),(.str "both",.int 4)]
theorem a2S{k w:Nat}{h:AH}{x a j wy:Str}{d9:List Str}(hw:h[w]? =some (.lst (.str x::.str a::.str j::.str wy::d9.map .str)))(ha:d0 a=true)(hal:a.length<=100000)(hj:o5 a5t (.str j)=some (.int d9.length))(hy:inD (.str wy) [.str "left",.str "right",.str "either"]=true)
 (hr:d9.all d0=true) (hrl:∀y∈d9,y.length<=100000) (hrs:d9.length<=100000):b6 ct F (k+4) 21 [.ref w] h=.ok (.bl true) h:=by
 rw[n0 W.f21 rfl];simp only[E8]
 have e4:∀xs,O3 xs (some 4) none=xs.drop 4:=Q2 4
 have hn:b6 ct F (k+3) 9 [.ref h.length] (h++[.lst (d9.map .str)])=.ok (.bl (d9.all d0)) (h++[.lst (d9.map .str)]):=O5 W b8 (by show _<=16777216;omega) hrl
 have hlen:decide (((d9.length+1+1+1+1:Nat):Int)<4)=false:=decide_eq_false (by omega)
 unfold a5t at hj;simp_arith[p8 hw,op2,D2,hlen,List.length_map,r8 1 1 rfl hw rfl,r8 2 2 rfl hw rfl,r8 3 3 rfl hw rfl,F5 W hal,ha,K0,Option.isSome_some,hj,hy,p7,List.all_cons,List.all_nil,Bool.and_self,and_self,bne_self_eq_false,Bool.not_true,L1 hw,e4,List.drop_succ_cons,List.drop_zero,p8 b8,r8 2 2 rfl (b7 (g:=[.lst (d9.map .str)]) hw) rfl,G0,eqS,decide_true,hn,hr];exact gc1 rfl
theorem a1W{k n w:Nat}{h:AH}{H:HD}{x a j wy:Str}{d9:List Str}(A:HallAt h n H)(hw:h[w]? =some (.lst (.str x::.str a::.str j::.str wy::d9.map .str)))(ha:d0 a=true)(hal:a.length<=100000)(hj:o5 a5t (.str j)=some (.int d9.length))(hy:inD (.str wy) [.str "left",.str "right",.str "either"]=true)
 (hr:d9.all d0=true) (hrl:∀y∈d9,y.length<=100000) (hrs:d9.length<=100000):
 b6 ct F (k+5) 22 [.ref n,.ref w] h=match due (decide (a∈H.letters.map (·.1))) (d9.all fun x=>decide (x∈H.shapes.map (·.1))) (decide ((24:Int)<=(H.letters.length:Int))) with
  |some f=>.ok (.str f) (h++[.lst (d9.map .str)])
  |none=>.ok .non ((h++[Cell.lst (d9.map .str)]).set (n+4) (.dict (kd (H.letters++[(a,D.tup [.str j,.str wy,.tup (d9.map .str)])])))):=by
 rw[n0 W.f22 rfl];simp only[M3];rw[gc0]
 have e4:∀xs,O3 xs (some 4) none=xs.drop 4:=Q2 4
 have A1:=A.app [.lst (d9.map .str)];have hw1:=b7 (g:=[.lst (d9.map .str)]) hw;have hs:=T4 (ct:=ct) (k:=k+3) W A1 (b8 (h:=h)) (by show _<=16777216;omega)
 simp_arith[a2S W hw ha hal hj hy hr hrl hrs,Bool.not_true,r8 1 1 rfl hw rfl,L1 hw,e4,List.drop_succ_cons,List.drop_zero,op2,A1.fld4,W1 A1.c4,a4f A1.c4,D2,hs,y8 W,U5]
 cases hd:due (decide (a∈H.letters.map (·.1))) (d9.all fun x=>decide (x∈H.shapes.map (·.1))) (decide ((24:Int)<=(H.letters.length:Int))) with
 |some f=>simp_arith[Option.isNone_some,T5]
 |none=>
  obtain⟨d1,_,d2⟩:=Y6 hd;have d2:=of_decide_eq_false d2;simp_arith[Option.isNone_none,r8 2 2 rfl hw1 rfl,r8 3 3 rfl hw1 rfl,L9 b8,A1.fld4,W7 A1.c4 (of_decide_eq_false d1) (show _<16777216 by omega),T5]
theorem a2P{k n w:Nat}{h:AH}{H:HD}{x a:Str}{d9:List Str}(A:HallAt h n H)(hw:h[w]? =some (.lst (.str x::.str a::d9.map .str)))(ha:d0 a=true)(hal:a.length<=100000)
 (hr:d9.all d0=true) (hrl:∀y∈d9,y.length<=100000) (hr1:1<=d9.length) (hr2:d9.length<=20):
 b6 ct F (k+5) 24 [.ref n,.ref w] h=match due (decide (a∈H.classes.map (·.1))) (d9.all fun x=>decide (x∈H.shapes.map (·.1))) (decide ((20:Int)<=(H.classes.length:Int))) with
  |some f=>.ok (.str f) (h++[.lst (d9.map .str),.lst (.str a::d9.map .str)])
  |none=>.ok .non ((h++[Cell.lst (d9.map .str),Cell.lst (.str a::d9.map .str)]).set (n+6) (.dict (kd (H.classes++[(a,D.tup (d9.map .str))])))):=by
 rw[n0 W.f24 rfl];simp only[N9];rw[gc0]
 have e1:∀xs,O3 xs (some 1) none=xs.drop 1:=Q2 1
 have e2:∀xs,O3 xs (some 2) none=xs.drop 2:=Q2 2
 have hw1:=b7 (g:=[.lst (d9.map .str)]) hw;have hw2:=b7 (g:=[.lst (.str a::d9.map .str)]) hw1;have A2:=(A.app [.lst (d9.map .str)]).app [.lst (.str a::d9.map .str)]
 have hq:(h++[Cell.lst (d9.map .str)]++[.lst (.str a::d9.map .str)])[h.length]? =some (.lst (d9.map .str)):=b7 b8
 have hs:=T4 (ct:=ct) (k:=k+3) W A2 hq (by show _<=16777216;omega)
 have hn:b6 ct F (k+4) 9 [.ref (h++[Cell.lst (d9.map .str)]).length] (h++[Cell.lst (d9.map .str)]++[.lst (.str a::d9.map .str)])=.ok (.bl true) (h++[Cell.lst (d9.map .str)]++[.lst (.str a::d9.map .str)]):=by
  have:=O5 (ct:=ct) (n:=k+1) (ws:=a::d9) W (b8 (h:=h++[Cell.lst (d9.map .str)]) (c:=.lst (.str a::d9.map .str))) (by show _<=16777216;simp;omega) (fun y hy=>by
   rcases List.mem_cons.mp hy with rfl|hy
   · exact hal
   · exact hrl y hy)
  rw[List.all_cons,ha,hr] at this;exact this
 have l1:decide ((1:Int)<=(d9.length:Int))=true:=decide_eq_true (by omega)
 have l2:decide ((d9.length:Int)<=20)=true:=decide_eq_true (by omega)
 simp_arith[L1 hw,e2,List.drop_succ_cons,List.drop_zero,p8 b8,List.length_map,op2,D2,l1,l2,Bool.not_true,L1 hw1,e1,hn,r8 1 1 rfl hw2 rfl,A2.fld6,W1 A2.c6,a4f A2.c6,hs,y8 W,U5];rw[show h++[Cell.lst (d9.map D.str),.lst (.str a::d9.map .str)]=h++[Cell.lst (d9.map .str)]++[.lst (.str a::d9.map .str)] by simp]
 cases hd:due (decide (a∈H.classes.map (·.1))) (d9.all fun x=>decide (x∈H.shapes.map (·.1))) (decide ((20:Int)<=(H.classes.length:Int))) with
 |some f=>simp_arith[Option.isNone_some,T5]
 |none=>
  obtain⟨d1,_,d2⟩:=Y6 hd;have d2:=of_decide_eq_false d2;simp_arith[Option.isNone_none,L9 hq,A2.fld6,W7 A2.c6 (of_decide_eq_false d1) (show _<16777216 by omega),T5]
end
end EV
namespace EV
open PySem L2 L2T
theorem u8{h l:AH}{i:Nat}:(h++l)[h.length+i]? =l[i]? :=by
 rw[List.getElem?_append_right (by omega)]
 congr 1;omega
theorem b1M{h l:AH}{i:Nat}{c:Cell}:(h++l).set (h.length+i) c=h++l.set i c:=by
 rw[List.set_append_right _ _ (by omega)]
 congr 2;omega
theorem b3T{h:AH}{i:Nat}{c:Cell}(e:h[i]? =some c):h.set i c=h:=by
 refine List.ext_getElem? fun j=>?_
 by_cases hj:i=j
 · subst hj;rw[List.getElem?_set_self (List.getElem?_eq_some_iff.mp e).1,e]
 · rw[List.getElem?_set_ne hj]
theorem b3o{xs:List D}{d:D}:atI (xs++[d]) (-1)=some d:=by
 unfold atI ixN;rw[if_neg (by omega),if_pos (by simp;omega)]
 simp only[Option.bind_some];rw[show((-1:Int)+((xs++[d]).length:Int)).toNat=xs.length by simp;omega]
 simp
def G4(x:Str):Bool:=decide (x="/")||decide (x=">")
theorem a5v{x:Str}{h:AH}:U9 false h (.str x) (.tup [.str "/",.str ">"])=.ok (.bl (G4 x)) h:=by
 have e:inD (.str x) [.str "/",.str ">"]=G4 x:=by
  show((Str.ofString "/"==x)||((Str.ofString ">"==x)||false))=(decide (x="/")||decide (x=">"))
  rw[Bool.or_false,Bool.eq_iff_iff,Bool.or_eq_true,Bool.or_eq_true,beq_iff_eq,beq_iff_eq,decide_eq_true_iff,decide_eq_true_iff];exact⟨fun z=>z.imp Eq.symm Eq.symm,fun z=>z.imp Eq.symm Eq.symm⟩
 simp only[U9,p7,List.all_cons,List.all_nil,Bool.and_self,if_true,e]
 cases G4 x<;>rfl
theorem a2h{h l:AH}{i:Nat}{xs:List D}(e:l[i]? =some (.lst xs)):rdL (h++l) (h.length+i)=some xs:=by
 unfold rdL;rw[u8,e]
theorem a0E{h l:AH}{i:Nat}{xs:List D}{d:D}(e:l[i]? =some (.lst xs))(hl:xs.length<SL):mtD .append (h++l) (.ref (h.length+i)) [d]=.ok .non (h++l.set i (.lst (xs++[d]))):=by
 simp only[mtD,u8,e,if_pos hl,b1M]
theorem b4K{h l:AH}{i j:Nat}{xs ys:List D}(e1:l[i]? =some (.lst xs))(e2:l[j]? =some (.lst ys))(hf:(xs.all p7&&ys.all p7)=true)(he:b0x xs ys=true):op2 .ne (h++l) (.ref (h.length+i)) (.ref (h.length+j))=.ok (.bl false) (h++l):=by
 simp only[op2,a0v,eqS,a4y,a2h e1,a2h e2,hf,if_true,he];rfl
def rpB:Ss:=(.cons (.iff (.cmp .isin (.v 3) (.tup (.cons (.k (.str "/")) (.cons (.k (.str ">")) .nil)))) (.cons (.ex (.mt .append (.v 2) (.cons (.v 3) .nil))) (.cons (.ex (.mt .append (.v 1) (.cons (.lst .nil) .nil))) .nil)) (.cons (.ex (.mt .append (.ix (.v 1) (.neg (.k (.int (1))))) (.cons (.v 3) .nil))) .nil)) .nil)
section
variable{ct:CT}{c:CF}{h:AH}{w q:Nat}{S:List D}
theorem a2e:∀(L:List Str) (l:AH) (R P:List D) (e:Option D) (d9:List D),l[1]? =some (.lst (R++[.ref (h.length+q)]))->l[q]? =some (.lst P)->l[3]? =some (.lst S)->q≠1->q≠3->(∀x∈L,G4 x=false)->P.length+L.length<=100000→
 ∃e',N5 [(h.length+3,.lst S)] (.nm 3) (exs ct c rpB) (L.map D.str++d9) [some (.ref w),some (.ref (h.length+1)),some (.ref (h.length+2)),e] (h++l)=
  N5 [(h.length+3,.lst S)] (.nm 3) (exs ct c rpB) d9 [some (.ref w),some (.ref (h.length+1)),some (.ref (h.length+2)),e'] (h++l.set q (.lst (P++L.map D.str)))
 |[],l,R,P,e,d9,h1,h2,h3,q1,q3,_,_=>⟨e,by rw[List.map_nil,List.append_nil,b3T h2,List.nil_append]⟩
 | x::L,l,R,P,e,d9,h1,h2,h3,q1,q3,hL,hs=>by
  rw[List.length_cons] at hs;have hx:=hL x List.mem_cons_self;obtain⟨e',ih⟩:=a2e L (l.set q (.lst (P++[.str x]))) R (P++[.str x]) (some (.str x)) d9 (by rw[List.getElem?_set_ne q1];exact h1) (List.getElem?_set_self (List.getElem?_eq_some_iff.mp h2).1) (by rw[List.getElem?_set_ne q3];exact h3) q1 q3 (fun y hy=>hL y (List.mem_cons_of_mem _ hy)) (by simp;omega)
  refine⟨e',?_⟩
  have hg:gOk [(h.length+3,Cell.lst S)] (h++l)=true:=by simp[gOk,u8,h3]
  rw[List.map_cons,List.cons_append,N5,if_pos hg];simp only[G9]
  have hix:ixD (h++l) (.ref (h.length+1)) (.int (-1))=.ok (.ref (h.length+q)) (h++l):=by
   simp only[ixD,u8,h1,b3o]
  have hmt:mtT .append (h++l) (.ref (h.length+q))=true:=by simp only[mtT,a2h h2,Option.isSome_some]
  have hap:=a0E (h:=h) (d:=D.str x) h2 (show P.length<16777216 by omega)
  simp only[rpB];simp_arith[op2,a5v,hx,hix,hmt,hap];rw[List.set_set] at ih;rw[List.append_assoc] at ih;exact ih
theorem a3Q(x:Str)(l:AH)(R B:List D)(e:Option D)(d9:List D)(h1:l[1]? =some (.lst R))(h2:l[2]? =some (.lst B))(h3:l[3]? =some (.lst S))(hx:G4 x=true)(hR:R.length<=1000)(hB:B.length<=1000):
 ∃e',N5 [(h.length+3,.lst S)] (.nm 3) (exs ct c rpB) (D.str x::d9) [some (.ref w),some (.ref (h.length+1)),some (.ref (h.length+2)),e] (h++l)=
  N5 [(h.length+3,.lst S)] (.nm 3) (exs ct c rpB) d9 [some (.ref w),some (.ref (h.length+1)),some (.ref (h.length+2)),e'] (h++((l.set 2 (.lst (B++[.str x]))).set 1 (.lst (R++[.ref (h.length+l.length)]))++[.lst []])):=by
 refine⟨some (.str x),?_⟩
 have hg:gOk [(h.length+3,Cell.lst S)] (h++l)=true:=by simp[gOk,u8,h3]
 rw[N5,if_pos hg];simp only[G9]
 have hm2:mtT .append (h++l) (.ref (h.length+2))=true:=by simp only[mtT,a2h h2,Option.isSome_some]
 have ha2:=a0E (h:=h) (d:=D.str x) h2 (show B.length<16777216 by omega)
 have h1':(l.set 2 (Cell.lst (B++[.str x])))[1]? =some (.lst R):=by rw[List.getElem?_set_ne (by decide)];exact h1
 have hm1:mtT .append (h++l.set 2 (.lst (B++[.str x]))) (.ref (h.length+1))=true:=by simp only[mtT,a2h h1',Option.isSome_some]
 have h1'':(l.set 2 (Cell.lst (B++[.str x]))++[.lst []])[1]? =some (.lst R):=b7 h1'
 have ha1:mtD .append (h++l.set 2 (.lst (B++[.str x]))++[.lst []]) (.ref (h.length+1)) [.ref (h++l.set 2 (.lst (B++[.str x]))).length]=.ok .non (h++((l.set 2 (.lst (B++[.str x]))).set 1 (.lst (R++[.ref (h.length+l.length)]))++[.lst []])):=by
  rw[List.append_assoc,a0E h1'' (show R.length<16777216 by omega)]
  have hl:1<(l.set 2 (Cell.lst (B++[.str x]))).length:=(List.getElem?_eq_some_iff.mp h1').1
  rw[List.set_append_left _ _ hl];simp
 simp only[rpB];simp_arith[op2,a5v,hx,hm2,ha2,hm1,x5,ha1]
end
def i7(bef core aft told:List Str):List Str:=bef++("/":Str)::(core++("/":Str)::(aft++(">":Str)::told))
def Z2(n:Nat)(bef core aft told:List Str):AH:=[.lst (bef.map .str),.lst [.ref n,.ref (n+4),.ref (n+5),.ref (n+6)],.lst [.str "/",.str "/",.str ">"],.lst ((i7 bef core aft told).map .str),.lst (core.map .str),.lst (aft.map .str),.lst (told.map .str),.lst [.str "/",.str "/",.str ">"]]
section
variable{ct:CT}{F:Nat->Option Fn}(W:PF F)
include W
theorem a0j{k w:Nat}{h:AH}{x t f:Str}{bef core aft told:List Str}(hw:h[w]? =some (.lst (.str x::.str t::.str f::(i7 bef core aft told).map .str)))
 (pl:∀y∈bef++core++aft++told,G4 y=false) (hl:(bef++core++aft++told).length<=1000):b6 ct F (k+1) 28 [.ref w] h=.ok (.ref (h.length+1)) (h++Z2 h.length bef core aft told):=by
 rw[n0 W.f28 rfl]
 have hf:O0=⟨1,4,0,(.cons (.set 1 (.lst (.cons (.lst .nil) .nil))) (.cons (.set 2 (.lst .nil)) (.cons (.for (.nm 3) (.seq (.sl (.v 0) (.at (.k (.int (3)))) .no)) rpB) (.cons (.iff (.cmp .ne (.v 2) (.lst (.cons (.k (.str "/")) (.cons (.k (.str "/")) (.cons (.k (.str ">")) .nil))))) (.cons (.ret (.k .non)) .nil) .nil) (.cons (.ret (.v 1)) .nil)))))⟩:=rfl
 simp only[hf];rw[gc0]
 have e3:∀xs,O3 xs (some 3) none=xs.drop 3:=Q2 3
 have hw':=b7 (g:=[Cell.lst [],.lst [.ref h.length],.lst []]) hw
 simp only[List.length_append] at hl
 have m1:∀y∈bef,G4 y=false:=fun y hy=>pl y (by simp[hy])
 have m2:∀y∈core,G4 y=false:=fun y hy=>pl y (by simp[hy])
 have m3:∀y∈aft,G4 y=false:=fun y hy=>pl y (by simp[hy])
 have m4:∀y∈told,G4 y=false:=fun y hy=>pl y (by simp[hy])
 have ps:G4 "/"=true:=by decide
 have pg:G4 ">"=true:=by decide
 obtain⟨e1,s1⟩:=a2e (ct:=ct) (c:=b6 ct F k) (h:=h) (w:=w) (q:=0) (S:=(i7 bef core aft told).map D.str) bef [.lst [],.lst [.ref h.length],.lst [],.lst ((i7 bef core aft told).map D.str)] [] [] none ((("/":Str)::(core++("/":Str)::(aft++(">":Str)::told))).map D.str) rfl rfl rfl (by decide) (by decide) m1 (by simp;omega)
 obtain⟨e2,s2⟩:=a3Q (ct:=ct) (c:=b6 ct F k) (h:=h) (w:=w) (S:=(i7 bef core aft told).map D.str) "/" [.lst (bef.map .str),.lst [.ref h.length],.lst [],.lst ((i7 bef core aft told).map D.str)] [.ref h.length] [] e1 ((core++("/":Str)::(aft++(">":Str)::told)).map D.str) rfl rfl rfl ps (by simp) (by simp)
 obtain⟨e3',s3⟩:=a2e (ct:=ct) (c:=b6 ct F k) (h:=h) (w:=w) (q:=4) (S:=(i7 bef core aft told).map D.str) core [.lst (bef.map .str),.lst [.ref h.length,.ref (h.length+4)],.lst [.str "/"],.lst ((i7 bef core aft told).map D.str),.lst []] [.ref h.length] [] e2 ((("/":Str)::(aft++(">":Str)::told)).map D.str) rfl rfl rfl (by decide) (by decide) m2 (by simp;omega)
 obtain⟨e4,s4⟩:=a3Q (ct:=ct) (c:=b6 ct F k) (h:=h) (w:=w) (S:=(i7 bef core aft told).map D.str) "/" [.lst (bef.map .str),.lst [.ref h.length,.ref (h.length+4)],.lst [.str "/"],.lst ((i7 bef core aft told).map D.str),.lst (core.map .str)] [.ref h.length,.ref (h.length+4)] [.str "/"] e3' ((aft++(">":Str)::told).map D.str) rfl rfl rfl ps (by simp) (by simp)
 obtain⟨e5,s5⟩:=a2e (ct:=ct) (c:=b6 ct F k) (h:=h) (w:=w) (q:=5) (S:=(i7 bef core aft told).map D.str) aft [.lst (bef.map .str),.lst [.ref h.length,.ref (h.length+4),.ref (h.length+5)],.lst [.str "/",.str "/"],.lst ((i7 bef core aft told).map D.str),.lst (core.map .str),.lst []] [.ref h.length,.ref (h.length+4)] [] e4 (((">":Str)::told).map D.str) rfl rfl rfl (by decide) (by decide) m3 (by simp;omega)
 obtain⟨e6,s6⟩:=a3Q (ct:=ct) (c:=b6 ct F k) (h:=h) (w:=w) (S:=(i7 bef core aft told).map D.str) ">" [.lst (bef.map .str),.lst [.ref h.length,.ref (h.length+4),.ref (h.length+5)],.lst [.str "/",.str "/"],.lst ((i7 bef core aft told).map D.str),.lst (core.map .str),.lst (aft.map .str)] [.ref h.length,.ref (h.length+4),.ref (h.length+5)] [.str "/",.str "/"] e5 (told.map D.str) rfl rfl rfl pg (by simp) (by simp)
 obtain⟨e7,s7⟩:=a2e (ct:=ct) (c:=b6 ct F k) (h:=h) (w:=w) (q:=6) (S:=(i7 bef core aft told).map D.str) told [.lst (bef.map .str),.lst [.ref h.length,.ref (h.length+4),.ref (h.length+5),.ref (h.length+6)],.lst [.str "/",.str "/",.str ">"],.lst ((i7 bef core aft told).map D.str),.lst (core.map .str),.lst (aft.map .str),.lst []] [.ref h.length,.ref (h.length+4),.ref (h.length+5)] [] e6 [] rfl rfl rfl (by decide) (by decide) m4 (by simp;omega)
 have sx:(i7 bef core aft told).map D.str=bef.map D.str++(("/":Str)::(core++("/":Str)::(aft++(">":Str)::told))).map D.str:=by unfold i7;rw[List.map_append]
 have all:N5 [(h.length+3,.lst ((i7 bef core aft told).map D.str))] (.nm 3) (exs ct (b6 ct F k) rpB) ((i7 bef core aft told).map D.str) [some (.ref w),some (.ref (h.length+1)),some (.ref (h.length+2)),none] (h++[.lst [],.lst [.ref h.length],.lst [],.lst ((i7 bef core aft told).map D.str)])=
  .ok (.nx [some (.ref w),some (.ref (h.length+1)),some (.ref (h.length+2)),e7]) (h++[.lst (bef.map .str),.lst [.ref h.length,.ref (h.length+4),.ref (h.length+5),.ref (h.length+6)],.lst [.str "/",.str "/",.str ">"],.lst ((i7 bef core aft told).map D.str),.lst (core.map .str),.lst (aft.map .str),.lst (told.map .str)]):=by
  rw[←sx] at s1;refine s1.trans ?_
  refine s2.trans ?_
  rw[List.map_append];refine s3.trans ?_
  refine s4.trans ?_
  rw[List.map_append];refine s5.trans ?_
  refine s6.trans ?_
  rw[List.append_nil] at s7;refine s7.trans ?_
  rw[N5,if_pos (by simp[gOk,u8])]
  rfl
 simp_arith[x5,List.append_assoc,L1 hw',e3,List.drop_succ_cons,List.drop_zero,a0q,List.length_append,u8,all]
 have hne:op2 .ne (h++[Cell.lst (bef.map D.str),.lst [.ref h.length,.ref (h.length+4),.ref (h.length+5),.ref (h.length+6)],.lst [.str "/",.str "/",.str ">"],.lst ((i7 bef core aft told).map D.str),.lst (core.map .str),.lst (aft.map .str),.lst (told.map .str),.lst [.str "/",.str "/",.str ">"]]) (.ref (h.length+2)) (.ref (h.length+7))=
  .ok (.bl false) (h++[Cell.lst (bef.map D.str),.lst [.ref h.length,.ref (h.length+4),.ref (h.length+5),.ref (h.length+6)],.lst [.str "/",.str "/",.str ">"],.lst ((i7 bef core aft told).map D.str),.lst (core.map .str),.lst (aft.map .str),.lst (told.map .str),.lst [.str "/",.str "/",.str ">"]]):=by
  exact b4K rfl rfl (by decide) (by decide)
 simp_arith[hne];rfl
end
end EV
namespace EV
open PySem L2 L2T
def M4(z:Str):Bool:=decide ((cd z).head? =some 64)&&d0 (tl z)
def T3(z:Str):Bool:=d0 z||M4 z
def L5(H:HD)(z:Str):Bool:=if M4 z then decide (tl z∈H.classes.map (·.1)) else decide (z∈H.shapes.map (·.1))
theorem a5w{z:Str}{c:Nat}(h:(cd z).head? =some c):1<=z.length:=by
 rw[←o8]
 cases hq:cd z with
 |nil=>rw[hq] at h;cases h
 |cons c r=>simp
theorem b6p(z:Str):(tl z).length<=z.length:=by
 rw[←o8,←o8,a3z,List.length_drop];omega
section
variable{ct:CT}{F:Nat->Option Fn}(W:PF F)
include W
theorem a1z{n:Nat}{z:Str}{h:AH}(h1:1<=z.length)(hz:z.length<=100000):b6 ct F (n+1) 6 [.str z] h=.ok (.str (tl z)) h:=by
 rw[n0 W.f6 rfl];simp only[J5]
 have hl:z.length<=SL:=by show _<=16777216;omega
 have ha:(Str.ofString "@").length=1:=by decide
 simp_arith[biD,ha,slD,if_pos hl,Int.cast_ofNat_Int];rw[a5a z h1];exact E1 rfl
theorem a1w{n:Nat}{z:Str}{h:AH}(hz:z.length<=100000):b6 ct F (n+3) 7 [.str z] h=.ok (.bl (M4 z)) h:=by
 rw[n0 W.f7 rfl];simp only[J2]
 have hst:Txt.startswith z "@"=decide ((cd z).head? =some 64):=a1Z
 unfold M4
 by_cases h1:(cd z).head? =some 64
 · have hl1:=a5w h1
   have ht:(tl z).length<=100000:=Nat.le_trans (b6p z) hz
   simp_arith[mtT,mtD,hst,h1,decide_true,a1z W hl1 hz,F5 W ht,Bool.true_and];exact E1 rfl
 · simp_arith[mtT,mtD,hst,h1,decide_false,Bool.false_and];exact E1 rfl
theorem a6o{n:Nat}{z:Str}{h:AH}(hz:z.length<=100000):b6 ct F (n+4) 8 [.str z] h=.ok (.bl (T3 z)) h:=by
 rw[n0 W.f8 rfl];simp only[a0a];unfold T3;simp_arith[F5 W hz,a1w W hz]
 cases d0 z with
 |true=>simp_arith[Bool.true_or];exact E1 rfl
 |false=>simp_arith[Bool.false_or];exact E1 rfl
theorem a4L{n w:Nat}{ws:List Str}{h:AH}(hw:h[w]? =some (.lst (ws.map D.str)))(hl:ws.length<=SL)(hs:∀x∈ws,x.length<=100000):b6 ct F (n+5) 11 [.ref w] h=.ok (.bl (ws.all T3)) h:=
 a1n (n:=n+4) W W.f11 rfl hw hl fun x hx=>a6o W (hs x hx)
theorem a5y{k n:Nat}{h:AH}{H:HD}{z:Str}(A:HallAt h n H)(hz:z.length<=100000):b6 ct F (k+4) 30 [.ref n,.str z] h=.ok (.bl (L5 H z)) h:=by
 rw[n0 W.f30 rfl];simp only[V6];unfold L5;simp_arith[a1w W hz]
 cases hc:M4 z with
 | true=>
  have hl1:1<=z.length:=by
   unfold M4 at hc;rw[Bool.and_eq_true] at hc;exact a5w (of_decide_eq_true hc.1)
  simp_arith[a1z W hl1 hz,A.fld6,op2,W1 A.c6];exact E1 rfl
 |false=>
  simp_arith[A.fld1,op2,W1 A.c1];exact E1 rfl
theorem a4p{k n w:Nat}{h:AH}{H:HD}{ws:List Str}(A:HallAt h n H)(hw:h[w]? =some (.lst (ws.map .str)))(hl:ws.length<=SL)(hs:∀x∈ws,x.length<=100000):b6 ct F (k+5) 29 [.ref n,.ref w] h=.ok (.bl (ws.all (L5 H))) h:=by
 rw[n0 W.f29 rfl];simp only[R4];simp_arith[];rw[y9 (l:=ws.map D.str) (g:=[(w,.lst (ws.map D.str))]) (h1:=h) ?_ (by simp[gOk,hw]) (fun d=>match d with|.str x=>.bl (L5 H x)|_=>.non) (fun d=>[some d,some (.ref n)]) ?_ (by simpa using hl)]
 · have e:(ws.map D.str).map (fun d=>match d with|D.str x=>D.bl (L5 H x)|_=>D.non)=ws.map fun x=>D.bl (L5 H x):=by
    rw[List.map_map];rfl
   rw[e];simp_arith[a1T];exact gc1 rfl
 · simp_arith[a0q,hw]
 · intro x hx;obtain⟨y,hy,rfl⟩:=List.mem_map.mp hx;refine⟨rfl,?_⟩
   simp_arith[a5y W A (hs y hy)]
theorem a5x{k n:Nat}{h:AH}{H:HD}{t:Str}(A:HallAt h n H)(hl:H.rules.length<=100000):b6 ct F (k+1) 31 [.ref n,.str t] h=.ok (.bl (decide (t∈H.rules.map (·.1)))) h:=by
 rw[n0 W.f31 rfl];simp only[V5];simp_arith[];rw[y9 (l:=rd H.rules) (g:=[(n+8,.lst (rd H.rules))]) (h1:=h) ?_ (by simp[gOk,A.c8]) (fun d=>match d with|.tup (.str x::_)=>.bl (decide (x=t))|_=>.non) (fun d=>[some d,some (.str t)]) ?_ (by simp[rd];show _<=16777216;omega)]
 · have e:(rd H.rules).map (fun d=>match d with|D.tup (D.str x::_)=>D.bl (decide (x=t))|_=>D.non)=H.rules.map fun r=>D.bl (decide (r.1=t)):=by
    unfold rd;rw[List.map_map];rfl
   rw[e];simp_arith[b3p]
   have e2:(H.rules.any fun r=>decide (r.1=t))=decide (t∈H.rules.map (·.1)):=by
    rw[Bool.eq_iff_iff,List.any_eq_true,decide_eq_true_iff,List.mem_map];exact⟨fun⟨r,h1,h2⟩=>⟨r,h1,of_decide_eq_true h2⟩,fun⟨r,h1,h2⟩=>⟨r,h1,decide_eq_true h2⟩⟩
   rw[e2];exact gc1 rfl
 · simp_arith[A.fld8,a0q,A.c8]
 · intro x hx;unfold rd at hx;obtain⟨y,hy,rfl⟩:=List.mem_map.mp hx;refine⟨rfl,?_⟩
   have:atI (D.str y.1::y.2) 0=some (D.str y.1):=by simp[atI,ixN]
   simp_arith[ixD,this,op2,G0,eqS]
end
end EV
namespace EV
open PySem L2 L2T
theorem a5B{h l:AH}:(h++l)[h.length]? =l[0]? :=u8 (i:=0)
structure RP(g:AH)(n:Nat)(bef core aft told:List Str):Prop where
 l:g[n+1]? =some (.lst [.ref n,.ref (n+4),.ref (n+5),.ref (n+6)])
 p0:g[n]? =some (.lst (bef.map .str))
 p1:g[n+4]? =some (.lst (core.map .str))
 p2:g[n+5]? =some (.lst (aft.map .str))
 p3:g[n+6]? =some (.lst (told.map .str))
theorem RP.mk'{h:AH}{bef core aft told:List Str}:RP (h++Z2 h.length bef core aft told) h.length bef core aft told:=
 ⟨u8,a5B,u8,u8,u8⟩
theorem RP.app{g:AH}{n:Nat}{bef core aft told:List Str}(r:RP g n bef core aft told)(t:AH):RP (g++t) n bef core aft told:=⟨b7 r.l,b7 r.p0,b7 r.p1,b7 r.p2,b7 r.p3⟩
theorem RP.i0{g:AH}{n:Nat}{bef core aft told:List Str}(r:RP g n bef core aft told):ixD g (.ref (n+1)) (.int 0)=.ok (.ref n) g:=r8 0 0 rfl r.l rfl
theorem RP.i1{g:AH}{n:Nat}{bef core aft told:List Str}(r:RP g n bef core aft told):ixD g (.ref (n+1)) (.int 1)=.ok (.ref (n+4)) g:=r8 1 1 rfl r.l rfl
theorem RP.i2{g:AH}{n:Nat}{bef core aft told:List Str}(r:RP g n bef core aft told):ixD g (.ref (n+1)) (.int 2)=.ok (.ref (n+5)) g:=r8 2 2 rfl r.l rfl
theorem RP.i3{g:AH}{n:Nat}{bef core aft told:List Str}(r:RP g n bef core aft told):ixD g (.ref (n+1)) (.int 3)=.ok (.ref (n+6)) g:=r8 3 3 rfl r.l rfl
theorem a1a{g:AH}{a b:Nat}{xs ys:List D}(h1:g[a]? =some (.lst xs))(h2:g[b]? =some (.lst ys))(hl:xs.length+ys.length<=100000):W0 g (.ref a) (.ref b)=.ok (.ref g.length) (g++[.lst (xs++ys)]):=by
 simp only[W0,h1,h2];rw[if_pos (by show _<=16777216;omega)]
 rfl
theorem b9s{b x:Bool}{h:AH}:(if b=true then R.ok (D.bl x) h else R.ok (D.bl false) h)=.ok (.bl (b&&x)) h:=by cases b<;>rfl
theorem b5L:(true !=false)=true:=rfl
structure RuleForm(t f:Str)(bef core aft told:List Str):Prop where
 ht:d0 t=true
 hf:d0 f=true
 b:bef.length<=3
 c1:1<=core.length
 c2:core.length<=4
 a:aft.length<=3
 o1:1<=told.length
 o2:told.length<=3
 it:(bef++core++aft).all T3=true
 to:told.all d0=true
 len:∀y∈t::f::(bef++core++aft++told),y.length<=100000
theorem a6X{y:Str}(h:T3 y=true):G4 y=false:=by
 cases hp:G4 y with
 |false=>rfl
 |true=>
  unfold G4 at hp;rw[Bool.or_eq_true] at hp
  rcases hp with e|e
  · have e:=of_decide_eq_true e;subst e
    revert h
    decide
  · have e:=of_decide_eq_true e;subst e
    revert h
    decide
theorem RuleForm.pl{t f:Str}{bef core aft told:List Str}(r:RuleForm t f bef core aft told):∀y∈bef++core++aft++told,G4 y=false:=fun y hy=>by
 rcases List.mem_append.mp hy with hy|hy
 · exact a6X (List.all_eq_true.mp r.it y hy)
 · exact a6X (by unfold T3;rw[List.all_eq_true.mp r.to y hy];rfl)
theorem RuleForm.sz{t f:Str}{bef core aft told:List Str}(r:RuleForm t f bef core aft told):(bef++core++aft++told).length<=1000:=by
 have:=r.b;have:=r.c2;have:=r.a;have:=r.o2
 simp only[List.length_append];omega
section
variable{ct:CT}{F:Nat->Option Fn}(W:PF F)
include W
theorem a1i{k w:Nat}{h:AH}{x t f:Str}{bef core aft told:List Str}(hw:h[w]? =some (.lst (.str x::.str t::.str f::(i7 bef core aft told).map .str)))(r:RuleForm t f bef core aft told):b6 ct F (k+6) 27 [.ref w] h=.ok (.bl true) h:=by
 rw[n0 W.f27 rfl];simp only[J4]
 have e13:O3 (.str x::.str t::.str f::(i7 bef core aft told).map .str) (some 1) (some 3)=[.str t,.str f]:=by
  have:=a0d 1 3 (.str x::.str t::.str f::(i7 bef core aft told).map .str) (by decide) (by simp)
  exact this
 have hw1:=b7 (g:=[Cell.lst [.str t,.str f]]) hw
 have hn:b6 ct F (k+5) 9 [.ref h.length] (h++[.lst [.str t,.str f]])=.ok (.bl true) (h++[.lst [.str t,.str f]]):=by
  have:=O5 (ct:=ct) (n:=k+2) (ws:=[t,f]) W (b8 (h:=h) (c:=.lst [.str t,.str f])) (by show 2<=16777216;decide) (fun y hy=>r.len y (by
   rcases List.mem_cons.mp hy with rfl|hy
   · simp
   · rw[List.mem_singleton] at hy;subst hy;simp))
  simpa [r.ht,r.hf] using this
 have hp:=a0j (ct:=ct) (k:=k+4) W hw1 r.pl r.sz;have R:=RP.mk' (h:=h++[Cell.lst [.str t,.str f]]) (bef:=bef) (core:=core) (aft:=aft) (told:=told);generalize hn1:(h++[Cell.lst [.str t,.str f]]).length=n at hp R;generalize hg:h++[Cell.lst [.str t,.str f]]++Z2 n bef core aft told=g at hp R;have R1:=R.app [.lst (bef.map D.str++core.map D.str)];have R2:=R1.app [.lst (bef.map D.str++core.map D.str++aft.map D.str)];have lb:=r.b;have lc1:=r.c1;have lc2:=r.c2;have la:=r.a;have lo1:=r.o1;have lo2:=r.o2;have a1:=a1a R.p0 R.p1 (by simp;omega)
 have a2:=a1a (b8 (h:=g) (c:=.lst (bef.map D.str++core.map D.str))) R1.p2 (by simp;omega)
 have hi:b6 ct F (k+5) 11 [.ref (g++[Cell.lst (bef.map D.str++core.map D.str)]).length] (g++[.lst (bef.map D.str++core.map D.str)]++[.lst (bef.map D.str++core.map D.str++aft.map D.str)])=.ok (.bl true) (g++[.lst (bef.map D.str++core.map D.str)]++[.lst (bef.map D.str++core.map D.str++aft.map D.str)]):=by
  have:=a4L (ct:=ct) (n:=k) (ws:=bef++core++aft) W (h:=g++[.lst (bef.map D.str++core.map D.str)]++[.lst (bef.map D.str++core.map D.str++aft.map D.str)]) (w:=(g++[Cell.lst (bef.map D.str++core.map D.str)]).length) (by rw[b8];simp) (by show _<=16777216;simp;omega) (fun y hy=>r.len y (List.mem_cons_of_mem _ (List.mem_cons_of_mem _ (List.mem_append_left _ hy))))
  rw[r.it] at this;exact this
 have ht:b6 ct F (k+5) 9 [.ref (n+6)] (g++[.lst (bef.map D.str++core.map D.str)]++[.lst (bef.map D.str++core.map D.str++aft.map D.str)])=.ok (.bl true) (g++[.lst (bef.map D.str++core.map D.str)]++[.lst (bef.map D.str++core.map D.str++aft.map D.str)]):=by
  have:=O5 (ct:=ct) (n:=k+2) (ws:=told) W R2.p3 (by show _<=16777216;omega) (fun y hy=>r.len y (by simp[hy]))
  rw[r.to] at this;exact this
 have d1:decide ((3:Int)<(bef.length:Int))=false:=decide_eq_false (by omega)
 have d2:decide ((3:Int)<(aft.length:Int))=false:=decide_eq_false (by omega)
 have d3:decide ((1:Int)<=(core.length:Int))=true:=decide_eq_true (by omega)
 have d4:decide ((core.length:Int)<=4)=true:=decide_eq_true (by omega)
 have d5:decide ((1:Int)<=(told.length:Int))=true:=decide_eq_true (by omega)
 have d6:decide ((told.length:Int)<=3)=true:=decide_eq_true (by omega)
 have nn:∀m:Nat,decide (D.ref m=D.non)=false:=fun m=>decide_eq_false (fun z=>nomatch z)
 simp_arith[L1 hw,e13,hn,Bool.not_true,hp,nn,R.i0,R.i1,R.i2,R.i3,p8 R.p0,p8 R.p1,p8 R.p2,p8 R.p3,List.length_map,op2,D2,d1,d2,d3,d4,d5,d6,a1,a2,R1.i2,R2.i3,hi,ht];rw[←hg];simp only[List.append_assoc];exact gc1 rfl
theorem a3I{k n w:Nat}{h:AH}{H:HD}{x t f:Str}{bef core aft told:List Str}(A:HallAt h n H)(hr:H.rules.length<=100000)(hw:h[w]? =some (.lst (.str x::.str t::.str f::(i7 bef core aft told).map .str)))(r:RuleForm t f bef core aft told):
 ∃h',b6 ct F (k+7) 26 [.ref n,.ref w] h=.ok (T5 (due (decide (t∈H.rules.map (·.1))) (decide (f∈H.features.map (·.1))&&((bef++core++aft).all (L5 H)&&told.all fun x=>decide (x∈H.shapes.map (·.1)))) (decide ((30:Int)<=(H.rules.length:Int))))) h'/\Fr n h h'∧
  HallAt h' n (if(due (decide (t∈H.rules.map (·.1))) (decide (f∈H.features.map (·.1))&&((bef++core++aft).all (L5 H)&&told.all fun x=>decide (x∈H.shapes.map (·.1)))) (decide ((30:Int)<=(H.rules.length:Int)))).isNone then{H with rules:=H.rules++[(t,[.str f,.tup (bef.map .str),.tup (core.map .str),.tup (aft.map .str),.tup (told.map .str)])]} else H):=by
 rw[n0 W.f26 rfl];simp only[Q7];rw[gc0];have hp:=a0j (ct:=ct) (k:=k+5) W hw r.pl r.sz;have R:=RP.mk' (h:=h) (bef:=bef) (core:=core) (aft:=aft) (told:=told);have A0:=A.app (Z2 h.length bef core aft told);have fr0:=Fr.app n h (Z2 h.length bef core aft told);generalize h.length=m at hp R A0 fr0;generalize h++Z2 m bef core aft told=g at hp R A0 fr0;have R1:=R.app [.lst (bef.map D.str++core.map D.str)];have R2:=R1.app [.lst (bef.map D.str++core.map D.str++aft.map D.str)];have A2:=(A0.app [.lst (bef.map D.str++core.map D.str)]).app [.lst (bef.map D.str++core.map D.str++aft.map D.str)];have lb:=r.b;have lc2:=r.c2;have la:=r.a;have lo2:=r.o2;have a1:=a1a R.p0 R.p1 (by simp;omega)
 have a2:=a1a (b8 (h:=g) (c:=.lst (bef.map D.str++core.map D.str))) R1.p2 (by simp;omega)
 have hi:=a4p (ct:=ct) (k:=k+1) (ws:=bef++core++aft) W A2 (w:=(g++[Cell.lst (bef.map D.str++core.map D.str)]).length) (by rw[b8];simp) (by show _<=16777216;simp;omega) (fun y hy=>r.len y (List.mem_cons_of_mem _ (List.mem_cons_of_mem _ (List.mem_append_left _ hy))))
 have hs:=T4 (ct:=ct) (k:=k+5) W A2 R2.p3 (by show _<=16777216;omega)
 have hq:=a5x (ct:=ct) (k:=k+5) (t:=t) W A2 hr
 have fr2:Fr n h (g++[.lst (bef.map D.str++core.map D.str)]++[.lst (bef.map D.str++core.map D.str++aft.map D.str)]):=fr0.trans ((Fr.app n g _).trans (Fr.app n _ _))
 have lr:biD .len (g++[.lst (bef.map D.str++core.map D.str)]++[.lst (bef.map D.str++core.map D.str++aft.map D.str)]) [.ref (n+8)]=.ok (.int H.rules.length) (g++[.lst (bef.map D.str++core.map D.str)]++[.lst (bef.map D.str++core.map D.str++aft.map D.str)]):=by
  rw[p8 A2.c8];simp[rd]
 generalize hG:g++[Cell.lst (bef.map D.str++core.map D.str)]++[.lst (bef.map D.str++core.map D.str++aft.map D.str)]=G at a2 hi hs hq lr A2 R2 fr2
 have hmt:mtT .append G (.ref (n+8))=true:=by
  have:rdL G (n+8)=some (rd H.rules):=by unfold rdL;rw[A2.c8]
  simp only[mtT,this,Option.isSome_some]
 have hap:∀d,mtD .append G (.ref (n+8)) [d]=.ok .non (G.set (n+8) (.lst (rd H.rules++[d]))):=fun d=>by
  simp only[mtD,A2.c8];rw[if_pos (by show(rd H.rules).length<16777216;simp[rd];omega)]
 simp_arith[a1i W hw r,Bool.not_true,r8 1 1 rfl hw rfl,r8 2 2 rfl hw rfl,hp,R.i0,R.i1,op2,a1,R1.i2,a2,A2.fld7,W1 A2.c7,hi,R2.i3,hs,b9s,hq,A2.fld8,lr,D2,y8 W,U5];generalize hd:due (decide (t∈H.rules.map (·.1))) (decide (f∈H.features.map (·.1))&&((bef++core++aft).all (L5 H)&&told.all fun x=>decide (x∈H.shapes.map (·.1)))) (decide ((30:Int)<=(H.rules.length:Int)))=du
 cases du with
 |some f=>
  simp_arith[Option.isNone_some,T5];exact⟨G,rfl,fr2,A2⟩
 |none=>
  simp_arith[Option.isNone_none,A2.fld8,hmt,R2.i0,R2.i1,R2.i2,R2.i3,L9 R2.p0,L9 R2.p1,L9 R2.p2,L9 R2.p3,hap,T5];refine⟨_,rfl,fr2.trans (Fr.set (by omega) (by omega)),?_⟩
  have:=A2.s8 (H.rules++[(t,[.str f,.tup (bef.map .str),.tup (core.map .str),.tup (aft.map .str),.tup (told.map .str)])])
  rw[show rd (H.rules++[(t,[.str f,.tup (bef.map .str),.tup (core.map .str),.tup (aft.map .str),.tup (told.map .str)])])=rd H.rules++[.tup (.str t::[.str f,.tup (bef.map .str),.tup (core.map .str),.tup (aft.map .str),.tup (told.map .str)])] by simp[rd]] at this
  exact this
theorem a3W{k w:Nat}{h:AH}{a b:Str}{i j:Int}(hw:h[w]? =some (.lst [.str a,.str b]))(ha:a0i a=some i)(hb:a0i b=some j):b6 ct F (k+1) 16 [.ref w] h=.ok (.tup [.int i,.int j]) h:=by
 obtain⟨a1,a2⟩:=a1J ha;obtain⟨b1,b2⟩:=a1J hb;rw[n0 W.f16 rfl];simp only[Z7];simp_arith[r8 0 0 rfl hw rfl,r8 1 1 rfl hw rfl,a6r a2 a1,a6r b2 b1];exact E1 rfl
theorem a0L{k w:Nat}{h:AH}{x a sd:Str}{ws:List Str}{c:Int}(hw:h[w]? =some (.lst (.str x::.str a::.str sd::ws.map .str)))(ha:d0 a=true)(hal:a.length<=100000)(hs:inD (.str sd) [.str "above",.str "below"]=true)(hc:c=ws.length)(hn:ws.all a3a=true)(hwl:∀y∈ws,y.length<=100000)(hl:ws.length<=100000):b6 ct F (k+5) 18 [.ref w,.int c] h=.ok (.bl true) h:=by
 subst hc;rw[n0 W.f18 rfl];simp only[J3]
 have e3:∀xs,O3 xs (some 3) none=xs.drop 3:=Q2 3
 have hg:=a2U (ct:=ct) (n:=k) (ws:=ws) W (b8 (h:=h) (c:=.lst (ws.map .str))) (by show _<=16777216;omega) hwl
 rw[hn] at hg
 have hd:decide (((ws.length+1+1+1:Nat):Int)=3+(ws.length:Int))=true:=decide_eq_true (by omega)
 simp_arith[p8 hw,List.length_map,op2,W0,a0v,eqS,hd,Bool.not_true,r8 1 1 rfl hw rfl,r8 2 2 rfl hw rfl,F5 W hal,ha,hs,p7,List.all_cons,List.all_nil,Bool.and_self,and_self,b5L,L1 hw,e3,List.drop_succ_cons,List.drop_zero,hg];exact gc1 rfl
theorem a2O{k n w:Nat}{h:AH}{H:HD}{x a sd b c:Str}{i j:Int}(A:HallAt h n H)(hw:h[w]? =some (.lst [.str x,.str a,.str sd,.str b,.str c]))(ha:d0 a=true)(hal:a.length<=100000)(hs:inD (.str sd) [.str "above",.str "below"]=true)(hb:a0i b=some i)(hc:a0i c=some j)(hl:H.points.length<=100000):
 ∃h',b6 ct F (k+6) 20 [.ref n,.ref w] h=.ok (T5 (due (decide ((a,sd)∈H.points.map (·.1))) (decide (a∈H.shapes.map (·.1))) false)) h'/\Fr n h h'∧
  HallAt h' n (if(due (decide ((a,sd)∈H.points.map (·.1))) (decide (a∈H.shapes.map (·.1))) false).isNone then{H with points:=H.points++[((a,sd),.tup [.int i,.int j])]} else H):=by
 obtain⟨_,b2⟩:=a1J hb;obtain⟨_,c2⟩:=a1J hc
 have hf:b6 ct F (k+5) 18 [.ref w,.int 2] h=.ok (.bl true) h:=a0L (ws:=[b,c]) W hw ha hal hs rfl (by simp[a5b,hb,hc]) (fun y hy=>by
  rcases List.mem_cons.mp hy with rfl|hy
  · omega
  · rw[List.mem_singleton] at hy;subst hy;omega) (by simp)
 rw[n0 W.f20 rfl];simp only[N7];rw[gc0];simp_arith[hf,Bool.not_true,r8 1 1 rfl hw rfl,r8 2 2 rfl hw rfl,op2,A.fld3,b7p A.c3,A.fld1,W1 A.c1,y8 W,U5];generalize hd:due (decide ((a,sd)∈H.points.map (·.1))) (decide (a∈H.shapes.map (·.1))) false=du
 cases du with
 |some f=>
  simp_arith[Option.isNone_some,T5];exact⟨h,rfl,Fr.refl n h,A⟩
 |none=>
  obtain⟨d1,_,_⟩:=Y6 hd
  have e35:O3 [.str x,.str a,.str sd,.str b,.str c] (some 3) (some 5)=[.str b,.str c]:=a0d 3 5 _ (by decide) (by simp)
  have A1:=A.app [.lst [.str b,.str c]];simp_arith[Option.isNone_none,L1 hw,e35,a3W W (b8 (h:=h)) hb hc,A1.fld3,a7I A1.c3 (of_decide_eq_false d1) (show _<16777216 by omega),T5]
  exact⟨_,rfl,(Fr.app n h _).trans (Fr.set (by omega) (by omega)),A1.s3 _⟩
end
end EV
namespace EV
open PySem L2 L2T
section
variable{ct:CT}{F:Nat->Option Fn}
def W2(ct:CT)(F:Nat->Option Fn)(d:Nat)(H:HD)(ws:List Str)(du:Option Str)(H':HD):Prop:=∀(h:AH) (n w:Nat),HallAt h n H->h[w]? =some (.lst (ws.map .str))->∃h',b6 ct F d 13 [.ref n,.ref w] h=.ok (T5 du) h'/\Fr n h h'/\HallAt h' n H'
inductive Reads(ct:CT)(F:Nat->Option Fn)(d:Nat):HD->List Str->HD->Prop
 |nil (H:HD):Reads ct F d H [] H
 |take {H H1 H':HD} {row:Str} {d9:List Str} (hl:row.length<=100000) (hw:L7 row≠[]) (k:W2 ct F d H (L7 row) none H1) (t:Reads ct F d H1 d9 H'):Reads ct F d H (row::d9) H'
def rhB:Ss:=(.cons (.set 4 (.call 1 (.cons (.v 3) .nil))) (.cons (.iff (.cmp .gt (.bi .len (.cons (.v 4) .nil)) (.k (.int (0)))) (.cons (.set 5 (.call 13 (.cons (.v 1) (.cons (.v 4) .nil)))) (.cons (.iff (.notN (.v 5)) (.cons .bad .nil) .nil) .nil)) .nil) .nil))
variable(W:PF F)
include W
theorem b2t{d n:Nat}{R:List Str}{text:Str}{H H':HD}{rows:List Str}(q:Reads ct F (d+1) H rows H'):∀(p:Nat) (h:AH) (e2 e3 e4 e5:Option D),HallAt h n H->h[n+9]? =some (.lst (R.map .str))→
 ∃h',Fr n h h'/\HallAt h' n H'/\∃a2 a3 a4 a5,N5 [(n+9,.lst (R.map .str))] (.tp (.cons (.nm 2) (.cons (.nm 3) .nil))) (exs ct (b6 ct F (d+1)) rhB) (z3 p (rows.map D.str)) [some (.str text),some (.ref n),e2,e3,e4,e5] h=.ok (.nx [some (.str text),some (.ref n),a2,a3,a4,a5]) h':=by
 have step:∀{h:AH} {e2 e3 e4 e5:Option D} {row:Str} {d9:List D} {p:Nat},h[n+9]? =some (.lst (R.map .str))→
  N5 [(n+9,.lst (R.map .str))] (.tp (.cons (.nm 2) (.cons (.nm 3) .nil))) (exs ct (b6 ct F (d+1)) rhB) (.tup [.int p,.str row]::d9) [some (.str text),some (.ref n),e2,e3,e4,e5] h=
  (exs ct (b6 ct F (d+1)) rhB [some (.str text),some (.ref n),some (.int p),some (.str row),e4,e5] h).bind fun o h'=>match o with
   |.nx env''=>N5 [(n+9,.lst (R.map .str))] (.tp (.cons (.nm 2) (.cons (.nm 3) .nil))) (exs ct (b6 ct F (d+1)) rhB) d9 env'' h'
   |.rt d=>.ok (.rt d) h':=fun{h e2 e3 e4 e5 row d9 p} hs=>by
  rw[N5,if_pos (by simp[gOk,hs])]
  rfl
 induction q with
 |nil H=>
  intro p h e2 e3 e4 e5 A hs;refine⟨h,Fr.refl n h,A,e2,e3,e4,e5,?_⟩
  rw[List.map_nil,z3,N5,if_pos (by simp[gOk,hs])]
 | @take H H1 H' row d9 hl hw k t ih=>
  intro p h e2 e3 e4 e5 A hs;obtain⟨h1,k1,k2,k3⟩:=k (h++[.lst ((L7 row).map .str)]) n h.length (A.app _) b8
  have hs1:h1[n+9]? =some (.lst (R.map .str)):=by
   have hs0:=b7 (g:=[Cell.lst ((L7 row).map .str)]) hs;rw[k2.get (n+9) (List.getElem?_eq_some_iff.mp hs0).1 (by omega)]
   exact hs0
  obtain⟨h',f1,A',e2',e3',e4',e5',m⟩:=ih (p+1) h1 (some (.int p)) (some (.str row)) (some (.ref h.length)) (some .non) k3 hs1
  have hp:decide ((0:Int)<(((L7 row).map D.str).length:Int))=true:=decide_eq_true (by
   cases hq:L7 row with
   |nil=>exact absurd hq hw
   |cons a b=>simp)
  have e:exs ct (b6 ct F (d+1)) rhB [some (.str text),some (.ref n),some (.int p),some (.str row),e4,e5] h=.ok (.nx [some (.str text),some (.ref n),some (.int p),some (.str row),some (.ref h.length),some .non]) h1:=by
   simp only[rhB];simp_arith[a4Q W hl,p8 b8,op2,D2,hp,k1,T5,decide_true,Bool.not_true]
  refine⟨h',((Fr.app n h _).trans k2).trans f1,A',e2',e3',e4',e5',?_⟩
  rw[List.map_cons,z3,step hs,e,k7];exact m
theorem b2L{h h':AH}(f:Fr h.length h h'):h'.take h.length=h:=by
 refine List.ext_getElem? fun i=>?_
 by_cases hi:i<h.length
 · rw[List.getElem?_take_of_lt hi,f.get i hi (.inl hi)]
 · rw[List.getElem?_eq_none (by simp;omega),List.getElem?_eq_none (by omega)]
theorem a3T{d:Nat}{h:AH}{text:Str}{H':HD}(hin:ct.init 6=32)(ht:text.length<=10000000)(q:Reads ct F (d+1) {} (Txt.split text "\n") H'):
 ∃h',h'.take h.length=h/\HallAt h' h.length H'/\b6 ct F (d+2) 12 [.str text] h=.ok (.ref h.length) h':=by
 rw[n0 W.f12 rfl]
 have hf:Q9=⟨1,6,0,(.cons (.set 1 (.mk 6 .nil)) (.cons (.for (.tp (.cons (.nm 2) (.cons (.nm 3) .nil))) (.enum (.mt .split (.v 0) (.cons (.k (.str "\n")) .nil))) rhB) (.cons (.ret (.v 1)) .nil)))⟩:=rfl
 simp only[hf];rw[gc0]
 have A0:HallAt (h++[.obj 6 (a1j h.length),.dict [],.dict [],.dict [],.dict [],.lst [],.dict [],.dict [],.lst []]) h.length {}:=⟨a5B,u8,u8,u8,u8,u8,u8,u8,u8⟩
 have hlen:(h++[Cell.obj 6 (a1j h.length),.dict [],.dict [],.dict [],.dict [],.lst [],.dict [],.dict [],.lst []]).length=h.length+9:=by simp
 have hnew:=a9Y (ct:=ct) (n:=d) (h:=h) W;generalize hg:h++[Cell.obj 6 (a1j h.length),.dict [],.dict [],.dict [],.dict [],.lst [],.dict [],.dict [],.lst []]=g at*
 have A1:=A0.app [.lst ((Txt.split text "\n").map .str)]
 have hs:(g++[Cell.lst ((Txt.split text "\n").map .str)])[h.length+9]? =some (.lst ((Txt.split text "\n").map .str)):=by rw[←hlen];exact b8
 obtain⟨h',f1,A',e2,e3,e4,e5,m⟩:=b2t (d:=d) (R:=Txt.split text "\n") (text:=text) W q 0 (g++[.lst ((Txt.split text "\n").map .str)]) none none none none A1 hs
 have fr:Fr h.length h h':=by
  refine Fr.trans ?_ f1
  rw[←hg];exact(Fr.app _ h _).trans (Fr.app _ _ _)
 refine⟨h',b2L W fr,A',?_⟩
 have hsp:mtD .split g (.str text) [.str "\n"]=.ok (.ref g.length) (g++[.lst ((Txt.split text "\n").map .str)]):=by
  simp only[mtD];rw[if_pos ⟨by decide,by show _<=16777216;omega⟩]
  rfl
 have hen:a0m (g++[.lst ((Txt.split text "\n").map .str)]) (.ref g.length)=.ok (z3 0 ((Txt.split text "\n").map .str),[(h.length+9,.lst ((Txt.split text "\n").map .str))]) (g++[.lst ((Txt.split text "\n").map .str)]):=by
  simp only[a0m,hlen,hs]
 simp_arith[hin,hnew,mtT,hsp,hen,m]
end
end EV
namespace EV
open PySem L2 L2T
def dg(n:Nat):Str:=Str.ofString (toString (n:Int))
def abc:Str:="abcdefghijklmnopqrstuvwxyz"
def lt(i:Nat):Nat:=97+i
theorem b0R:∀i:Fin 26,(cd abc)[i.val]? =some (lt i.val)/\M9 (lt i.val)=true:=by decide+kernel
def nm(stem:Str)(k:Nat):Str:=(⟨#[lt (7*k%26)]⟩++stem)++dg (k*13%61)
theorem a2p{z:Str}(h:d0 z=true):1<=z.length/\z.length<=12:=by
 unfold d0 at h;rw[Bool.and_eq_true,Bool.and_eq_true] at h;exact⟨of_decide_eq_true h.1.1,of_decide_eq_true h.1.2⟩
theorem a7X{z:Str}(h:d0 z=true){c:Nat}(hc:M9 c=false):c∉cd z:=by
 unfold d0 at h;rw[Bool.and_eq_true] at h;intro hm
 have:=List.all_eq_true.mp h.2 c hm
 rw[hc] at this;cases this
end EV
namespace EV
open PySem L2 L2T
section
variable{ct:CT}{F:Nat->Option Fn}(W:PF F)
include W
section
variable{k n w:Nat}{h:AH}{d9:List D}
theorem a8D(hw:h[w]? =some (.lst (.str "shape"::d9))):b6 ct F (k+1) 13 [.ref n,.ref w] h=b6 ct F k 17 [.ref n,.ref w] h:=by
 rw[n0 W.f13 rfl];simp only[z4];rw[gc0];simp_arith[r8 0 0 rfl hw rfl,op2,G0,eqS,decide_true,decide_false];generalize b6 ct F k 17 [.ref n,.ref w] h=r
 cases r<;>simp_arith[]
theorem a8E(hw:h[w]? =some (.lst (.str "point"::d9))):b6 ct F (k+1) 13 [.ref n,.ref w] h=b6 ct F k 20 [.ref n,.ref w] h:=by
 rw[n0 W.f13 rfl];simp only[z4];rw[gc0];simp_arith[r8 0 0 rfl hw rfl,op2,G0,eqS,decide_true,decide_false];generalize b6 ct F k 20 [.ref n,.ref w] h=r
 cases r<;>simp_arith[]
theorem a7D(hw:h[w]? =some (.lst (.str "letter"::d9))):b6 ct F (k+1) 13 [.ref n,.ref w] h=b6 ct F k 22 [.ref n,.ref w] h:=by
 rw[n0 W.f13 rfl];simp only[z4];rw[gc0];simp_arith[r8 0 0 rfl hw rfl,op2,G0,eqS,decide_true,decide_false];generalize b6 ct F k 22 [.ref n,.ref w] h=r
 cases r<;>simp_arith[]
theorem a8F(hw:h[w]? =some (.lst (.str "class"::d9))):b6 ct F (k+1) 13 [.ref n,.ref w] h=b6 ct F k 24 [.ref n,.ref w] h:=by
 rw[n0 W.f13 rfl];simp only[z4];rw[gc0];simp_arith[r8 0 0 rfl hw rfl,op2,G0,eqS,decide_true,decide_false];generalize b6 ct F k 24 [.ref n,.ref w] h=r
 cases r<;>simp_arith[]
theorem a5V(hw:h[w]? =some (.lst (.str "feature"::d9))):b6 ct F (k+1) 13 [.ref n,.ref w] h=b6 ct F k 25 [.ref n,.ref w] h:=by
 rw[n0 W.f13 rfl];simp only[z4];rw[gc0];simp_arith[r8 0 0 rfl hw rfl,op2,G0,eqS,decide_true,decide_false];generalize b6 ct F k 25 [.ref n,.ref w] h=r
 cases r<;>simp_arith[]
theorem b1w(hw:h[w]? =some (.lst (.str "rule"::d9))):b6 ct F (k+1) 13 [.ref n,.ref w] h=b6 ct F k 26 [.ref n,.ref w] h:=by
 rw[n0 W.f13 rfl];simp only[z4];rw[gc0];simp_arith[r8 0 0 rfl hw rfl,op2,G0,eqS,decide_true,decide_false];generalize b6 ct F k 26 [.ref n,.ref w] h=r
 cases r<;>simp_arith[]
end
def b8f{α:Type}(o:Option Str)(a b:α):α:=match o with
 |none=>a
 |some _=>b
variable{d:Nat}{H:HD}
theorem a8G{a b:Str}{v:Int}(ha:d0 a=true)(hb:U0 b=some v):W2 ct F (d+9) H [("shape":Str),a,b] (due (decide (a∈H.shapes.map (·.1))) true (decide ((60:Int)<=(H.shapes.length:Int))))
 (b8f (due (decide (a∈H.shapes.map (·.1))) true (decide ((60:Int)<=(H.shapes.length:Int)))) {H with shapes:=H.shapes++[(a,.int v)]} H):=by
 intro h n w A hw
 have:=a2N (ct:=ct) (k:=d+5) W A hw ha (by have:=a2p ha;omega) hb
 rw[a8D W hw,this];generalize due (decide (a∈H.shapes.map (·.1))) true (decide ((60:Int)<=(H.shapes.length:Int)))=du
 cases du with
 |none=>exact⟨_,rfl,Fr.set (by omega) (by omega),A.s1 _⟩
 |some f=>exact⟨_,rfl,Fr.refl n h,A⟩
theorem a5W{a b:Str}(ha:d0 a=true)(hb:b="on"∨b="off"):W2 ct F (d+9) H [("feature":Str),a,b] (due (decide (a∈H.features.map (·.1))) true (decide ((10:Int)<=(H.features.length:Int))))
 (b8f (due (decide (a∈H.features.map (·.1))) true (decide ((10:Int)<=(H.features.length:Int)))) {H with features:=H.features++[(a,.bl (decide (b="on")))]} H):=by
 intro h n w A hw
 have:=a1B (ct:=ct) (k:=d+5) W A hw ha (by have:=a2p ha;omega) hb
 rw[a5V W hw,this];generalize due (decide (a∈H.features.map (·.1))) true (decide ((10:Int)<=(H.features.length:Int)))=du
 cases du with
 |none=>exact⟨_,rfl,Fr.set (by omega) (by omega),A.s7 _⟩
 |some f=>exact⟨_,rfl,Fr.refl n h,A⟩
theorem b2p{s:Str}(hs:d0 s=true):M4 s=false:=by
 unfold M4
 have:(cd s).head?≠some 64:=fun e=>by
  refine a7X hs (c:=64) (by decide) ?_
  cases hq:cd s with
  |nil=>rw[hq] at e;cases e
  |cons c r=>rw[hq] at e;injection e with e;subst e;exact List.mem_cons_self
 rw[decide_eq_false this];rfl
end
end EV
namespace EV
open PySem L2 L2T
theorem k8(x y:Str):(x++y).length=x.length+y.length:=by rw[←o8,G5,List.length_append,o8,o8]
theorem a8I{i:Int}(h: -1000000000000<=i/\i<=1000000000000):a1I i=true:=by
 cases i with
 |ofNat n=>
  refine Nat.ble_eq_true_of_le ?_
  have:(n:Int)<=1000000000000:=h.2
  omega
 |negSucc n=>
  refine Nat.ble_eq_true_of_le ?_
  have:=h.1
  rw[Int.negSucc_eq] at this;omega
theorem Z1{n:Nat}(h:n<=1000000):W6 (n:Int)=true:=Nat.ble_eq_true_of_le (by omega)
theorem L4{h:AH}{i j:Int}(hj: -1000000000000<=j/\j<=1000000000000):M5 h (.int i) (.int j)=.ok (.int (i*j)) h:=by
 simp only[M5];rw[if_pos (by rw[a8I hj,Bool.or_true])]
theorem a6h{h:AH}{i j:Int}(hj:0<j):u6 h (.int i) (.int j)=.ok (.int (i%j)) h:=by
 simp only[u6];rw[if_pos hj]
theorem b5C{h:AH}{i j:Int}(hj:0<j)(h2:j<1073741824):v7 h (.int i) (.int j)=.ok (.int (i/j)) h:=by
 simp only[v7];rw[if_pos ⟨hj,h2⟩]
theorem l0{h:AH}{i j:Int}:W0 h (.int i) (.int j)=.ok (.int (i+j)) h:=rfl
theorem o6{h:AH}{x y:Str}(hl:x.length+y.length<=100000):W0 h (.str x) (.str y)=.ok (.str (x++y)) h:=by
 simp only[W0];rw[if_pos (by show _<=16777216;omega)]
theorem D3(b:Nat)(hb:0<b){a:Nat}{h:AH}:u6 h (.int (a:Int)) (.int (b:Int))=.ok (.int ((a%b:Nat):Int)) h:=by
 rw[a6h (by omega)]
 congr 2
theorem G8(b:Nat)(hb:0<b)(h2:b<1073741824){a:Nat}{h:AH}:v7 h (.int (a:Int)) (.int (b:Int))=.ok (.int ((a/b:Nat):Int)) h:=by
 rw[b5C (by omega) (by omega)]
 congr 2
def mx(c j:Int):Int:=(c%2305843009213693951+1)*(j*j+48271)*40692%2147483399
theorem b4M(c j:Int):0<=mx c j:=Int.emod_nonneg _ (by decide)
theorem a4j{sep:Str}{ts:List Str}(h:(ts.map (·.length)).sum+ts.length*sep.length<=1000000):JoinOk sep ts=true:=by
 unfold JoinOk;rw[StrLaws.joinTotal];simp only[Builtin.Str.tooLong,Bool.not_eq_true',decide_eq_false_iff_not]
 have:sizeLine=16777216:=by decide
 omega
theorem a5O:∀ps:List Str,cd (Str.join "" ps)=(ps.map cd).flatten
 |[]=>rfl
 |[x]=>by show cd x=_;simp
 |x::y::r=>by
  show cd (x++Str.ofString ""++Str.join "" (y::r))=_
  rw[G5,G5,a5O (y::r),show cd (Str.ofString "")=[] from rfl,List.append_nil];rfl
theorem b5I(n:Nat)(x:Str):cd (E4 n x)=(List.replicate n (cd x)).flatten:=by
  show(E4 n x).cps.toList=_
  unfold E4;rw[foldl_app'];simp[cd]
where
  foldl_app' {x:Array Nat}:∀{n:Nat} {a:Array Nat},((List.replicate n x).foldl (· ++ ·) a).toList=a.toList++(List.replicate n x.toList).flatten
    |0,a=>by simp
    |n+1,a=>by rw[List.replicate_succ,List.foldl_cons,foldl_app',List.replicate_succ,List.flatten_cons];simp
theorem a7v(ts:List Str):cd (Txt.join "" ts)=(ts.map cd).flatten:=by
 show cd (Builtin.Str.glued "" _)=_
 rw[StrLaws.glued_eq_join];exact a5O ts
theorem b6B{z:Str}{p:Nat}(h:p<=z.length):cd (Txt.slice z none (some (p:Int)))=(cd z).take p:=by
 have e:Txt.slice z none (some (p:Int))=⟨((z.cps.toList.drop (0:Int).toNat).take ((p:Int)-0).toNat).toArray⟩:=beq_iff_eq.mp (PyProof.Rows.slice_closes_to ⟨by omega,by have:=o8 z;show(p:Int)<=((cd z).length:Int);omega⟩)
 rw[e];simp[cd]
theorem b1I{z:Str}{p:Nat}(h:p<=z.length):cd (Txt.slice z (some (p:Int)) none)=(cd z).drop p:=by
 rw[PyProof.Rows.slice_from_eq (b:=z.length) (by omega) (by omega) rfl]
 show((cd z).drop ((p:Int).toNat)).take (((z.length:Int)-p).toNat)=_
 rw[Int.toNat_natCast];exact List.take_of_length_le (by rw[List.length_drop,o8];omega)
section
variable{ct:CT}{F:Nat->Option Fn}
theorem seq{c:CF}{s:S}{T:Ss}{env env':j9}{h h':AH}(e:ex ct c s env h=.ok (.nx env') h'):exs ct c (.cons s T) env h=exs ct c T env' h':=by rw[a0T,e,k7]
theorem a0W{k j n f:Nat}{ns:List Int}{h:AH}(hF:F f=some D0)(hr:h[n]? =some (.rol (ns.map .int))):∃a,b6 ct F (k+1) f [.ref n,.int (j:Int)] h=.ok (.int a) h:=by
 rw[n0 hF rfl];simp only[D0]
 have rl:rdL h n=some (ns.map .int):=by unfold rdL;rw[hr]
 have le:biD .len h [.ref n]=.ok (.int (ns.length:Int)) h:=by simp only[biD,hr,rl,List.length_map]
 by_cases lt:(j:Int)<(ns.length:Int)
 · have lt':j<ns.length:=by omega
   have ix:ixD h (.ref n) (.int (j:Int))=.ok (.int ns[j]) h:=by
    have:atI (ns.map D.int) (j:Int)=some (.int ns[j]):=by
     show(ixN (ns.map D.int).length (j:Int)).bind (fun j=>(ns.map D.int)[j]?)=_
     have e:ixN (ns.map D.int).length (j:Int)=some j:=by
      unfold ixN;rw[List.length_map,if_pos (by omega),if_pos (by omega)]
      simp
     rw[e]
     show(ns.map D.int)[j]? =_
     rw[List.getElem?_map,List.getElem?_eq_getElem lt']
     rfl
    simp only[ixD,hr,this]
   refine⟨ns[j],?_⟩
   simp_arith[le,op2,D2,lt,decide_true,ix];exact E1 rfl
 · refine⟨0,?_⟩
   simp_arith[le,op2,D2,lt,decide_false];exact E1 rfl
theorem z9{k f:Nat}{c j:Int}{h:AH}(hF:F f=some o4)(hj:0<=j/\j<=1000):∃M:Nat,b6 ct F (k+1) f [.int c,.int j] h=.ok (.int (M:Int)) h:=by
 obtain⟨M,hM⟩:=Int.eq_ofNat_of_zero_le (b4M c j);refine⟨M,?_⟩
 rw[←hM,n0 hF rfl];simp only[o4]
 have hjj:0<=j*j/\j*j<=1000000:=⟨Int.mul_nonneg hj.1 hj.1,by
  have:=Int.mul_le_mul hj.2 hj.2 hj.1 (by decide)
  omega⟩
 simp_arith[op2,a6h (h:=h) (i:=c) (j:=2305843009213693951) (by decide),W0,L4 (h:=h) (i:=j) (j:=j) (by omega),L4 (h:=h) (i:=c%2305843009213693951+1) (j:=j*j+48271) (by omega),L4 (h:=h) (i:=(c%2305843009213693951+1)*(j*j+48271)) (j:=40692) (by decide),a6h (h:=h) (i:=(c%2305843009213693951+1)*(j*j+48271)*40692) (j:=2147483399) (by decide)]
 exact E1 rfl
end
end EV
namespace EV
open PySem L2 L2T
theorem Q5{α:Type}{a:Option α}:(some a).join=a:=rfl
theorem a7w:abc.length=26:=by decide+kernel
theorem b5R:abc.length<=SL:=by rw[a7w];show 26<=16777216;omega
theorem b4Q{a b:Nat}(h:lt a=lt b):a=b:=by unfold lt at h;omega
theorem a7c{i:Nat}(h:i<26):M9 (lt i)=true:=(b0R ⟨i,h⟩).2
def nmA(f m i:Nat):Str:=E4 (m-i) ⟨#[lt f]⟩
theorem a6E(f m i:Nat):cd (nmA f m i)=List.replicate (m-i) (lt f):=by
 unfold nmA;rw[b5I]
 show(List.replicate _ [lt f]).flatten=_
 simp
def nmB(stem:Str)(p f i:Nat):Str:=(Txt.slice stem none (some (p:Int))++⟨#[lt ((f+5*i)%26)]⟩)++Txt.slice stem (some (p:Int)) none
theorem a4D{stem:Str}{p f i:Nat}(h:p<=stem.length):cd (nmB stem p f i)=(cd stem).take p++lt ((f+5*i)%26)::(cd stem).drop p:=by
 unfold nmB;rw[G5,G5,b6B h,b1I h]
 show(cd stem).take p++[lt ((f+5*i)%26)]++(cd stem).drop p=_
 simp
theorem Z5{α β:Type}(f:α->β):∀{l:List α},l.Nodup->(∀a∈l,∀b∈l,f a=f b->a=b)->(l.map f).Nodup
 |[],_,_=>List.nodup_nil
 |x::r,h,hi=>by
  have h:=List.nodup_cons.mp h;rw[List.map_cons];refine List.nodup_cons.mpr ⟨fun m=>?_,Z5 f h.2 fun a ha b hb=>hi a (.tail _ ha) b (.tail _ hb)⟩
  obtain⟨y,hy,e⟩:=List.mem_map.mp m;rw[hi y (.tail _ hy) x (.head _) e] at hy;exact h.1 hy
structure Nms(ns:List Str)(m:Nat):Prop where
 len:ns.length=m
 nd:ns.Nodup
 ok:∀n∈ns,d0 n=true
theorem b9p{f m:Nat}(hf:f<26)(hm:m<13):Nms ((List.range m).map (nmA f m)) m:=by
 refine⟨by simp,Z5 _ List.nodup_range fun a ha b hb e=>?_,fun n hn=>?_⟩
 · have ha:=List.mem_range.mp ha;have hb:=List.mem_range.mp hb;have e:=congrArg (fun z=>(cd z).length) e
   simp only[a6E,List.length_replicate] at e;omega
 · obtain⟨i,hi,rfl⟩:=List.mem_map.mp hn;have hi:=List.mem_range.mp hi
   have l:(nmA f m i).length=m-i:=by rw[←o8,a6E,List.length_replicate]
   unfold d0;rw[l,a6E];rw[decide_eq_true (show 1<=m-i by omega),decide_eq_true (show m-i<=12 by omega)]
   simp only[Bool.true_and];refine List.all_eq_true.mpr fun c hc=>?_
   rw[(List.mem_replicate.mp hc).2];exact a7c hf
theorem b9o{stem:Str}{p f m:Nat}(hs:stem.length<=11)(hst:(cd stem).all M9=true)(hp:p<=stem.length)(hm:m<=26):Nms ((List.range m).map (nmB stem p f)) m:=by
 refine⟨by simp,Z5 _ List.nodup_range fun a ha b hb e=>?_,fun n hn=>?_⟩
 · have ha:=List.mem_range.mp ha;have hb:=List.mem_range.mp hb;have e:=congrArg cd e;rw[a4D hp,a4D hp] at e;have e:=List.append_cancel_left e
   injection e with e _
   have e:=b4Q e;omega
 · obtain⟨i,hi,rfl⟩:=List.mem_map.mp hn
   have lt':((cd stem).take p++lt ((f+5*i)%26)::(cd stem).drop p).length=stem.length+1:=by
    rw[List.length_append,List.length_cons,List.length_take,List.length_drop,o8];omega
   have l:(nmB stem p f i).length=stem.length+1:=by rw[←o8,a4D hp,lt']
   unfold d0;rw[l,a4D hp,decide_eq_true (show 1<=stem.length+1 by omega),decide_eq_true (show stem.length+1<=12 by omega)]
   simp only[Bool.true_and];refine List.all_eq_true.mpr fun c hc=>?_
   rcases List.mem_append.mp hc with q|q
   · exact List.all_eq_true.mp hst c (List.mem_of_mem_take q)
   · rcases List.mem_cons.mp q with q|q
     · rw[q];exact a7c (Nat.mod_lt _ (by decide))
     · exact List.all_eq_true.mp hst c (List.mem_of_mem_drop q)
section
variable{ct:CT}{F:Nat->Option Fn}
def cA:E:=(.comp (.nm 0) (.rng1 (.v 1)) 1 [3,2,1] .yes (.bin .mul (.ix (.v 2) (.v 1)) (.bin .sub (.v 3) (.v 0))))
def cS:E:=(.comp (.nm 0) (.rng1 (.v 4)) 1 [0,2] .yes (.ix (.bin .add (.v 2) (.k (.str "0123456789"))) (.bin .mod (.bin .add (.bin .div (.v 1) (.k (.int (16224)))) (.bin .mul (.k (.int (7))) (.v 0))) (.k (.int (36))))))
def cB:E:=(.comp (.nm 0) (.rng1 (.v 1)) 1 [3,2,5,6] .yes (.bin .add (.bin .add (.sl (.v 4) .no (.at (.v 3))) (.ix (.v 2) (.bin .mod (.bin .add (.v 1) (.bin .mul (.k (.int (5))) (.v 0))) (.k (.int (26)))))) (.sl (.v 4) (.at (.v 3)) .no)))
theorem a9A:n9=⟨2,7,2,(.cons (.set 2 (.k (.str abc))) (.cons (.set 3 (.bin .mod (.bin .div (.v 0) (.k (.int (4)))) (.k (.int (26))))) (.cons (.iff (.an (.cmp .eq (.bin .mod (.v 0) (.k (.int (4)))) (.k (.int (0)))) (.cmp .lt (.v 1) (.k (.int (13))))) (.cons (.ret cA) .nil) .nil) (.cons (.set 4 (.bin .mod (.bin .div (.v 0) (.k (.int (104)))) (.k (.int (12))))) (.cons (.set 5 (.bin .mod (.bin .div (.v 0) (.k (.int (1248)))) (.bin .add (.v 4) (.k (.int (1)))))) (.cons (.set 6 (.mt .join (.k (.str "")) (.cons cS .nil))) (.cons (.ret cB) .nil)))))))⟩:=rfl
theorem a0s{m:Nat}{h:AH}(hm:m<=1000000):a8X h (.int 0) (.int (m:Int))=.ok ((List.range m).map fun i=>.int ((0:Int)+(i:Nat)),[]) h:=by
 simp only[a8X];rw[if_pos ⟨by decide,Z1 hm⟩]
 show R.ok (a0t 0 (((m:Int)-0).toNat),[]) h=_
 rw[Int.sub_zero,Int.toNat_natCast];rfl
theorem U6{c:CF}{fr:List Nat}{e a:E}{env:j9}{m:Nat}{h:AH}(f:Nat->D)(ha:ev ct c a env h=.ok (.int (m:Int)) h)(hm:m<=1000000)
 (hx:∀i,i<m->ev ct c e (some (.int (i:Int))::fr.map fun j=>(env[j]?).join) h=.ok (f i) h):ev ct c (.comp (.nm 0) (.rng1 a) 1 fr .yes e) env h=.ok (.ref h.length) (h++[.lst ((List.range m).map f)]):=by
 rw[y9 (l:=(List.range m).map fun i=>.int ((0:Int)+(i:Nat))) (g:=[]) (h1:=h) ?_ rfl (fun d=>match d with|.int i=>f i.toNat|_=>.non) (fun d=>some d::fr.map fun j=>(env[j]?).join) ?_ ?_]
 · congr 3;rw[List.map_map];refine congrArg (fun g=>Cell.lst (List.map g (List.range m))) (funext fun i=>?_)
   simp
 · rw[a5E,ha,k7,a0s hm]
 · intro x hx';obtain⟨i,hi,rfl⟩:=List.mem_map.mp hx';refine⟨rfl,?_⟩
   have z:(0:Int)+(i:Nat)=((i:Nat):Int):=by omega
   rw[z,hx i (List.mem_range.mp hi)];simp
 · rw[List.length_map,List.length_range]
   show _<=16777216
   omega
theorem a9N{i:Nat}{h:AH}(hi:i<26):ixD h (.str abc) (.int (i:Int))=.ok (.str ⟨#[lt i]⟩) h:=ix_str b5R (b0R ⟨i,hi⟩).1
theorem a8K:a0K.length<=SL:=by rw[show a0K.length=36 by decide+kernel];show 36<=16777216;omega
def a0V(c i:Nat):Nat:=(cd a0K).getD ((c/16224+7*i)%36) 0
theorem a5L(c i:Nat):(cd a0K)[(c/16224+7*i)%36]? =some (a0V c i)/\M9 (a0V c i)=true:=by
 have lt:(c/16224+7*i)%36<(cd a0K).length:=by rw[o8,show a0K.length=36 by decide+kernel];exact Nat.mod_lt _ (by decide)
 unfold a0V;rw[List.getD_eq_getElem?_getD,List.getElem?_eq_getElem lt]
 exact⟨rfl,decide_eq_true (List.getElem_mem lt)⟩
theorem X1{k f c m:Nat}{h:AH}(hF:F f=some n9)(hm:m<=26):∃ns,Nms ns m/\b6 ct F (k+1) f [.int (c:Int),.int (m:Int)] h=.ok (.ref h.length) (h++[.lst (ns.map .str)]):=by
 have d4:v7 h (.int (c:Int)) (.int 4)=.ok (.int ((c/4:Nat):Int)) h:=G8 4 (by decide) (by decide)
 have m26:∀(a:Nat) (h:AH),u6 h (.int (a:Int)) (.int 26)=.ok (.int ((a%26:Nat):Int)) h:=fun a h=>D3 26 (by decide)
 have m4:u6 h (.int (c:Int)) (.int 4)=.ok (.int ((c%4:Nat):Int)) h:=D3 4 (by decide)
 have d104:v7 h (.int (c:Int)) (.int 104)=.ok (.int ((c/104:Nat):Int)) h:=G8 104 (by decide) (by decide)
 have m12:u6 h (.int ((c/104:Nat):Int)) (.int 12)=.ok (.int ((c/104%12:Nat):Int)) h:=D3 12 (by decide)
 have d1248:v7 h (.int (c:Int)) (.int 1248)=.ok (.int ((c/1248:Nat):Int)) h:=G8 1248 (by decide) (by decide)
 have f26:c/4%26<26:=Nat.mod_lt _ (by decide)
 have s12:c/104%12<12:=Nat.mod_lt _ (by decide)
 rw[n0 hF rfl];simp only[a9A]
 show∃ns,Nms ns m/\gcR 2 h (W9 (exs ct (b6 ct F k) _ [some (.int (c:Int)),some (.int (m:Int)),none,none,none,none,none] h))=_
 rw[seq (env':=[some (.int (c:Int)),some (.int (m:Int)),some (.str abc),none,none,none,none]) (h':=h) (by simp_arith[])]
 rw[seq (env':=[some (.int (c:Int)),some (.int (m:Int)),some (.str abc),some (.int ((c/4%26:Nat):Int)),none,none,none]) (h':=h) (by simp_arith[op2,d4,m26])]
 generalize hf:c/4%26=f1 at f26
 by_cases hc:((c%4:Nat):Int)=0/\(m:Int)<13
 · obtain⟨h1,h2⟩:=hc
   have q0:G0 h (.int ((c%4:Nat):Int)) (.int 0)=.ok (.bl true) h:=by rw[h1];rfl
   refine⟨_,b9p (m:=m) f26 (by omega),?_⟩
   have cm:ev ct (b6 ct F k) cA [some (.int (c:Int)),some (.int (m:Int)),some (.str abc),some (.int (f1:Int)),none,none,none] h=.ok (.ref h.length) (h++[.lst ((List.range m).map fun i=>.str (nmA f1 m i))]):=by
    unfold cA;refine U6 (fun i=>.str (nmA f1 m i)) (by simp_arith[]) (by omega) fun i hi=>?_
    have sb:a5j h (.int (m:Int)) (.int (i:Int))=.ok (.int ((m-i:Nat):Int)) h:=by
     show R.ok (D.int ((m:Int)-(i:Int))) h=_
     congr 2;omega
    have ml:M5 h (.str ⟨#[lt f1]⟩) (.int ((m-i:Nat):Int))=.ok (.str (nmA f1 m i)) h:=by
     simp only[M5]
     have l1:(⟨#[lt f1]⟩:Str).length*(((m-i:Nat):Int)).toNat<=SL:=by
      rw[Int.toNat_natCast]
      show 1*(m-i)<=16777216
      omega
     rw[if_pos ⟨Z1 (by omega),l1⟩]
     exact congrArg (fun z=>R.ok (D.str (E4 z ⟨#[lt f1]⟩)) h) (Int.toNat_natCast _)
    simp_arith[op2,a9N f26,sb,ml,Q5]
   simp_arith[op2,m4,q0,D2,h2,decide_true,cm]
   have e:((List.range m).map (nmA f1 m)).map D.str=(List.range m).map fun i=>D.str (nmA f1 m i):=by rw[List.map_map];rfl
   rw[e];exact gc2 (by simp) (Nat.le_refl _) (by rw[←e];exact J8 _)
 · have tt:∀T,exs ct (b6 ct F k) (.cons (.iff (.an (.cmp .eq (.bin .mod (.v 0) (.k (.int (4)))) (.k (.int (0)))) (.cmp .lt (.v 1) (.k (.int (13))))) (.cons (.ret cA) .nil) .nil) T) [some (.int (c:Int)),some (.int (m:Int)),some (.str abc),some (.int (f1:Int)),none,none,none] h=exs ct (b6 ct F k) T [some (.int (c:Int)),some (.int (m:Int)),some (.str abc),some (.int (f1:Int)),none,none,none] h:=fun T=>by
    refine seq ?_
    by_cases h1:((c%4:Nat):Int)=0
    · have h2:¬(m:Int)<13:=fun z=>hc ⟨h1,z⟩
      have q0:G0 h (.int ((c%4:Nat):Int)) (.int 0)=.ok (.bl true) h:=by rw[h1];rfl
      simp_arith[op2,m4,q0,D2,h2,decide_false]
    · have q0:G0 h (.int ((c%4:Nat):Int)) (.int 0)=.ok (.bl false) h:=by simp only[G0,eqS,h1,decide_false]
      simp_arith[op2,m4,q0]
   rw[tt];rw[seq (env':=[some (.int (c:Int)),some (.int (m:Int)),some (.str abc),some (.int (f1:Int)),some (.int ((c/104%12:Nat):Int)),none,none]) (h':=h) (by simp_arith[op2,d104,m12])]
   generalize c/104%12=sz at s12
   have a1:((sz:Nat):Int)+1=((sz+1:Nat):Int):=by omega
   rw[seq (env':=[some (.int (c:Int)),some (.int (m:Int)),some (.str abc),some (.int (f1:Int)),some (.int (sz:Int)),some (.int ((c/1248%(sz+1):Nat):Int)),none]) (h':=h) (by simp_arith[op2,d1248,l0,a1,D3 (sz+1) (by omega)])]
   have pl:c/1248%(sz+1)<=sz:=Nat.le_of_lt_succ (Nat.mod_lt _ (by omega))
   generalize c/1248%(sz+1)=p at pl
   have cs:ev ct (b6 ct F k) cS [some (.int (c:Int)),some (.int (m:Int)),some (.str abc),some (.int (f1:Int)),some (.int (sz:Int)),some (.int (p:Int)),none] h=.ok (.ref h.length) (h++[.lst ((List.range sz).map fun i=>.str ⟨#[a0V c i]⟩)]):=by
    unfold cS;refine U6 (fun i=>.str ⟨#[a0V c i]⟩) (by simp_arith[]) (by omega) fun i hi=>?_
    have ad:W0 h (.str abc) (.str "0123456789")=.ok (.str a0K) h:=by
     rw[o6 (by rw[a7w,show(Str.ofString "0123456789").length=10 by decide+kernel];decide)]
     rfl
    have d16:v7 h (.int (c:Int)) (.int 16224)=.ok (.int ((c/16224:Nat):Int)) h:=G8 16224 (by decide) (by decide)
    have m7:M5 h (.int 7) (.int (i:Int))=.ok (.int ((7*i:Nat):Int)) h:=by rw[L4 (by omega)];congr 2
    have a2:((c/16224:Nat):Int)+((7*i:Nat):Int)=((c/16224+7*i:Nat):Int):=by omega
    have m36:u6 h (.int ((c/16224+7*i:Nat):Int)) (.int 36)=.ok (.int (((c/16224+7*i)%36:Nat):Int)) h:=D3 36 (by decide)
    simp_arith[op2,ad,d16,m7,l0,a2,m36,ix_str a8K (a5L c i).1,Q5]
   have es:((List.range sz).map fun i=>D.str ⟨#[a0V c i]⟩)=((List.range sz).map fun i=>(⟨#[a0V c i]⟩:Str)).map D.str:=by rw[List.map_map];rfl
   rw[es] at cs;generalize hts:(List.range sz).map (fun i=>(⟨#[a0V c i]⟩:Str))=ts at cs
   have tl:ts.length=sz:=by rw[←hts];simp
   have t1:∀t∈ts,t.length=1/\(cd t).all M9=true:=fun t ht=>by
    rw[←hts] at ht;obtain⟨i,_,rfl⟩:=List.mem_map.mp ht;exact⟨rfl,by show([a0V c i]:List Nat).all M9=true;rw[List.all_cons,(a5L c i).2];rfl⟩
   have sm:∀l:List Str,(∀t∈l,t.length=1)->(l.map (·.length)).sum=l.length:=fun l=>by
    induction l with
    |nil=>intro _;rfl
    |cons x r ih=>intro hh;rw[List.map_cons,List.sum_cons,ih (fun t ht=>hh t (.tail _ ht)),hh x (.head _),List.length_cons];exact Nat.add_comm 1 _
   have jo:JoinOk "" ts=true:=a4j (by rw[sm ts fun t ht=>(t1 t ht).1,show(Str.ofString "").length=0 from rfl];omega)
   have jn:mtD .join (h++[.lst (ts.map .str)]) (.str "") [.ref h.length]=.ok (.str (Txt.join "" ts)) (h++[.lst (ts.map .str)]):=by
    simp only[mtD,a1L,a1c];rw[if_pos jo]
   have sl:(Txt.join "" ts).length=sz:=by
    rw[←o8,a7v,List.length_flatten,List.map_map,←tl];exact(congrArg List.sum (List.map_congr_left fun t _=>o8 t)).trans (sm ts fun t ht=>(t1 t ht).1)
   have ss:(cd (Txt.join "" ts)).all M9=true:=by
    rw[a7v];refine List.all_eq_true.mpr fun x hx=>?_
    obtain⟨q,hq,hm⟩:=List.mem_flatten.mp hx;obtain⟨t,ht,rfl⟩:=List.mem_map.mp hq;exact List.all_eq_true.mp (t1 t ht).2 x hm
   generalize Txt.join "" ts=stem at jn sl ss;rw[seq (env':=[some (.int (c:Int)),some (.int (m:Int)),some (.str abc),some (.int (f1:Int)),some (.int (sz:Int)),some (.int (p:Int)),some (.str stem)]) (h':=h++[.lst (ts.map .str)]) (by simp_arith[mtT,cs,jn])]
   refine⟨_,b9o (stem:=stem) (p:=p) (f:=f1) (m:=m) (by omega) ss (by omega) hm,?_⟩
   have hg:∃t,h++[Cell.lst (ts.map .str)]=h++t:=⟨_,rfl⟩
   have tk:(h++[Cell.lst (ts.map D.str)]).length=h.length+1:=by simp
   have wS:stem.length<=SL:=by show _<=16777216;omega
   have cm:∀g,ev ct (b6 ct F k) cB [some (.int (c:Int)),some (.int (m:Int)),some (.str abc),some (.int (f1:Int)),some (.int (sz:Int)),some (.int (p:Int)),some (.str stem)] g=.ok (.ref g.length) (g++[.lst ((List.range m).map fun i=>.str (nmB stem p f1 i))]):=fun g=>by
    unfold cB;refine U6 (fun i=>.str (nmB stem p f1 i)) (by simp_arith[]) (by omega) fun i hi=>?_
    have m5:M5 g (.int 5) (.int (i:Int))=.ok (.int ((5*i:Nat):Int)) g:=by rw[L4 (by omega)];congr 2
    have a2:((f1:Nat):Int)+((5*i:Nat):Int)=((f1+5*i:Nat):Int):=by omega
    have l1:=Txt.slice_le stem none (some (p:Int));have l2:=Txt.slice_le stem (some (p:Int)) none
    have x1:(⟨#[lt ((f1+5*i)%26)]⟩:Str).length=1:=rfl
    simp_arith[Q5,slD,if_pos wS,op2,m5,l0,a2,m26,a9N (h:=g) (i:=(f1+5*i)%26) (Nat.mod_lt _ (by decide)),o6 (h:=g) (x:=Txt.slice stem none (some (p:Int))) (y:=⟨#[lt ((f1+5*i)%26)]⟩) (by omega),o6 (h:=g) (x:=Txt.slice stem none (some (p:Int))++⟨#[lt ((f1+5*i)%26)]⟩) (y:=Txt.slice stem (some (p:Int)) none) (by rw[k8];omega)]
    rfl
   simp_arith[cm]
   have e:((List.range m).map (nmB stem p f1)).map D.str=(List.range m).map fun i=>D.str (nmB stem p f1 i):=by rw[List.map_map];rfl
   rw[e,List.append_assoc];exact gc2 (by simp) (by simp) (by rw[←e];exact J8 _)
end
end EV
namespace EV
open PySem L2 L2T
structure Pf(h0 h:AH):Prop where
 len:h0.length<=h.length
 get:∀i,i<h0.length->h[i]? =h0[i]?
theorem Pf.refl(h:AH):Pf h h:=⟨Nat.le_refl _,fun _ _=>rfl⟩
theorem Pf.app{h0 h:AH}(p:Pf h0 h)(t:AH):Pf h0 (h++t):=⟨by rw[List.length_append];have:=p.len;omega,fun i hi=>by rw[List.getElem?_append_left (Nat.lt_of_lt_of_le hi p.len)];exact p.get i hi⟩
theorem Pf.set{h0 h:AH}(p:Pf h0 h){n:Nat}{c:Cell}(hn:h0.length<=n):Pf h0 (h.set n c):=⟨by rw[List.length_set];exact p.len,fun i hi=>by rw[List.getElem?_set_ne (by omega)];exact p.get i hi⟩
theorem Pf.trans{a b c:AH}(p:Pf a b)(q:Pf b c):Pf a c:=⟨Nat.le_trans p.len q.len,fun i hi=>(q.get i (Nat.lt_of_lt_of_le hi p.len)).trans (p.get i hi)⟩
theorem Pf.take{h0 h:AH}(p:Pf h0 h):h.take h0.length=h0:=by
 refine List.ext_getElem? fun i=>?_
 by_cases hi:i<h0.length
 · rw[List.getElem?_take_of_lt hi,p.get i hi]
 · rw[List.getElem?_eq_none (by simp;omega),List.getElem?_eq_none (by omega)]
theorem Pf.at{h0 h:AH}(p:Pf h0 h){i:Nat}{c:Cell}(e:h0[i]? =some c):h[i]? =some c:=by
 rw[p.get i (List.getElem?_eq_some_iff.mp e).1];exact e
theorem a6u{h0 h:AH}{k:Nat}{c:Cell}(p:Pf h0 h)(hk:h[k]? =some c)(hl:h0.length<=k)(hc:c.flat=true):gcR 2 h0 (.ok (.ref k) h)=.ok (.ref h0.length) (h0++[c]):=by
 unfold gcR;simp only[hk];simp[hl,hc,p.take]
theorem b7C{h0 h:AH}{d:D}(p:Pf h0 h)(hd:d.flat=true):gcR 1 h0 (.ok d h)=.ok d h0:=by
 unfold gcR
 simp only
 rw[if_neg (by decide)]
 simp[hd,p.take]
section
variable{ct:CT}{F:Nat->Option Fn}
theorem J1{g:List (Nat×Cell)}{p:Pat}{body:j9->AH->R Out}(P:Nat->j9->AH->Prop)(gk:∀j env h,P j env h->gOk g h=true):∀(l:List D) (i:Nat) (env:j9) (h:AH),
 (∀j x env h,l[j]? =some x->P (i+j) env h->∃env1 env' h',G9 p x env=some env1/\body env1 h=.ok (.nx env') h'/\P (i+j+1) env' h')->P i env h->∃env' h',N5 g p body l env h=.ok (.nx env') h'/\P (i+l.length) env' h'
 |[],i,env,h,_,q=>⟨env,h,by rw[N5,if_pos (gk _ _ _ q)],q⟩
 | x::r,i,env,h,st,q=>by
  obtain⟨env1,env',h',b1,b2,q'⟩:=st 0 x env h rfl q
  obtain⟨env2,h2,e2,q2⟩:=J1 P gk r (i+1) env' h' (fun j y env h hj hq=>by
   have:=st (j+1) y env h (by simpa using hj) (by rw[show i+(j+1)=i+1+j by omega];exact hq)
   rw[show i+(j+1)+1=i+1+j+1 by omega] at this
   exact this) q'
  refine⟨env2,h2,?_,by rw[List.length_cons,show i+(r.length+1)=i+1+r.length by omega];exact q2⟩
  rw[N5,if_pos (gk _ _ _ q),b1]
  simp only
  rw[b2];exact e2
theorem N2{h:AH}{n:Nat}{xs:List D}{d:D}(e:h[n]? =some (.lst xs))(hl:xs.length<1000000):mtD .append h (.ref n) [d]=.ok .non (h.set n (.lst (xs++[d]))):=by
 simp only[mtD,e];rw[if_pos (show xs.length<16777216 by omega)]
theorem I0{h:AH}{n:Nat}{xs:List D}(e:h[n]? =some (.lst xs)):mtT .append h (.ref n)=true:=by
 simp only[mtT,rdL,e,Option.isSome_some]
theorem a2g{m j:Nat}{x:D}(h:((List.range m).map fun i=>D.int ((0:Int)+(i:Nat)))[j]? =some x):j<m/\x=.int (j:Int):=by
 have hj:j<m:=by
  have:=(List.getElem?_eq_some_iff.mp h).1
  simpa using this
 refine⟨hj,?_⟩
 rw[List.getElem?_map,List.getElem?_range hj] at h
 have h:=Option.some.inj h;rw[←h]
 show D.int (0+(j:Int))=_
 rw[Int.zero_add]
def shD(sh:List (Str×Nat)):List D:=sh.map fun p=>.tup [.str p.1,.int (p.2:Int)]
structure Shs(sh:List (Str×Nat)):Prop where
 lo:4<=sh.length
 hi:sh.length<=16
 nd:(sh.map (·.1)).Nodup
 ok:∀p∈sh,d0 p.1=true/\p.2<99999
theorem G2:∀{l:List D},(∀d∈l,d.flat=true)->D.flats l=true
 |[],_=>rfl
 |d::r,h=>by rw[D.flats,h d (.head _),G2 fun x hx=>h x (.tail _ hx)];rfl
theorem b0g(sh:List (Str×Nat)):D.flats (shD sh)=true:=G2 fun d hd=>by
 obtain⟨p,_,rfl⟩:=List.mem_map.mp hd;rfl
theorem a1F:∀(ns:List Str) (ws:List Nat),a0H (ns.map .str) (ws.map fun w=>.int ((w:Nat):Int))=shD (ns.zip ws)
 |[],_=>rfl
 |_::_,[]=>rfl
 |n::ns,w::ws=>by
  show D.tup [.str n,.int ((w:Nat):Int)]::a0H _ _=_
  rw[a1F ns ws];rfl
def wE:E:=(.ix (.lst (.cons (.k (.int (0))) (.cons (.bin .mod (.bin .div (.v 5) (.k (.int (4)))) (.k (.int (20)))) (.cons (.bin .mod (.bin .div (.v 5) (.k (.int (4)))) (.k (.int (1000)))) (.cons (.bin .mod (.bin .div (.v 5) (.k (.int (4)))) (.k (.int (99999)))) .nil))))) (.bin .mod (.v 5) (.k (.int (4)))))
def wB:Ss:=(.cons (.set 5 (.call 202 (.cons (.v 0) (.cons (.bin .add (.v 4) (.k (.int (10)))) .nil)))) (.cons (.ex (.mt .append (.v 3) (.cons wE .nil))) .nil))
theorem a7H:v8=⟨1,6,2,(.cons (.set 1 (.call 202 (.cons (.v 0) (.cons (.k (.int (1))) .nil)))) (.cons (.set 2 (.call 203 (.cons (.bin .div (.v 1) (.k (.int (13)))) (.cons (.bin .add (.k (.int (4))) (.bin .mod (.v 1) (.k (.int (13))))) .nil)))) (.cons (.set 3 (.lst .nil)) (.cons (.for (.nm 4) (.rng1 (.bi .len (.cons (.v 2) .nil))) wB) (.cons (.ret (.comp (.tp (.cons (.nm 0) (.cons (.nm 1) .nil))) (.zip (.v 2) (.v 3)) 2 [] .yes (.tup (.cons (.v 0) (.cons (.v 1) .nil))))) .nil)))))⟩:=rfl
theorem b2M{l:List Nat}{i:Nat}(hl:l.length=4):∃w,(l.map fun w=>D.int ((w:Nat):Int))[i%4]? =some (.int ((w:Nat):Int))/\w∈l:=by
 have lt:i%4<l.length:=by rw[hl];exact Nat.mod_lt _ (by decide)
 exact⟨l[i%4],by rw[List.getElem?_map,List.getElem?_eq_getElem lt];rfl,List.getElem_mem lt⟩
theorem a8v{c:CF}{M:Nat}{env:j9}{h:AH}(he:env[5]? =some (some (.int (M:Int)))):∃w t,w<99999/\ev ct c wE env h=.ok (.int ((w:Nat):Int)) (h++[t]):=by
 have d4:∀h,v7 h (.int (M:Int)) (.int 4)=.ok (.int ((M/4:Nat):Int)) h:=fun h=>G8 4 (by decide) (by decide)
 have m4:∀h,u6 h (.int (M:Int)) (.int 4)=.ok (.int ((M%4:Nat):Int)) h:=fun h=>D3 4 (by decide)
 have m20:∀(a:Nat) h,u6 h (.int (a:Int)) (.int 20)=.ok (.int ((a%20:Nat):Int)) h:=fun a h=>D3 20 (by decide)
 have m1000:∀(a:Nat) h,u6 h (.int (a:Int)) (.int 1000)=.ok (.int ((a%1000:Nat):Int)) h:=fun a h=>D3 1000 (by decide)
 have m9:∀(a:Nat) h,u6 h (.int (a:Int)) (.int 99999)=.ok (.int ((a%99999:Nat):Int)) h:=fun a h=>D3 99999 (by decide)
 obtain⟨w,h1,h2⟩:=b2M (l:=[0,M/4%20,M/4%1000,M/4%99999]) (i:=M) rfl;refine⟨w,.lst [.int ((0:Nat):Int),.int ((M/4%20:Nat):Int),.int ((M/4%1000:Nat):Int),.int ((M/4%99999:Nat):Int)],?_,?_⟩
 · simp only[List.mem_cons,List.not_mem_nil,or_false] at h2
   rcases h2 with rfl|rfl|rfl|rfl
   · decide
   · exact Nat.lt_trans (Nat.mod_lt _ (show 0<20 by decide)) (by decide)
   · exact Nat.lt_trans (Nat.mod_lt _ (show 0<1000 by decide)) (by decide)
   · exact Nat.mod_lt _ (by decide)
 · unfold wE
   have hx:ixD (h++[.lst [.int 0,.int ((M/4%20:Nat):Int),.int ((M/4%1000:Nat):Int),.int ((M/4%99999:Nat):Int)]]) (.ref h.length) (.int ((M%4:Nat):Int))=.ok (.int ((w:Nat):Int)) (h++[.lst [.int 0,.int ((M/4%20:Nat):Int),.int ((M/4%1000:Nat):Int),.int ((M/4%99999:Nat):Int)]]):=B0 b8 h1
   simp_arith[he,op2,d4,m4,m20,m1000,m9,x5,hx];rfl
variable(f202:F 202=some o4)(f203:F 203=some n9)
include f202 f203
theorem a7G{k:Nat}{c:Int}{h:AH}(hF:F 204=some v8):∃sh,Shs sh/\b6 ct F (k+2) 204 [.int c] h=.ok (.ref h.length) (h++[.lst (shD sh)]):=by
 obtain⟨M,hM⟩:=z9 (ct:=ct) (k:=k) (c:=c) (j:=1) (h:=h) f202 (by decide)
 have d13:v7 h (.int (M:Int)) (.int 13)=.ok (.int ((M/13:Nat):Int)) h:=G8 13 (by decide) (by decide)
 have m13:u6 h (.int (M:Int)) (.int 13)=.ok (.int ((M%13:Nat):Int)) h:=D3 13 (by decide)
 have a4:(4:Int)+((M%13:Nat):Int)=((4+M%13:Nat):Int):=by omega
 have m16:M%13<13:=Nat.mod_lt _ (by decide)
 obtain⟨ns,nk,hN⟩:=X1 (ct:=ct) (k:=k) (c:=M/13) (m:=4+M%13) (h:=h) f203 (by omega)
 generalize hm:4+M%13=m at nk hN a4;rw[n0 hF rfl];simp only[a7H]
 show∃sh,Shs sh/\gcR 2 h (W9 (exs ct (b6 ct F (k+1)) _ [some (.int c),none,none,none,none,none] h))=_
 rw[seq (env':=[some (.int c),some (.int (M:Int)),none,none,none,none]) (h':=h) (by simp_arith[hM])]
 rw[seq (env':=[some (.int c),some (.int (M:Int)),some (.ref h.length),none,none,none]) (h':=h++[.lst (ns.map .str)]) (by simp_arith[op2,d13,m13,l0,a4,hN])]
 have l1:(h++[Cell.lst (ns.map D.str)]).length=h.length+1:=by simp
 rw[seq (env':=[some (.int c),some (.int (M:Int)),some (.ref h.length),some (.ref (h.length+1)),none,none]) (h':=h++[.lst (ns.map .str)]++[.lst []]) (by simp_arith[x5,l1])]
 have gN:(h++[Cell.lst (ns.map D.str)]++[Cell.lst []])[h.length]? =some (.lst (ns.map .str)):=b7 b8
 have gW:(h++[Cell.lst (ns.map D.str)]++[Cell.lst []])[h.length+1]? =some (.lst []):=by rw[←l1];exact b8
 have pf:Pf h (h++[Cell.lst (ns.map D.str)]++[Cell.lst []]):=((Pf.refl h).app _).app _
 generalize h++[Cell.lst (ns.map D.str)]++[Cell.lst []]=g at gN gW pf
 have len:biD .len g [.ref h.length]=.ok (.int (m:Int)) g:=by rw[p8 gN,List.length_map,nk.len]
 obtain⟨env',g',e1,ws,e4,e5,rfl,q2,q3,q4,q5,q6⟩:=J1 (g:=[]) (p:=.nm 4) (body:=exs ct (b6 ct F (k+1)) wB) (fun j env hh=>∃ws:List Nat,∃e4 e5,env=[some (.int c),some (.int (M:Int)),some (.ref h.length),some (.ref (h.length+1)),e4,e5]/\Pf h hh/\hh[h.length]? =some (.lst (ns.map .str))/\hh[h.length+1]? =some (.lst (ws.map fun w=>.int ((w:Nat):Int)))/\ws.length=j/\∀w∈ws,w<99999) (fun _ _ _ _=>rfl) ((List.range m).map fun i=>.int ((0:Int)+(i:Nat))) 0 [some (.int c),some (.int (M:Int)),some (.ref h.length),some (.ref (h.length+1)),none,none] g (fun j x env hh hx hP=>by
  obtain⟨ws,e4,e5,rfl,p1,p2,p3,p4,p5⟩:=hP;obtain⟨hj,rfl⟩:=a2g hx;rw[Nat.zero_add] at p4⊢
  have a10:((j:Nat):Int)+10=((j+10:Nat):Int):=by omega
  obtain⟨N,hN⟩:=z9 (ct:=ct) (k:=k) (c:=c) (j:=((j+10:Nat):Int)) (h:=hh) f202 (by omega)
  obtain⟨w,t,w1,w2⟩:=a8v (ct:=ct) (c:=b6 ct F (k+1)) (M:=N) (env:=[some (.int c),some (.int (M:Int)),some (.ref h.length),some (.ref (h.length+1)),some (.int (j:Int)),some (.int (N:Int))]) (h:=hh) rfl;refine⟨_,[some (.int c),some (.int (M:Int)),some (.ref h.length),some (.ref (h.length+1)),some (.int (j:Int)),some (.int (N:Int))],(hh++[t]).set (h.length+1) (.lst ((ws.map fun w=>D.int ((w:Nat):Int))++[.int ((w:Nat):Int)])),rfl,?_,ws++[w],_,_,rfl,(p1.app _).set (Nat.le_succ _),b9 (by omega) (b7 p2),?_,by rw[List.length_append,p4];rfl,fun x hx=>?_⟩
  · show exs ct (b6 ct F (k+1)) wB [some (.int c),some (.int (M:Int)),some (.ref h.length),some (.ref (h.length+1)),some (.int (j:Int)),e5] hh=_
    unfold wB;rw[seq (env':=[some (.int c),some (.int (M:Int)),some (.ref h.length),some (.ref (h.length+1)),some (.int (j:Int)),some (.int (N:Int))]) (h':=hh) (by simp_arith[op2,l0,a10,hN])]
    simp_arith[I0 p3,w2,N2 (b7 (g:=[t]) p3) (by rw[List.length_map,p4];omega)]
  · rw[y7 (b7 p3)];simp
  · rcases List.mem_append.mp hx with hx|hx
    · exact p5 x hx
    · rw[List.mem_singleton.mp hx];exact w1) ⟨[],none,none,rfl,pf,gN,gW,rfl,fun _ h=>nomatch h⟩
 rw[List.length_map,List.length_range,Nat.zero_add] at q5;rw[seq (env':=[some (.int c),some (.int (M:Int)),some (.ref h.length),some (.ref (h.length+1)),e4,e5]) (h':=g') (by simp_arith[len,a0s (h:=g) (m:=m) (by omega),e1])]
 have cz:=y9 (ct:=ct) (c:=b6 ct F (k+1)) (p:=.tp (.cons (.nm 0) (.cons (.nm 1) .nil))) (it:=.zip (.v 2) (.v 3)) (n:=2) (fr:=[]) (e:=.tup (.cons (.v 0) (.cons (.v 1) .nil))) (env:=[some (.int c),some (.int (M:Int)),some (.ref h.length),some (.ref (h.length+1)),e4,e5]) (h:=g') (l:=a0H (ns.map .str) (ws.map fun w=>.int ((w:Nat):Int))) (g:=[(h.length,.lst (ns.map .str)),(h.length+1,.lst (ws.map fun w=>.int ((w:Nat):Int)))]) (h1:=g') (by simp_arith[b1l,a5s,q3,q4]) (by simp[gOk,q3,q4]) id (fun d=>match d with|.tup [a,b]=>[some a,some b]|_=>[]) (fun x hx=>by
  rw[a1F] at hx;obtain⟨p,_,rfl⟩:=List.mem_map.mp hx;refine⟨rfl,?_⟩
  simp_arith[id]) (by
  rw[a1F];unfold shD;rw[List.length_map,List.length_zip]
  show _<=16777216
  have:=nk.len
  omega)
 rw[List.map_id,a1F] at cz
 have zl:(ns.zip ws).length=m:=by rw[List.length_zip,nk.len,q5];omega
 have zf:(ns.zip ws).map (·.1)=ns:=by
  rw[List.map_fst_zip];rw[nk.len,q5];exact Nat.le_refl _
 refine⟨ns.zip ws,⟨by omega,by omega,by rw[zf];exact nk.nd,fun p hp=>⟨nk.ok _ (List.of_mem_zip hp).1,q6 _ (List.of_mem_zip hp).2⟩⟩,?_⟩
 simp_arith[cz];exact a6u (q2.app _) b8 q2.len (b0g _)
end
end EV
namespace EV
open PySem L2 L2T
def spD(p:Int×Int):D:=.tup [.int p.1,.int p.2]
def Y9(p:Int×Int):Prop:=(-99999<=p.1/\p.1<=99999)/\ -99999<=p.2/\p.2<=99999
structure Mk where
 n:Str
 s:Str
 a:Int×Int
 b:Int×Int
def mkD(m:Mk):D:=.tup [.str m.n,.str m.s,spD m.a,spD m.b]
def a0g(s:Str):Prop:=s="above"∨s="below"
theorem a6b{sh:List (Str×Nat)}{j:Nat}(hj:j<sh.length):(shD sh)[j]? =some (.tup [.str (sh[j]).1,.int ((sh[j]).2:Int)]):=by
 unfold shD;rw[List.getElem?_map,List.getElem?_eq_getElem hj]
 rfl
theorem ix_tup{xs:List D}{i:Nat}{d:D}{h:AH}(hd:xs[i]? =some d):ixD h (.tup xs) (.int (i:Nat))=.ok d h:=by
 have hi:=(List.getElem?_eq_some_iff.mp hd).1
 have:atI xs (i:Int)=some d:=by
  show(ixN xs.length (i:Int)).bind (fun j=>xs[j]?)=some d
  have e:ixN xs.length (i:Int)=some i:=by
   unfold ixN;rw[if_pos (by omega),if_pos (by omega)]
   simp
  rw[e];exact hd
 simp only[ixD,this]
theorem a0p{a:D}{r:List D}{h:AH}:ixD h (.tup (a::r)) (.int 0)=.ok a h:=ix_tup (i:=0) rfl
section
variable{ct:CT}{F:Nat->Option Fn}
theorem a3L{k m:Nat}{h:AH}(hF:F 205=some u7):∃p,Y9 p/\b6 ct F (k+1) 205 [.int (m:Int)] h=.ok (spD p) h:=by
 have m41:∀h,u6 h (.int (m:Int)) (.int 41)=.ok (.int ((m%41:Nat):Int)) h:=fun h=>D3 41 (by decide)
 have d41:∀h,v7 h (.int (m:Int)) (.int 41)=.ok (.int ((m/41:Nat):Int)) h:=fun h=>G8 41 (by decide) (by decide)
 have d7:∀h,v7 h (.int (m:Int)) (.int 7)=.ok (.int ((m/7:Nat):Int)) h:=fun h=>G8 7 (by decide) (by decide)
 have m9:∀(a:Nat) h,u6 h (.int (a:Int)) (.int 99999)=.ok (.int ((a%99999:Nat):Int)) h:=fun a h=>D3 99999 (by decide)
 have m3:∀(a:Nat) h,u6 h (.int (a:Int)) (.int 3)=.ok (.int ((a%3:Nat):Int)) h:=fun a h=>D3 3 (by decide)
 have sb:∀h,a5j h (.int ((m%41:Nat):Int)) (.int 20)=.ok (.int (((m%41:Nat):Int)-20)) h:=fun h=>rfl
 have l9:m/41%99999<99999:=Nat.mod_lt _ (by decide)
 have l41:m%41<41:=Nat.mod_lt _ (by decide)
 have ix:∃y:Int,(-99999<=y/\y<=99999)/\([.int 0,.int ((m/41%99999:Nat):Int),.int (-((m/41%99999:Nat):Int))]:List D)[m/7%3]? =some (.int y):=by
  have:m/7%3=0∨m/7%3=1∨m/7%3=2:=by omega
  rcases this with e|e|e<;>rw[e]
  · exact⟨0,by decide,rfl⟩
  · exact⟨_,by omega,rfl⟩
  · exact⟨_,by omega,rfl⟩
 obtain⟨y,y1,y2⟩:=ix;refine⟨(((m%41:Nat):Int)-20,y),⟨by simp only;omega,y1⟩,?_⟩
 have hx:ixD (h++[.lst [.int 0,.int ((m/41%99999:Nat):Int),.int (-((m/41%99999:Nat):Int))]]) (.ref h.length) (.int ((m/7%3:Nat):Int))=.ok (.int y) (h++[.lst [.int 0,.int ((m/41%99999:Nat):Int),.int (-((m/41%99999:Nat):Int))]]):=B0 b8 y2
 rw[n0 hF rfl];simp only[u7];simp_arith[op2,m41,sb,d41,m9,d7,m3,x5,hx];exact gc1 rfl
def a8L:E:=(.ix (.lst (.cons (.k (.str "above")) (.cons (.k (.str "below")) .nil))) (.bin .mod (.bin .div (.v 4) (.k (.int (4)))) (.k (.int (2)))))
def b7h:Ss:=(.cons (.ex (.mt .append (.v 2) (.cons (.tup (.cons (.ix (.ix (.v 1) (.v 3)) (.k (.int (0)))) (.cons (.v 5) (.cons (.call 205 (.cons (.bin .div (.v 4) (.k (.int (8)))) .nil)) (.cons (.call 205 (.cons (.bin .div (.v 4) (.k (.int (8000)))) .nil)) .nil))))) .nil))) .nil)
def mkB:Ss:=(.cons (.set 4 (.call 202 (.cons (.v 0) (.cons (.bin .add (.v 3) (.k (.int (40)))) .nil)))) (.cons (.iff (.cmp .eq (.bin .mod (.v 4) (.k (.int (4)))) (.k (.int (1)))) (.cons (.set 5 a8L) b7h) .nil) .nil))
theorem a9D:x4=⟨2,6,2,(.cons (.set 2 (.lst .nil)) (.cons (.for (.nm 3) (.rng1 (.bi .len (.cons (.v 1) .nil))) mkB) (.cons (.ret (.v 2)) .nil)))⟩:=rfl
theorem b1L{c:CF}{M:Nat}{env:j9}{h:AH}(he:env[4]? =some (some (.int (M:Int)))):∃s t,a0g s/\ev ct c a8L env h=.ok (.str s) (h++[t]):=by
 have d4:∀h,v7 h (.int (M:Int)) (.int 4)=.ok (.int ((M/4:Nat):Int)) h:=fun h=>G8 4 (by decide) (by decide)
 have m2:∀(a:Nat) h,u6 h (.int (a:Int)) (.int 2)=.ok (.int ((a%2:Nat):Int)) h:=fun a h=>D3 2 (by decide)
 have ix:∃s:Str,a0g s/\([.str "above",.str "below"]:List D)[M/4%2]? =some (.str s):=by
  have:M/4%2=0∨M/4%2=1:=by omega
  rcases this with e|e<;>rw[e]
  · exact⟨"above",.inl rfl,rfl⟩
  · exact⟨"below",.inr rfl,rfl⟩
 obtain⟨s,s1,s2⟩:=ix;refine⟨s,.lst [.str "above",.str "below"],s1,?_⟩
 have hx:ixD (h++[.lst [.str "above",.str "below"]]) (.ref h.length) (.int ((M/4%2:Nat):Int))=.ok (.str s) (h++[.lst [.str "above",.str "below"]]):=B0 b8 s2
 unfold a8L;simp_arith[he,op2,d4,m2,x5,hx]
theorem b0k(ms:List Mk):D.flats (ms.map mkD)=true:=G2 fun d hd=>by
 obtain⟨p,_,rfl⟩:=List.mem_map.mp hd;rfl
theorem a4X{α β:Type}{f:α->β}{l:List α}{j:Nat}(hj:j<l.length){r:List β}(h:r.Sublist ((l.take j).map f)):r.Sublist ((l.take (j+1)).map f)/\(r++[f l[j]]).Sublist ((l.take (j+1)).map f):=by
 rw[List.take_succ_eq_append_getElem hj,List.map_append];exact⟨h.trans (List.sublist_append_left _ _),h.append (List.Sublist.refl _)⟩
variable(f202:F 202=some o4)(f205:F 205=some u7)
include f202 f205
theorem a9C{k s:Nat}{c:Int}{sh:List (Str×Nat)}{h:AH}(hF:F 206=some x4)(hs:Shs sh)(hh:h[s]? =some (.lst (shD sh))):∃ms:List Mk,(ms.map (·.n)).Sublist (sh.map (·.1))/\(∀m∈ms,a0g m.s/\Y9 m.a/\Y9 m.b)/\b6 ct F (k+2) 206 [.int c,.ref s] h=.ok (.ref h.length) (h++[.lst (ms.map mkD)]):=by
 have sl:s<h.length:=(List.getElem?_eq_some_iff.mp hh).1
 have hi:=hs.hi;rw[n0 hF rfl];simp only[a9D]
 show∃ms:List Mk,_/\_/\gcR 2 h (W9 (exs ct (b6 ct F (k+1)) _ [some (.int c),some (.ref s),none,none,none,none] h))=_
 rw[seq (env':=[some (.int c),some (.ref s),some (.ref h.length),none,none,none]) (h':=h++[.lst []]) (by simp_arith[x5])]
 have len:biD .len (h++[.lst []]) [.ref s]=.ok (.int (sh.length:Int)) (h++[.lst []]):=by rw[p8 (b7 hh)];unfold shD;rw[List.length_map]
 obtain⟨env',g',e1,ms,e3,e4,e5,rfl,q2,q3,q4,q5⟩:=J1 (g:=[]) (p:=.nm 3) (body:=exs ct (b6 ct F (k+1)) mkB) (fun j env g=>∃ms:List Mk,∃e3 e4 e5,env=[some (.int c),some (.ref s),some (.ref h.length),e3,e4,e5]/\Pf h g/\g[h.length]? =some (.lst (ms.map mkD))/\(ms.map (·.n)).Sublist ((sh.take j).map (·.1))/\∀m∈ms,a0g m.s/\Y9 m.a/\Y9 m.b) (fun _ _ _ _=>rfl) ((List.range sh.length).map fun i=>.int ((0:Int)+(i:Nat))) 0 [some (.int c),some (.ref s),some (.ref h.length),none,none,none] (h++[.lst []]) (fun j x env g hx hP=>by
  obtain⟨ms,e3,e4,e5,rfl,p1,p2,p3,p4⟩:=hP;obtain⟨hj,rfl⟩:=a2g hx;rw[Nat.zero_add] at p3⊢;obtain⟨t1,t2⟩:=a4X hj p3
  have a40:((j:Nat):Int)+40=((j+40:Nat):Int):=by omega
  obtain⟨N,hN⟩:=z9 (ct:=ct) (k:=k) (c:=c) (j:=((j+40:Nat):Int)) (h:=g) f202 (by omega)
  have m4:u6 g (.int (N:Int)) (.int 4)=.ok (.int ((N%4:Nat):Int)) g:=D3 4 (by decide)
  show∃env1 env' h',_/\exs ct (b6 ct F (k+1)) mkB env1 g=_/\_
  unfold mkB
  by_cases hb:((N%4:Nat):Int)=1
  · have q1:G0 g (.int ((N%4:Nat):Int)) (.int 1)=.ok (.bl true) g:=by rw[hb];rfl
    obtain⟨sd,t,s1,s2⟩:=b1L (ct:=ct) (c:=b6 ct F (k+1)) (M:=N) (env:=[some (.int c),some (.ref s),some (.ref h.length),some (.int (j:Int)),some (.int (N:Int)),e5]) (h:=g) rfl;obtain⟨pa,a1,a2⟩:=a3L (ct:=ct) (k:=k) (m:=N/8) (h:=g++[t]) f205;obtain⟨pb,b1,b2⟩:=a3L (ct:=ct) (k:=k) (m:=N/8000) (h:=g++[t]) f205
    have d8:v7 (g++[t]) (.int (N:Int)) (.int 8)=.ok (.int ((N/8:Nat):Int)) (g++[t]):=G8 8 (by decide) (by decide)
    have d8k:v7 (g++[t]) (.int (N:Int)) (.int 8000)=.ok (.int ((N/8000:Nat):Int)) (g++[t]):=G8 8000 (by decide) (by decide)
    have sx:ixD (g++[t]) (.ref s) (.int (j:Int))=.ok (.tup [.str (sh[j]).1,.int ((sh[j]).2:Int)]) (g++[t]):=B0 (b7 (p1.at hh)) (a6b hj)
    have ml:(ms.map mkD).length<1000000:=by
     have:=t1.length_le
     rw[List.length_map] at this⊢;rw[List.length_map,List.length_take] at this;omega
    refine⟨_,[some (.int c),some (.ref s),some (.ref h.length),some (.int (j:Int)),some (.int (N:Int)),some (.str sd)],(g++[t]).set h.length (.lst (ms.map mkD++[mkD ⟨(sh[j]).1,sd,pa,pb⟩])),rfl,?_,ms++[⟨(sh[j]).1,sd,pa,pb⟩],_,_,_,rfl,(p1.app _).set (Nat.le_refl _),?_,?_,fun m hm=>?_⟩
    · show exs ct (b6 ct F (k+1)) _ [some (.int c),some (.ref s),some (.ref h.length),some (.int (j:Int)),e4,e5] g=_
      rw[seq (env':=[some (.int c),some (.ref s),some (.ref h.length),some (.int (j:Int)),some (.int (N:Int)),e5]) (h':=g) (by simp_arith[op2,l0,a40,hN])]
      unfold b7h;simp_arith[op2,m4,q1,s2,I0 (b7 (g:=[t]) p2),sx,a0p,d8,a2,d8k,b2,N2 (b7 (g:=[t]) p2) ml,mkD]
    · rw[y7 (b7 p2),List.map_append];rfl
    · rw[List.map_append];exact t2
    · rcases List.mem_append.mp hm with hm|hm
      · exact p4 m hm
      · rw[List.mem_singleton.mp hm];exact⟨s1,a1,b1⟩
  · have q1:G0 g (.int ((N%4:Nat):Int)) (.int 1)=.ok (.bl false) g:=by simp only[G0,eqS,hb,decide_false]
    refine⟨_,[some (.int c),some (.ref s),some (.ref h.length),some (.int (j:Int)),some (.int (N:Int)),e5],g,rfl,?_,ms,_,_,_,rfl,p1,p2,t1,p4⟩
    show exs ct (b6 ct F (k+1)) _ [some (.int c),some (.ref s),some (.ref h.length),some (.int (j:Int)),e4,e5] g=_
    rw[seq (env':=[some (.int c),some (.ref s),some (.ref h.length),some (.int (j:Int)),some (.int (N:Int)),e5]) (h':=g) (by simp_arith[op2,l0,a40,hN])]
    simp_arith[op2,m4,q1]) ⟨[],none,none,none,rfl,(Pf.refl h).app _,b8,List.nil_sublist _,fun _ h=>nomatch h⟩
 rw[List.length_map,List.length_range,Nat.zero_add,List.take_length] at q4;refine⟨ms,q4,q5,?_⟩
 rw[seq (env':=[some (.int c),some (.ref s),some (.ref h.length),e3,e4,e5]) (h':=g') (by simp_arith[len,a0s (h:=h++[.lst []]) (m:=sh.length) (by omega),e1])]
 simp_arith[];exact a6u q2 q3 (Nat.le_refl _) (b0k _)
end
end EV
namespace EV
open PySem L2 L2T
structure Pt where
 n:Str
 s:Str
 a:Int×Int
def ptD(p:Pt):D:=.tup [.str p.n,.str p.s,spD p.a]
def ptK(p:Pt):Str×Str:=(p.n,p.s)
theorem b0j(ms:List Pt):D.flats (ms.map ptD)=true:=G2 fun d hd=>by
 obtain⟨p,_,rfl⟩:=List.mem_map.mp hd;rfl
section
variable{ct:CT}{F:Nat->Option Fn}
def a9e:Ss:=(.cons (.iff (.cmp .gt (.bin .mod (.bin .div (.v 4) (.k (.int (2)))) (.k (.int (3)))) (.k (.int (0)))) (.cons (.ex (.mt .append (.v 2) (.cons (.tup (.cons (.ix (.ix (.v 1) (.v 3)) (.k (.int (0)))) (.cons (.v 5) (.cons (.call 205 (.cons (.bin .div (.v 4) (.k (.int (6)))) .nil)) .nil)))) .nil))) .nil) .nil) .nil)
def ptB:Ss:=(.cons (.set 4 (.call 202 (.cons (.v 0) (.cons (.bin .add (.v 3) (.k (.int (70)))) .nil)))) (.cons (.for (.nm 5) (.seq (.sl (.lst (.cons (.k (.str "above")) (.cons (.k (.str "below")) .nil))) (.at (.bin .mod (.v 4) (.k (.int (2))))) .no)) a9e) .nil))
theorem a7R:w6=⟨2,6,2,(.cons (.set 2 (.lst .nil)) (.cons (.for (.nm 3) (.rng1 (.bi .len (.cons (.v 1) .nil))) ptB) (.cons (.ret (.v 2)) .nil)))⟩:=rfl
theorem a7F(N:Nat):∃l:List Str,O3 [.str "above",.str "below"] (some ((N%2:Nat):Int)) none=l.map .str/\l.Nodup/\(∀s∈l,a0g s)/\l.length<=2:=by
 have:N%2=0∨N%2=1:=by omega
 rw[Q2]
 rcases this with e|e<;>rw[e]
 · exact⟨["above","below"],rfl,by decide,fun s hs=>by
    simp only[List.mem_cons,List.not_mem_nil,or_false] at hs;exact hs,by decide⟩
 · exact⟨["below"],rfl,by decide,fun s hs=>.inr (List.mem_singleton.mp hs),by decide⟩
variable(f202:F 202=some o4)(f205:F 205=some u7)
include f205
theorem a9b{k s a N j n:Nat}{c:Int}{sh:List (Str×Nat)}{ps:List Pt}{l:List Str}{h g:AH}(hh:h[s]? =some (.lst (shD sh)))(hj:j<sh.length)(ha:a=h.length)(hn:a<n)(p1:Pf h g)(p2:g[a]? =some (.lst (ps.map ptD)))(p3:g[n]? =some (.lst (l.map .str)))(hl:ps.length<=1000)(l2:l.length<=2)(e5:Option D)(sd:∀s∈l,a0g s):
 ∃qs e5' g',N5 [(n,.lst (l.map .str))] (.nm 5) (exs ct (b6 ct F (k+1)) a9e) (l.map .str) [some (.int c),some (.ref s),some (.ref a),some (.int (j:Int)),some (.int (N:Int)),e5] g=.ok (.nx [some (.int c),some (.ref s),some (.ref a),some (.int (j:Int)),some (.int (N:Int)),e5']) g'/\Pf h g'/\g'[a]? =some (.lst ((ps++qs).map ptD))/\(qs.map ptK).Sublist (l.map fun s=>((sh[j]).1,s))/\∀q∈qs,a0g q.s/\Y9 q.a:=by
 obtain⟨env',g',e1,qs,e5',rfl,q1,q2,q3,q4,q5⟩:=J1 (g:=[(n,.lst (l.map .str))]) (p:=.nm 5) (body:=exs ct (b6 ct F (k+1)) a9e) (fun i env gg=>∃qs:List Pt,∃e5,env=[some (.int c),some (.ref s),some (.ref a),some (.int (j:Int)),some (.int (N:Int)),e5]/\Pf h gg/\gg[a]? =some (.lst ((ps++qs).map ptD))/\gg[n]? =some (.lst (l.map .str))/\(qs.map ptK).Sublist ((l.take i).map fun s=>((sh[j]).1,s))/\∀q∈qs,a0g q.s/\Y9 q.a) (fun i env gg hP=>by
  obtain⟨_,_,_,_,_,h3,_⟩:=hP;simp[gOk,h3]) (l.map .str) 0 [some (.int c),some (.ref s),some (.ref a),some (.int (j:Int)),some (.int (N:Int)),e5] g (fun i x env gg hx hP=>by
  obtain⟨qs,e5,rfl,r1,r2,r3,r4,r5⟩:=hP
  have hi:i<l.length:=by simpa using(List.getElem?_eq_some_iff.mp hx).1
  rw[List.getElem?_map,List.getElem?_eq_getElem hi] at hx
  obtain rfl:D.str l[i]=x:=Option.some.inj hx;rw[Nat.zero_add] at r4⊢;obtain⟨t1,t2⟩:=a4X (f:=fun s=>((sh[j]).1,s)) hi r4
  have d2:∀h,v7 h (.int (N:Int)) (.int 2)=.ok (.int ((N/2:Nat):Int)) h:=fun h=>G8 2 (by decide) (by decide)
  have m3:∀(a:Nat) h,u6 h (.int (a:Int)) (.int 3)=.ok (.int ((a%3:Nat):Int)) h:=fun a h=>D3 3 (by decide)
  have d6:v7 gg (.int (N:Int)) (.int 6)=.ok (.int ((N/6:Nat):Int)) gg:=G8 6 (by decide) (by decide)
  show∃env1 env' h',_/\exs ct (b6 ct F (k+1)) a9e env1 gg=_/\_
  unfold a9e
  by_cases hb:(0:Int)<((N/2%3:Nat):Int)
  · obtain⟨p,a1,a2⟩:=a3L (ct:=ct) (k:=k) (m:=N/6) (h:=gg) f205
    have sx:ixD gg (.ref s) (.int (j:Int))=.ok (.tup [.str (sh[j]).1,.int ((sh[j]).2:Int)]) gg:=B0 (r1.at hh) (a6b hj)
    have ml:((ps++qs).map ptD).length<1000000:=by
     have:=t1.length_le
     rw[List.length_map,List.length_append];rw[List.length_map,List.length_map,List.length_take] at this;omega
    refine⟨_,[some (.int c),some (.ref s),some (.ref a),some (.int (j:Int)),some (.int (N:Int)),some (.str l[i])],gg.set a (.lst ((ps++qs).map ptD++[ptD ⟨(sh[j]).1,l[i],p⟩])),rfl,?_,qs++[⟨(sh[j]).1,l[i],p⟩],_,rfl,r1.set (by omega),?_,b9 (by omega) r3,?_,fun q hq=>?_⟩
    · show exs ct (b6 ct F (k+1)) _ [some (.int c),some (.ref s),some (.ref a),some (.int (j:Int)),some (.int (N:Int)),some (.str l[i])] gg=_
      simp_arith[op2,d2,m3,D2,hb,decide_true,I0 r2,sx,a0p,d6,a2,N2 r2 ml,ptD]
    · rw[y7 r2,←List.append_assoc,List.map_append (l₁:=ps++qs)];rfl
    · rw[List.map_append];exact t2
    · rcases List.mem_append.mp hq with hq|hq
      · exact r5 q hq
      · rw[List.mem_singleton.mp hq];exact⟨sd _ (List.getElem_mem hi),a1⟩
  · refine⟨_,[some (.int c),some (.ref s),some (.ref a),some (.int (j:Int)),some (.int (N:Int)),some (.str l[i])],gg,rfl,?_,qs,_,rfl,r1,r2,r3,t1,r5⟩
    show exs ct (b6 ct F (k+1)) _ [some (.int c),some (.ref s),some (.ref a),some (.int (j:Int)),some (.int (N:Int)),some (.str l[i])] gg=_
    simp_arith[op2,d2,m3,D2,hb,decide_false]) ⟨[],e5,rfl,p1,by rw[List.append_nil];exact p2,p3,List.nil_sublist _,fun _ h=>nomatch h⟩
 rw[List.length_map,Nat.zero_add,List.take_length] at q4;exact⟨qs,e5',g',e1,q1,q2,q4,q5⟩
include f202
theorem a7Q{k s:Nat}{c:Int}{sh:List (Str×Nat)}{h:AH}(hF:F 207=some w6)(hs:Shs sh)(hh:h[s]? =some (.lst (shD sh))):∃ps:List Pt,(ps.map ptK).Nodup/\ps.length<=100/\(∀p∈ps,p.n∈sh.map (·.1)/\a0g p.s/\Y9 p.a)/\b6 ct F (k+2) 207 [.int c,.ref s] h=.ok (.ref h.length) (h++[.lst (ps.map ptD)]):=by
 have hi:=hs.hi;rw[n0 hF rfl];simp only[a7R]
 show∃ps:List Pt,_/\_/\_/\gcR 2 h (W9 (exs ct (b6 ct F (k+1)) _ [some (.int c),some (.ref s),none,none,none,none] h))=_
 rw[seq (env':=[some (.int c),some (.ref s),some (.ref h.length),none,none,none]) (h':=h++[.lst []]) (by simp_arith[x5])]
 have len:biD .len (h++[.lst []]) [.ref s]=.ok (.int (sh.length:Int)) (h++[.lst []]):=by rw[p8 (b7 hh)];unfold shD;rw[List.length_map]
 obtain⟨env',g',e1,ps,e3,e4,e5,rfl,q2,q3,q4,q5,q6,q7⟩:=J1 (g:=[]) (p:=.nm 3) (body:=exs ct (b6 ct F (k+1)) ptB) (fun j env g=>∃ps:List Pt,∃e3 e4 e5,env=[some (.int c),some (.ref s),some (.ref h.length),e3,e4,e5]/\Pf h g/\g[h.length]? =some (.lst (ps.map ptD))/\(ps.map ptK).Nodup/\ps.length<=2*j/\(∀p∈ps,p.n∈(sh.take j).map (·.1))/\∀p∈ps,a0g p.s/\Y9 p.a) (fun _ _ _ _=>rfl) ((List.range sh.length).map fun i=>.int ((0:Int)+(i:Nat))) 0 [some (.int c),some (.ref s),some (.ref h.length),none,none,none] (h++[.lst []]) (fun j x env g hx hP=>by
  obtain⟨ps,e3,e4,e5,rfl,p1,p2,p3,p4,p5,p6⟩:=hP;obtain⟨hj,rfl⟩:=a2g hx;rw[Nat.zero_add] at p4 p5⊢
  have a70:((j:Nat):Int)+70=((j+70:Nat):Int):=by omega
  obtain⟨N,hN⟩:=z9 (ct:=ct) (k:=k) (c:=c) (j:=((j+70:Nat):Int)) (h:=g) f202 (by omega)
  have m2:∀h,u6 h (.int (N:Int)) (.int 2)=.ok (.int ((N%2:Nat):Int)) h:=fun h=>D3 2 (by decide)
  obtain⟨l,l1,l2,l3,l4⟩:=a7F N
  have sl:slD (g++[.lst [.str "above",.str "below"]]) (some ((N%2:Nat):Int)) none (.ref g.length)=.ok (.ref (g.length+1)) (g++[.lst [.str "above",.str "below"]]++[.lst (l.map .str)]):=by
   rw[L1 b8,l1];simp
  have gl:h.length<g.length:=(List.getElem?_eq_some_iff.mp p2).1
  have gn:(g++[Cell.lst [.str "above",.str "below"]]++[.lst (l.map .str)])[g.length+1]? =some (.lst (l.map .str)):=by
   have:=b8 (h:=g++[Cell.lst [.str "above",.str "below"]]) (c:=.lst (l.map .str))
   rw[List.length_append] at this;exact this
  obtain⟨qs,e5',g2,f1,f2,f3,f4,f5⟩:=a9b (ct:=ct) (k:=k) (c:=c) (N:=N) f205 hh hj rfl (Nat.lt_trans gl (Nat.lt_succ_self _)) ((p1.app _).app _) (b7 (b7 p2)) gn (by omega) l4 e5 l3
  have nw:(sh[j]).1∉(sh.take j).map (·.1):=fun hm=>by
   have nd:=hs.nd;rw[←List.take_append_drop j sh,List.drop_eq_getElem_cons hj,List.map_append,List.map_cons] at nd
   have:=List.nodup_append.mp nd
   exact this.2.2 _ hm _ (.head _) rfl
  refine⟨_,[some (.int c),some (.ref s),some (.ref h.length),some (.int (j:Int)),some (.int (N:Int)),e5'],g2,rfl,?_,ps++qs,_,_,_,rfl,f2,f3,?_,?_,fun p hp=>?_,fun p hp=>?_⟩
  · show exs ct (b6 ct F (k+1)) ptB [some (.int c),some (.ref s),some (.ref h.length),some (.int (j:Int)),e4,e5] g=_
    unfold ptB;rw[seq (env':=[some (.int c),some (.ref s),some (.ref h.length),some (.int (j:Int)),some (.int (N:Int)),e5]) (h':=g) (by simp_arith[op2,l0,a70,hN])]
    simp_arith[x5,op2,m2,sl,a0q,gn,f1]
  · rw[List.map_append];refine List.nodup_append.mpr ⟨p3,f4.nodup (Z5 _ l2 fun a _ b _ e=>(Prod.mk.inj e).2),fun a ha b hb e=>?_⟩
    obtain⟨p,hp,rfl⟩:=List.mem_map.mp ha;have hb:=f4.subset hb;obtain⟨y,_,rfl⟩:=List.mem_map.mp hb;refine nw ?_
    have e1:p.n=(sh[j]).1:=(Prod.mk.inj e).1
    rw[←e1];exact p5 p hp
  · have:=f4.length_le
    rw[List.length_map,List.length_map] at this;rw[List.length_append];omega
  · rw[List.take_succ_eq_append_getElem hj,List.map_append]
    rcases List.mem_append.mp hp with hp|hp
    · exact List.mem_append_left _ (p5 p hp)
    · have:=f4.subset (List.mem_map_of_mem hp)
      obtain⟨y,_,e⟩:=List.mem_map.mp this;refine List.mem_append_right _ ?_
      have e1:(sh[j]).1=p.n:=(Prod.mk.inj e).1
      rw[←e1];exact .head _
  · rcases List.mem_append.mp hp with hp|hp
    · exact p6 p hp
    · exact f5 p hp) ⟨[],none,none,none,rfl,(Pf.refl h).app _,b8,List.nodup_nil,Nat.zero_le _,(fun _ h=>nomatch h),fun _ h=>nomatch h⟩
 rw[List.length_map,List.length_range,Nat.zero_add] at q5 q6;rw[List.take_length] at q6;refine⟨ps,q4,by omega,fun p hp=>⟨q6 p hp,q7 p hp⟩,?_⟩
 rw[seq (env':=[some (.int c),some (.ref s),some (.ref h.length),e3,e4,e5]) (h':=g') (by simp_arith[len,a0s (h:=h++[.lst []]) (m:=sh.length) (by omega),e1])]
 simp_arith[];exact a6u q2 q3 (Nat.le_refl _) (b0j _)
end
end EV
namespace EV
open PySem L2 L2T
def pk(sh:List (Str×Nat))(x:Nat):Str:=match sh[x%sh.length]? with
 |some p=>p.1
 |none=>""
theorem a3f{sh:List (Str×Nat)}(hs:4<=sh.length)(x:Nat):pk sh x∈sh.map (·.1)/\∃w,(shD sh)[x%sh.length]? =some (.tup [.str (pk sh x),w]):=by
 have lt:x%sh.length<sh.length:=Nat.mod_lt _ (by omega)
 unfold pk;rw[List.getElem?_eq_getElem lt]
 exact⟨List.mem_map_of_mem (List.getElem_mem lt),_,a6b lt⟩
structure Lt where
 n:Str
 j:Str
 w:Str
 fs:List Str
def ltD(l:Lt):D:=.tup [.str l.n,.str l.j,.str l.w,.tup (l.fs.map .str)]
structure LtOk(sh:List (Str×Nat))(l:Lt):Prop where
 nm:d0 l.n=true
 jn:o5 a5t (.str l.j)=some (.int l.fs.length)
 few:1<=l.fs.length/\l.fs.length<=4
 wy:inD (.str l.w) [.str "left",.str "right",.str "either"]=true
 js:l.j="both"∨l.j="back"∨l.j="none"∨l.j="clear"
 ws:l.w="left"∨l.w="right"∨l.w="either"
 fs:∀f∈l.fs,f∈sh.map (·.1)
theorem b0l(ms:List Lt):D.flats (ms.map ltD)=true:=G2 fun d hd=>by
 obtain⟨p,_,rfl⟩:=List.mem_map.mp hd
 show D.flats [.str p.n,.str p.j,.str p.w,.tup (p.fs.map .str)]=true
 simp only[D.flats,D.flat,J8,Bool.and_self]
def jnL:List Str:=["both","back","none","both","clear","both"]
def jnD:List (D×D):=[((.str "both"),(.int (4))),((.str "back"),(.int (2))),((.str "none"),(.int (1))),((.str "clear"),(.int (1)))]
theorem b7i(i:Nat):∃j n,jnL[i%6]? =some j/\o5 jnD (.str j)=some (.int ((n:Nat):Int))/\E9 (.str j) jnD=true/\o5 a5t (.str j)=some (.int ((n:Nat):Int))/\(1<=n/\n<=4)/\(j="both"∨j="back"∨j="none"∨j="clear"):=by
 have:i%6=0∨i%6=1∨i%6=2∨i%6=3∨i%6=4∨i%6=5:=by omega
 rcases this with e|e|e|e|e|e<;>rw[e]
 · exact⟨"both",4,rfl,by decide,by decide,by decide,by decide,.inl rfl⟩
 · exact⟨"back",2,rfl,by decide,by decide,by decide,by decide,.inr (.inl rfl)⟩
 · exact⟨"none",1,rfl,by decide,by decide,by decide,by decide,.inr (.inr (.inl rfl))⟩
 · exact⟨"both",4,rfl,by decide,by decide,by decide,by decide,.inl rfl⟩
 · exact⟨"clear",1,rfl,by decide,by decide,by decide,by decide,.inr (.inr (.inr rfl))⟩
 · exact⟨"both",4,rfl,by decide,by decide,by decide,by decide,.inl rfl⟩
def wyL:List Str:=["left","right","either"]
theorem b6n(i:Nat):∃w,wyL[i%3]? =some w/\inD (.str w) [.str "left",.str "right",.str "either"]=true/\(w="left"∨w="right"∨w="either"):=by
 have:i%3=0∨i%3=1∨i%3=2:=by omega
 rcases this with e|e|e<;>rw[e]
 · exact⟨"left",rfl,by decide,.inl rfl⟩
 · exact⟨"right",rfl,by decide,.inr (.inl rfl)⟩
 · exact⟨"either",rfl,by decide,.inr (.inr rfl)⟩
section
variable{ct:CT}{F:Nat->Option Fn}
def jnE:E:=(.lst (.cons (.k (.str "both")) (.cons (.k (.str "back")) (.cons (.k (.str "none")) (.cons (.k (.str "both")) (.cons (.k (.str "clear")) (.cons (.k (.str "both")) .nil)))))))
def wyE:E:=(.lst (.cons (.k (.str "left")) (.cons (.k (.str "right")) (.cons (.k (.str "either")) .nil))))
def fcE:E:=(.comp (.nm 0) (.rng1 (.v 8)) 1 [6,1] .yes (.ix (.ix (.v 2) (.bin .mod (.bin .div (.v 1) (.bin .add (.bin .mul (.bin .mul (.v 0) (.v 0)) (.k (.int (31)))) (.k (.int (7))))) (.bi .len (.cons (.v 2) .nil)))) (.k (.int (0)))))
def lB5:Ss:=(.cons (.ex (.mt .append (.v 4) (.cons (.tup (.cons (.ix (.v 3) (.v 5)) (.cons (.v 7) (.cons (.ix wyE (.bin .mod (.bin .div (.v 6) (.k (.int (6)))) (.k (.int (3))))) (.cons (.v 9) .nil))))) .nil))) .nil)
def lB4:Ss:=(.cons (.set 9 (.bi .tuple (.cons fcE .nil))) lB5)
def lB3:Ss:=(.cons (.set 8 (.ix (.dlit jnD) (.v 7))) lB4)
def lB:Ss:=(.cons (.set 6 (.call 202 (.cons (.v 0) (.cons (.bin .add (.v 5) (.k (.int (100)))) .nil)))) (.cons (.set 7 (.ix jnE (.bin .mod (.v 6) (.k (.int (6)))))) lB3))
theorem a6m:u9=⟨2,10,2,(.cons (.set 2 (.call 202 (.cons (.v 0) (.cons (.k (.int (2))) .nil)))) (.cons (.set 3 (.call 203 (.cons (.bin .div (.v 2) (.k (.int (6)))) (.cons (.bin .add (.k (.int (1))) (.bin .mod (.v 2) (.k (.int (6))))) .nil)))) (.cons (.set 4 (.lst .nil)) (.cons (.for (.nm 5) (.rng1 (.bi .len (.cons (.v 3) .nil))) lB) (.cons (.ret (.v 4)) .nil)))))⟩:=rfl
theorem b2U{c:CF}{kvs:List (D×D)}{env:j9}{h:AH}:ev ct c (.dlit kvs) env h=x5 (.dict kvs) h:=by(rw[ev];try rfl)
theorem a2s{s:Nat}{sh:List (Str×Nat)}{g:AH}(hh:g[s]? =some (.lst (shD sh))):biD .len g [.ref s]=.ok (.int (sh.length:Int)) g:=by rw[p8 hh];unfold shD;rw[List.length_map]
theorem a5u{s x:Nat}{sh:List (Str×Nat)}{g:AH}(hs:4<=sh.length)(hh:g[s]? =some (.lst (shD sh))):∃w,ixD g (.ref s) (.int ((x%sh.length:Nat):Int))=.ok (.tup [.str (pk sh x),w]) g:=by
 obtain⟨_,w,e⟩:=a3f hs x;exact⟨w,B0 hh e⟩
theorem b0q{c:CF}{s N m:Nat}{sh:List (Str×Nat)}{env:j9}{g:AH}(hs:4<=sh.length)(hh:g[s]? =some (.lst (shD sh)))(e1:env[1]? =some (some (.ref s)))(e6:env[6]? =some (some (.int (N:Int))))(e8:env[8]? =some (some (.int (m:Int))))(hm:m<=1000):
 ev ct c fcE env g=.ok (.ref g.length) (g++[.lst ((List.range m).map fun i=>.str (pk sh (N/(i*i*31+7))))]):=by
 unfold fcE;refine U6 (fun i=>.str (pk sh (N/(i*i*31+7)))) (by simp_arith[e8]) (by omega) fun i hi=>?_
 have ii:i*i<=1000000:=Nat.mul_le_mul (show i<=1000 by omega) (show i<=1000 by omega)
 have m1:M5 g (.int (i:Int)) (.int (i:Int))=.ok (.int ((i*i:Nat):Int)) g:=by rw[L4 (by omega)];congr 2
 have m2:M5 g (.int ((i*i:Nat):Int)) (.int 31)=.ok (.int ((i*i*31:Nat):Int)) g:=by rw[L4 (by decide)];congr 2
 have a7:((i*i*31:Nat):Int)+7=((i*i*31+7:Nat):Int):=by omega
 obtain⟨w,ix⟩:=a5u (x:=N/(i*i*31+7)) hs hh;simp_arith[e1,e6,Q5,op2,m1,m2,l0,a7,G8 (i*i*31+7) (by omega) (by omega),a2s hh,D3 sh.length (by omega),ix,a0p]
variable(f202:F 202=some o4)(f203:F 203=some n9)
include f202
theorem a5q{k s a N0 j:Nat}{c:Int}{sh:List (Str×Nat)}{ns:List Str}{ls:List Lt}{h g:AH}(hs:4<=sh.length)(hh:h[s]? =some (.lst (shD sh)))(hj:j<ns.length)(n6:ns.length<=100)(ll:ls.length<=1000)(hn:d0 ns[j]=true)(ha:a=h.length)(p1:Pf h g)(p2:g[a]? =some (.lst (ns.map .str)))(p3:g[a+1]? =some (.lst (ls.map ltD)))(e6 e7 e8 e9:Option D):
 ∃l x6 x7 x8 x9 g',LtOk sh l/\l.n=ns[j]/\exs ct (b6 ct F (k+1)) lB [some (.int c),some (.ref s),some (.int (N0:Int)),some (.ref a),some (.ref (a+1)),some (.int (j:Int)),e6,e7,e8,e9] g=.ok (.nx [some (.int c),some (.ref s),some (.int (N0:Int)),some (.ref a),some (.ref (a+1)),some (.int (j:Int)),x6,x7,x8,x9]) g'/\Pf h g'/\g'[a]? =some (.lst (ns.map .str))/\g'[a+1]? =some (.lst ((ls++[l]).map ltD)):=by
 have a100:((j:Nat):Int)+100=((j+100:Nat):Int):=by omega
 obtain⟨N,hN⟩:=z9 (ct:=ct) (k:=k) (c:=c) (j:=((j+100:Nat):Int)) (h:=g) f202 (by omega)
 obtain⟨jn,m,j1,j2,j3,j4,j5,j6⟩:=b7i N;obtain⟨wy,w1,w2,w3⟩:=b6n (N/6)
 have m6:∀h,u6 h (.int (N:Int)) (.int 6)=.ok (.int ((N%6:Nat):Int)) h:=fun h=>D3 6 (by decide)
 have d6:∀h,v7 h (.int (N:Int)) (.int 6)=.ok (.int ((N/6:Nat):Int)) h:=fun h=>G8 6 (by decide) (by decide)
 have m3:∀(a:Nat) h,u6 h (.int (a:Int)) (.int 3)=.ok (.int ((a%3:Nat):Int)) h:=fun a h=>D3 3 (by decide)
 have je:∀(env:j9) (h:AH),ev ct (b6 ct F (k+1)) jnE env h=.ok (.ref h.length) (h++[.lst (jnL.map .str)]):=fun env h=>by unfold jnE jnL;simp_arith[x5]
 have we:∀(env:j9) (h:AH),ev ct (b6 ct F (k+1)) wyE env h=.ok (.ref h.length) (h++[.lst (wyL.map .str)]):=fun env h=>by unfold wyE wyL;simp_arith[x5]
 have jx:∀h:AH,ixD (h++[.lst (jnL.map .str)]) (.ref h.length) (.int ((N%6:Nat):Int))=.ok (.str jn) (h++[.lst (jnL.map .str)]):=fun h=>B0 b8 (by rw[List.getElem?_map,j1];rfl)
 have wx:∀h:AH,ixD (h++[.lst (wyL.map .str)]) (.ref h.length) (.int ((N/6%3:Nat):Int))=.ok (.str wy) (h++[.lst (wyL.map .str)]):=fun h=>B0 b8 (by rw[List.getElem?_map,w1];rfl)
 have dx:∀h:AH,ixD (h++[.dict jnD]) (.ref h.length) (.str jn)=.ok (.int ((m:Nat):Int)) (h++[.dict jnD]):=fun h=>by
  simp only[ixD,b8,j3,if_true,j2]
 have fl:((List.range m).map fun i=>D.str (pk sh (N/(i*i*31+7))))=((List.range m).map fun i=>pk sh (N/(i*i*31+7))).map .str:=by rw[List.map_map];rfl
 refine⟨⟨ns[j],jn,wy,(List.range m).map fun i=>pk sh (N/(i*i*31+7))⟩,some (.int (N:Int)),some (.str jn),some (.int (m:Int)),some (.tup (((List.range m).map fun i=>pk sh (N/(i*i*31+7))).map .str)),(g++[Cell.lst (jnL.map .str)]++[Cell.dict jnD]++[Cell.lst (((List.range m).map fun i=>pk sh (N/(i*i*31+7))).map .str)]++[Cell.lst (wyL.map .str)]).set (a+1) (.lst (ls.map ltD++[ltD ⟨ns[j],jn,wy,(List.range m).map fun i=>pk sh (N/(i*i*31+7))⟩])),⟨hn,by simpa using j4,by simpa using j5,w2,j6,w3,fun f hf=>?_⟩,rfl,?_,?_,?_,?_⟩
 · obtain⟨i,_,rfl⟩:=List.mem_map.mp hf;exact(a3f hs _).1
 · unfold lB;rw[seq (env':=[some (.int c),some (.ref s),some (.int (N0:Int)),some (.ref a),some (.ref (a+1)),some (.int (j:Int)),some (.int (N:Int)),e7,e8,e9]) (h':=g) (by simp_arith[op2,l0,a100,hN])]
   rw[seq (env':=[some (.int c),some (.ref s),some (.int (N0:Int)),some (.ref a),some (.ref (a+1)),some (.int (j:Int)),some (.int (N:Int)),some (.str jn),e8,e9]) (h':=g++[.lst (jnL.map .str)]) (by simp_arith[je,op2,m6,jx])]
   have P1:Pf h (g++[.lst (jnL.map .str)]):=p1.app _
   have A1:=b7 (g:=[.lst (jnL.map .str)]) p2;have B1:=b7 (g:=[.lst (jnL.map .str)]) p3;generalize g++[Cell.lst (jnL.map .str)]=g1 at*
   unfold lB3;rw[seq (env':=[some (.int c),some (.ref s),some (.int (N0:Int)),some (.ref a),some (.ref (a+1)),some (.int (j:Int)),some (.int (N:Int)),some (.str jn),some (.int (m:Int)),e9]) (h':=g1++[.dict jnD]) (by simp_arith[b2U,x5,dx])]
   have P2:Pf h (g1++[.dict jnD]):=P1.app _
   have A2:=b7 (g:=[.dict jnD]) A1;have B2:=b7 (g:=[.dict jnD]) B1;generalize g1++[Cell.dict jnD]=g2 at*
   unfold lB4;have fo:=b0q (ct:=ct) (c:=b6 ct F (k+1)) (s:=s) (N:=N) (m:=m) (env:=[some (.int c),some (.ref s),some (.int (N0:Int)),some (.ref a),some (.ref (a+1)),some (.int (j:Int)),some (.int (N:Int)),some (.str jn),some (.int (m:Int)),e9]) (g:=g2) hs (P2.at hh) rfl rfl rfl (by omega)
   rw[fl] at fo;generalize ((List.range m).map fun i=>pk sh (N/(i*i*31+7)))=fs at*
   rw[seq (env':=[some (.int c),some (.ref s),some (.int (N0:Int)),some (.ref a),some (.ref (a+1)),some (.int (j:Int)),some (.int (N:Int)),some (.str jn),some (.int (m:Int)),some (.tup (fs.map .str))]) (h':=g2++[.lst (fs.map .str)]) (by simp_arith[fo,L9 b8])]
   have A3:=b7 (g:=[.lst (fs.map .str)]) A2;have B3:=b7 (g:=[.lst (fs.map .str)]) B2;generalize g2++[Cell.lst (fs.map .str)]=g3 at*
   unfold lB5
   have nx:ixD g3 (.ref a) (.int (j:Int))=.ok (.str ns[j]) g3:=B0 A3 (by rw[List.getElem?_map,List.getElem?_eq_getElem hj];rfl)
   simp_arith[I0 B3,nx,we,op2,d6,m3,wx,N2 (b7 (g:=[.lst (wyL.map .str)]) B3) (by rw[List.length_map];omega),ltD]
 · exact((((p1.app _).app _).app _).app _).set (by omega)
 · exact b9 (by omega) (b7 (b7 (b7 (b7 p2))))
 · rw[y7 (b7 (b7 (b7 (b7 p3)))),List.map_append];rfl
include f203
theorem a6l{k s:Nat}{c:Int}{sh:List (Str×Nat)}{h:AH}(hF:F 208=some u9)(hs:Shs sh)(hh:h[s]? =some (.lst (shD sh))):∃ls:List Lt,(1<=ls.length/\ls.length<=6)/\(ls.map (·.n)).Nodup/\(∀l∈ls,LtOk sh l)/\b6 ct F (k+2) 208 [.int c,.ref s] h=.ok (.ref h.length) (h++[.lst (ls.map ltD)]):=by
 obtain⟨M,hM⟩:=z9 (ct:=ct) (k:=k) (c:=c) (j:=2) (h:=h) f202 (by decide)
 have d6:v7 h (.int (M:Int)) (.int 6)=.ok (.int ((M/6:Nat):Int)) h:=G8 6 (by decide) (by decide)
 have m6:u6 h (.int (M:Int)) (.int 6)=.ok (.int ((M%6:Nat):Int)) h:=D3 6 (by decide)
 have a1:(1:Int)+((M%6:Nat):Int)=((1+M%6:Nat):Int):=by omega
 have l6:M%6<6:=Nat.mod_lt _ (by decide)
 obtain⟨ns,nk,hN⟩:=X1 (ct:=ct) (k:=k) (c:=M/6) (m:=1+M%6) (h:=h) f203 (by omega)
 generalize hm:1+M%6=m at nk hN a1;rw[n0 hF rfl];simp only[a6m]
 show∃ls:List Lt,_/\_/\_/\gcR 2 h (W9 (exs ct (b6 ct F (k+1)) _ [some (.int c),some (.ref s),none,none,none,none,none,none,none,none] h))=_
 rw[seq (env':=[some (.int c),some (.ref s),some (.int (M:Int)),none,none,none,none,none,none,none]) (h':=h) (by simp_arith[hM])]
 rw[seq (env':=[some (.int c),some (.ref s),some (.int (M:Int)),some (.ref h.length),none,none,none,none,none,none]) (h':=h++[.lst (ns.map .str)]) (by simp_arith[op2,d6,m6,l0,a1,hN])]
 have l1:(h++[Cell.lst (ns.map D.str)]).length=h.length+1:=by simp
 rw[seq (env':=[some (.int c),some (.ref s),some (.int (M:Int)),some (.ref h.length),some (.ref (h.length+1)),none,none,none,none,none]) (h':=h++[.lst (ns.map .str)]++[.lst []]) (by simp_arith[x5,l1])]
 have gN:(h++[Cell.lst (ns.map D.str)]++[Cell.lst []])[h.length]? =some (.lst (ns.map .str)):=b7 b8
 have gW:(h++[Cell.lst (ns.map D.str)]++[Cell.lst []])[h.length+1]? =some (.lst []):=by rw[←l1];exact b8
 have pf:Pf h (h++[Cell.lst (ns.map D.str)]++[Cell.lst []]):=((Pf.refl h).app _).app _
 generalize h++[Cell.lst (ns.map D.str)]++[Cell.lst []]=g at gN gW pf
 have len:biD .len g [.ref h.length]=.ok (.int (m:Int)) g:=by rw[p8 gN,List.length_map,nk.len]
 obtain⟨env',g',e1,ls,e5,e6,e7,e8,e9,rfl,q2,q3,q4,q5,q6⟩:=J1 (g:=[]) (p:=.nm 5) (body:=exs ct (b6 ct F (k+1)) lB) (fun j env hh=>∃ls:List Lt,∃e5 e6 e7 e8 e9,env=[some (.int c),some (.ref s),some (.int (M:Int)),some (.ref h.length),some (.ref (h.length+1)),e5,e6,e7,e8,e9]/\Pf h hh/\hh[h.length]? =some (.lst (ns.map .str))/\hh[h.length+1]? =some (.lst (ls.map ltD))/\ls.map (·.n)=ns.take j/\∀l∈ls,LtOk sh l) (fun _ _ _ _=>rfl) ((List.range m).map fun i=>.int ((0:Int)+(i:Nat))) 0 [some (.int c),some (.ref s),some (.int (M:Int)),some (.ref h.length),some (.ref (h.length+1)),none,none,none,none,none] g (fun j x env hg hx hP=>by
  obtain⟨ls,e5,e6,e7,e8,e9,rfl,p1,p2,p3,p4,p5⟩:=hP;obtain⟨hj,rfl⟩:=a2g hx;rw[Nat.zero_add] at p4⊢
  have hj':j<ns.length:=by rw[nk.len];exact hj
  have ll:ls.length<=1000:=by
   have:=congrArg List.length p4
   rw[List.length_map,List.length_take] at this;omega
  obtain⟨l,x6,x7,x8,x9,g',t1,t2,t3,t4,t5,t6⟩:=a5q (ct:=ct) (k:=k) (c:=c) (N0:=M) f202 hs.lo hh hj' (by rw[nk.len];omega) ll (nk.ok _ (List.getElem_mem hj')) rfl p1 p2 p3 e6 e7 e8 e9
  refine⟨_,_,g',rfl,t3,ls++[l],_,_,_,_,_,rfl,t4,t5,t6,?_,fun y hy=>?_⟩
  · rw[List.map_append,p4,List.take_succ_eq_append_getElem hj',←t2];rfl
  · rcases List.mem_append.mp hy with hy|hy
    · exact p5 y hy
    · rw[List.mem_singleton.mp hy];exact t1) ⟨[],none,none,none,none,none,rfl,pf,gN,gW,rfl,fun _ h=>nomatch h⟩
 rw[List.length_map,List.length_range,Nat.zero_add,←nk.len,List.take_length] at q5
 have ln:ls.length=m:=by rw[←nk.len,←q5,List.length_map]
 refine⟨ls,by omega,by rw[q5];exact nk.nd,q6,?_⟩
 rw[seq (env':=[some (.int c),some (.ref s),some (.int (M:Int)),some (.ref h.length),some (.ref (h.length+1)),e5,e6,e7,e8,e9]) (h':=g') (by simp_arith[len,a0s (h:=g) (m:=m) (by omega),e1])]
 simp_arith[];exact a6u q2 q4 (Nat.le_succ _) (b0l _)
end
end EV
namespace EV
open PySem L2 L2T
structure Cs where
 n:Str
 fs:List Str
def csD(c:Cs):D:=.tup [.str c.n,.tup (c.fs.map .str)]
structure CsOk(sh:List (Str×Nat))(c:Cs):Prop where
 nm:d0 c.n=true
 few:1<=c.fs.length/\c.fs.length<=20
 fs:∀f∈c.fs,f∈sh.map (·.1)
theorem b0m(ms:List Cs):D.flats (ms.map csD)=true:=G2 fun d hd=>by
 obtain⟨p,_,rfl⟩:=List.mem_map.mp hd
 show D.flats [.str p.n,.tup (p.fs.map .str)]=true
 simp only[D.flats,D.flat,J8,Bool.and_self]
theorem a0c:∀{l:List D} {i j:Nat} {x:D},(z3 i l)[j]? =some x->∃d,l[j]? =some d/\x=.tup [.int ((i+j:Nat):Int),d]
 |[],i,j,x,h=>by simp[z3] at h
 |d::r,i,0,x,h=>by
  rw[z3] at h
  simp at h
  exact⟨d,rfl,h.symm⟩
 |d::r,i,j+1,x,h=>by
  rw[z3] at h;obtain⟨d',h1,h2⟩:=a0c (l:=r) (i:=i+1) (j:=j) (by simpa using h)
  refine⟨d',by simpa using h1,?_⟩
  rw[h2,show i+1+j=i+(j+1) by omega]
theorem U4:∀(l:List D) (i:Nat),(z3 i l).length=l.length
 |[],_=>rfl
 |d::r,i=>by rw[z3,List.length_cons,U4 r,List.length_cons]
section
variable{ct:CT}{F:Nat->Option Fn}
def smE:E:=(.comp (.nm 0) (.rng1 (.bin .add (.k (.int (1))) (.bin .mod (.v 6) (.k (.int (5)))))) 1 [6,1] .yes (.ix (.ix (.v 2) (.bin .mod (.bin .div (.v 1) (.bin .add (.bin .mul (.v 0) (.k (.int (13)))) (.k (.int (5))))) (.bi .len (.cons (.v 2) .nil)))) (.k (.int (0)))))
def kB:Ss:=(.cons (.set 6 (.call 202 (.cons (.v 0) (.cons (.bin .add (.v 4) (.k (.int (130)))) .nil)))) (.cons (.set 7 smE) (.cons (.ex (.mt .append (.v 3) (.cons (.tup (.cons (.v 5) (.cons (.bi .tuple (.cons (.v 7) .nil)) .nil))) .nil))) .nil)))
theorem a6D:v0=⟨2,8,2,(.cons (.set 2 (.call 202 (.cons (.v 0) (.cons (.k (.int (3))) .nil)))) (.cons (.set 3 (.lst .nil)) (.cons (.for (.tp (.cons (.nm 4) (.cons (.nm 5) .nil))) (.enum (.call 203 (.cons (.bin .div (.v 2) (.k (.int (4)))) (.cons (.bin .add (.k (.int (1))) (.bin .mod (.v 2) (.k (.int (3))))) .nil)))) kB) (.cons (.ret (.v 3)) .nil))))⟩:=rfl
theorem b1G{c:CF}{s N:Nat}{sh:List (Str×Nat)}{env:j9}{g:AH}(hs:4<=sh.length)(hh:g[s]? =some (.lst (shD sh)))(e1:env[1]? =some (some (.ref s)))(e6:env[6]? =some (some (.int (N:Int)))):
 ev ct c smE env g=.ok (.ref g.length) (g++[.lst (((List.range (1+N%5)).map fun i=>pk sh (N/(i*13+5))).map .str)]):=by
 unfold smE
 have m20:u6 g (.int (N:Int)) (.int 5)=.ok (.int ((N%5:Nat):Int)) g:=D3 5 (by decide)
 have a1:(1:Int)+((N%5:Nat):Int)=((1+N%5:Nat):Int):=by omega
 have l20:N%5<5:=Nat.mod_lt _ (by decide)
 have r:=U6 (ct:=ct) (c:=c) (fr:=[6,1]) (a:=.bin .add (.k (.int (1))) (.bin .mod (.v 6) (.k (.int (5))))) (e:=(.ix (.ix (.v 2) (.bin .mod (.bin .div (.v 1) (.bin .add (.bin .mul (.v 0) (.k (.int (13)))) (.k (.int (5))))) (.bi .len (.cons (.v 2) .nil)))) (.k (.int (0))))) (env:=env) (m:=1+N%5) (h:=g) (fun i=>.str (pk sh (N/(i*13+5)))) (by simp_arith[e6,op2,m20,l0,a1]) (by omega) (fun i hi=>by
  have m1:M5 g (.int (i:Int)) (.int 13)=.ok (.int ((i*13:Nat):Int)) g:=by rw[L4 (by decide)];congr 2
  have a5:((i*13:Nat):Int)+5=((i*13+5:Nat):Int):=by omega
  obtain⟨w,ix⟩:=a5u (x:=N/(i*13+5)) hs hh;simp_arith[e1,e6,Q5,op2,m1,l0,a5,G8 (i*13+5) (by omega) (by omega),a2s hh,D3 sh.length (by omega),ix,a0p])
 rw[r,List.map_map];rfl
variable(f202:F 202=some o4)(f203:F 203=some n9)
include f202 f203
theorem a6C{k s:Nat}{c:Int}{sh:List (Str×Nat)}{h:AH}(hF:F 209=some v0)(hs:Shs sh)(hh:h[s]? =some (.lst (shD sh))):∃ls:List Cs,(1<=ls.length/\ls.length<=9)/\(ls.map (·.n)).Nodup/\(∀l∈ls,CsOk sh l)/\b6 ct F (k+2) 209 [.int c,.ref s] h=.ok (.ref h.length) (h++[.lst (ls.map csD)]):=by
 obtain⟨M,hM⟩:=z9 (ct:=ct) (k:=k) (c:=c) (j:=3) (h:=h) f202 (by decide)
 have l1:(h++[Cell.lst []]).length=h.length+1:=by simp
 generalize hg:h++[Cell.lst []]=g0 at l1
 have d4:v7 g0 (.int (M:Int)) (.int 4)=.ok (.int ((M/4:Nat):Int)) g0:=G8 4 (by decide) (by decide)
 have m3:u6 g0 (.int (M:Int)) (.int 3)=.ok (.int ((M%3:Nat):Int)) g0:=D3 3 (by decide)
 have l3:M%3<3:=Nat.mod_lt _ (by decide)
 obtain⟨m,mb,me⟩:∃m:Nat,(1<=m/\m<=9)/\(1:Int)+((M%3:Nat):Int)=(m:Int):=⟨1+M%3,by omega,by omega⟩
 obtain⟨ns,nk,hN⟩:=X1 (ct:=ct) (k:=k) (c:=M/4) (m:=m) (h:=g0) f203 (by omega)
 rw[n0 hF rfl];simp only[a6D]
 show∃ls:List Cs,_/\_/\_/\gcR 2 h (W9 (exs ct (b6 ct F (k+1)) _ [some (.int c),some (.ref s),none,none,none,none,none,none] h))=_
 rw[seq (env':=[some (.int c),some (.ref s),some (.int (M:Int)),none,none,none,none,none]) (h':=h) (by simp_arith[hM])]
 rw[seq (env':=[some (.int c),some (.ref s),some (.int (M:Int)),some (.ref h.length),none,none,none,none]) (h':=g0) (by simp_arith[x5,hg])]
 have gW:(g0++[Cell.lst (ns.map D.str)])[h.length]? =some (.lst []):=b7 (by rw[←hg];exact b8)
 have gN:(g0++[Cell.lst (ns.map D.str)])[h.length+1]? =some (.lst (ns.map .str)):=by rw[←l1];exact b8
 have pf:Pf h (g0++[Cell.lst (ns.map D.str)]):=by rw[←hg];exact((Pf.refl h).app _).app _
 rw[l1] at hN;generalize g0++[Cell.lst (ns.map D.str)]=g at gN gW pf hN
 obtain⟨env',g',e1,ls,e4,e5,e6,e7,rfl,q2,q3,q4,q5,q6⟩:=J1 (g:=[(h.length+1,.lst (ns.map .str))]) (p:=.tp (.cons (.nm 4) (.cons (.nm 5) .nil))) (body:=exs ct (b6 ct F (k+1)) kB) (fun j env hh=>∃ls:List Cs,∃e4 e5 e6 e7,env=[some (.int c),some (.ref s),some (.int (M:Int)),some (.ref h.length),e4,e5,e6,e7]/\Pf h hh/\hh[h.length+1]? =some (.lst (ns.map .str))/\hh[h.length]? =some (.lst (ls.map csD))/\ls.map (·.n)=ns.take j/\∀l∈ls,CsOk sh l) (fun j env gg hP=>by
  obtain⟨_,_,_,_,_,_,_,h3,_⟩:=hP;simp[gOk,h3]) (z3 0 (ns.map .str)) 0 [some (.int c),some (.ref s),some (.int (M:Int)),some (.ref h.length),none,none,none,none] g (fun j x env hg hx hP=>by
  obtain⟨ls,e4,e5,e6,e7,rfl,p1,p2,p3,p4,p5⟩:=hP;obtain⟨d,hd,rfl⟩:=a0c hx
  have hj:j<ns.length:=by simpa using(List.getElem?_eq_some_iff.mp hd).1
  rw[List.getElem?_map,List.getElem?_eq_getElem hj] at hd
  obtain rfl:D.str ns[j]=d:=Option.some.inj hd;rw[Nat.zero_add] at p4⊢
  have a130:((j:Nat):Int)+130=((j+130:Nat):Int):=by omega
  have jl:=nk.len;obtain⟨N,hN⟩:=z9 (ct:=ct) (k:=k) (c:=c) (j:=((j+130:Nat):Int)) (h:=hg) f202 (by omega)
  have so:=b1G (ct:=ct) (c:=b6 ct F (k+1)) (s:=s) (N:=N) (env:=[some (.int c),some (.ref s),some (.int (M:Int)),some (.ref h.length),some (.int (j:Int)),some (.str ns[j]),some (.int (N:Int)),e7]) (g:=hg) hs.lo (p1.at hh) rfl rfl
  have l20:N%5<5:=Nat.mod_lt _ (by decide)
  have fo:∀f∈(List.range (1+N%5)).map fun i=>pk sh (N/(i*13+5)),f∈sh.map (·.1):=fun f hf=>by
   obtain⟨i,_,rfl⟩:=List.mem_map.mp hf;exact(a3f hs.lo _).1
  have fl:((List.range (1+N%5)).map fun i=>pk sh (N/(i*13+5))).length=1+N%5:=by simp
  generalize ((List.range (1+N%5)).map fun i=>pk sh (N/(i*13+5)))=fs at so fo fl
  have ll:(ls.map csD).length<1000000:=by
   have:=congrArg List.length p4
   rw[List.length_map,List.length_take] at this;rw[List.length_map];omega
  refine⟨_,[some (.int c),some (.ref s),some (.int (M:Int)),some (.ref h.length),some (.int (j:Int)),some (.str ns[j]),some (.int (N:Int)),some (.ref hg.length)],(hg++[Cell.lst (fs.map .str)]).set h.length (.lst (ls.map csD++[csD ⟨ns[j],fs⟩])),rfl,?_,ls++[⟨ns[j],fs⟩],_,_,_,_,rfl,(p1.app _).set (Nat.le_refl _),b9 (by omega) (b7 p2),?_,?_,fun y hy=>?_⟩
  · show exs ct (b6 ct F (k+1)) kB [some (.int c),some (.ref s),some (.int (M:Int)),some (.ref h.length),some (.int (j:Int)),some (.str ns[j]),e6,e7] hg=_
    unfold kB;rw[seq (env':=[some (.int c),some (.ref s),some (.int (M:Int)),some (.ref h.length),some (.int (j:Int)),some (.str ns[j]),some (.int (N:Int)),e7]) (h':=hg) (by simp_arith[op2,l0,a130,hN])]
    rw[seq (env':=[some (.int c),some (.ref s),some (.int (M:Int)),some (.ref h.length),some (.int (j:Int)),some (.str ns[j]),some (.int (N:Int)),some (.ref hg.length)]) (h':=hg++[.lst (fs.map .str)]) (by simp_arith[so])]
    simp_arith[I0 (b7 (g:=[.lst (fs.map .str)]) p3),L9 b8,N2 (b7 (g:=[.lst (fs.map .str)]) p3) ll,csD]
  · rw[y7 (b7 p3),List.map_append];rfl
  · rw[List.map_append,p4,List.take_succ_eq_append_getElem hj];rfl
  · rcases List.mem_append.mp hy with hy|hy
    · exact p5 y hy
    · rw[List.mem_singleton.mp hy];exact⟨nk.ok _ (List.getElem_mem hj),by simp only;omega,fo⟩) ⟨[],none,none,none,none,rfl,pf,gN,gW,rfl,fun _ h=>nomatch h⟩
 rw[U4,List.length_map,Nat.zero_add,List.take_length] at q5
 have ln:ls.length=m:=by rw[←nk.len,←q5,List.length_map]
 refine⟨ls,by omega,by rw[q5];exact nk.nd,q6,?_⟩
 rw[seq (env':=[some (.int c),some (.ref s),some (.int (M:Int)),some (.ref h.length),e4,e5,e6,e7]) (h':=g') (by simp_arith[op2,d4,m3,l0,G0,eqS,me,hN,a0m,gN,e1])]
 simp_arith[];exact a6u q2 q4 (Nat.le_refl _) (b0m _)
end
end EV
namespace EV
open PySem L2 L2T
def a1A(sh:List (Str×Nat))(cs:List Cs)(it:Str):Prop:=it∈sh.map (·.1)∨∃c∈cs,it=("@":Str)++c.n
theorem a4J{α:Type}{l:List α}(f:α->D)(hl:1<=l.length)(x:Nat):∃y∈l,(l.map f)[x%l.length]? =some (f y):=by
 have lt:x%l.length<l.length:=Nat.mod_lt _ (by omega)
 exact⟨l[x%l.length],List.getElem_mem lt,by rw[List.getElem?_map,List.getElem?_eq_getElem lt];rfl⟩
theorem X2{z:Str}(h:d0 z=true):z.length<=12:=(a2p h).2
section
variable{ct:CT}{F:Nat->Option Fn}
def iA:Ss:=(.cons (.ex (.mt .append (.v 5) (.cons (.bin .add (.k (.str "@")) (.ix (.ix (.v 4) (.bin .mod (.bin .div (.v 7) (.k (.int (3)))) (.bi .len (.cons (.v 4) .nil)))) (.k (.int (0))))) .nil))) .nil)
def iC:Ss:=(.cons (.set 8 (.ix (.ix (.v 3) (.bin .mod (.bin .div (.v 7) (.k (.int (3)))) (.bi .len (.cons (.v 3) .nil)))) (.k (.int (3))))) (.cons (.ex (.mt .append (.v 5) (.cons (.ix (.v 8) (.bin .mod (.bin .div (.v 7) (.k (.int (50)))) (.bi .len (.cons (.v 8) .nil)))) .nil))) .nil))
def iD:Ss:=(.cons (.ex (.mt .append (.v 5) (.cons (.ix (.ix (.v 2) (.bin .mod (.bin .div (.v 7) (.k (.int (3)))) (.bi .len (.cons (.v 2) .nil)))) (.k (.int (0)))) .nil))) .nil)
def iB:Ss:=(.cons (.set 7 (.bin .div (.v 0) (.bin .add (.bin .mul (.bin .mul (.v 6) (.v 6)) (.k (.int (17)))) (.k (.int (3)))))) (.cons (.iff (.cmp .eq (.bin .mod (.v 7) (.k (.int (3)))) (.k (.int (0)))) iA (.cons (.iff (.cmp .eq (.bin .mod (.v 7) (.k (.int (3)))) (.k (.int (1)))) iC iD) .nil)) .nil))
theorem a9O:v5=⟨5,9,1,(.cons (.set 5 (.lst .nil)) (.cons (.for (.nm 6) (.rng1 (.v 1)) iB) (.cons (.ret (.bi .tuple (.cons (.v 5) .nil))) .nil)))⟩:=rfl
structure Trio(sh:List (Str×Nat))(ls:List Lt)(cs:List Cs)(h:AH)(s l c:Nat):Prop where
 s:h[s]? =some (.lst (shD sh))
 l:h[l]? =some (.lst (ls.map ltD))
 c:h[c]? =some (.lst (cs.map csD))
 s4:4<=sh.length
 l1:1<=ls.length
 c1:1<=cs.length
 lo:∀x∈ls,LtOk sh x
 co:∀x∈cs,CsOk sh x
theorem Trio.pf{sh:List (Str×Nat)}{ls:List Lt}{cs:List Cs}{h g:AH}{s l c:Nat}(t:Trio sh ls cs h s l c)(p:Pf h g):Trio sh ls cs g s l c:=⟨p.at t.s,p.at t.l,p.at t.c,t.s4,t.l1,t.c1,t.lo,t.co⟩
theorem a8e{cf:CF}{s l c m N j a:Nat}{many:D}{sh:List (Str×Nat)}{ls:List Lt}{cs:List Cs}{its:List Str}{g:AH}(T:Trio sh ls cs g s l c)(hj:j<=100)(hN:N=m/(j*j*17+3))(p:g[a]? =some (.lst (its.map .str)))(il:its.length<=1000)(e7 e8:Option D):
 ∃it x8,a1A sh cs it/\exs ct cf iB [some (.int (m:Int)),some many,some (.ref s),some (.ref l),some (.ref c),some (.ref a),some (.int (j:Int)),e7,e8] g=.ok (.nx [some (.int (m:Int)),some many,some (.ref s),some (.ref l),some (.ref c),some (.ref a),some (.int (j:Int)),some (.int (N:Int)),x8]) (g.set a (.lst (its.map .str++[.str it]))):=by
 have jj:j*j<=10000:=Nat.mul_le_mul hj hj
 have m1:M5 g (.int (j:Int)) (.int (j:Int))=.ok (.int ((j*j:Nat):Int)) g:=by rw[L4 (by omega)];congr 2
 have m2:M5 g (.int ((j*j:Nat):Int)) (.int 17)=.ok (.int ((j*j*17:Nat):Int)) g:=by rw[L4 (by decide)];congr 2
 have a3:((j*j*17:Nat):Int)+3=((j*j*17+3:Nat):Int):=by omega
 have dv:v7 g (.int (m:Int)) (.int ((j*j*17+3:Nat):Int))=.ok (.int (N:Int)) g:=by rw[hN];exact G8 _ (by omega) (by omega)
 have m3:u6 g (.int (N:Int)) (.int 3)=.ok (.int ((N%3:Nat):Int)) g:=D3 3 (by decide)
 have d3:v7 g (.int (N:Int)) (.int 3)=.ok (.int ((N/3:Nat):Int)) g:=G8 3 (by decide) (by decide)
 have d50:v7 g (.int (N:Int)) (.int 50)=.ok (.int ((N/50:Nat):Int)) g:=G8 50 (by decide) (by decide)
 have il':(its.map D.str).length<1000000:=by rw[List.length_map];omega
 unfold iB
 by_cases h0:((N%3:Nat):Int)=0
 · have q0:G0 g (.int ((N%3:Nat):Int)) (.int 0)=.ok (.bl true) g:=by rw[h0];rfl
   obtain⟨y,hy,ey⟩:=a4J csD T.c1 (N/3)
   have lc:biD .len g [.ref c]=.ok (.int (cs.length:Int)) g:=by rw[p8 T.c,List.length_map]
   have ix:ixD g (.ref c) (.int ((N/3%cs.length:Nat):Int))=.ok (csD y) g:=B0 T.c ey
   have yl:=X2 (T.co y hy).nm;refine⟨("@":Str)++y.n,e8,.inr ⟨y,hy,rfl⟩,?_⟩
   rw[seq (env':=[some (.int (m:Int)),some many,some (.ref s),some (.ref l),some (.ref c),some (.ref a),some (.int (j:Int)),some (.int (N:Int)),e8]) (h':=g) (by simp_arith[op2,m1,m2,l0,a3,dv])]
   unfold iA;unfold csD at ix;simp_arith[op2,m3,q0,I0 p,d3,lc,D3 cs.length T.c1,ix,a0p,o6 (h:=g) (x:="@") (y:=y.n) (by show 1+_<=_;omega),N2 p il']
 · have q0:G0 g (.int ((N%3:Nat):Int)) (.int 0)=.ok (.bl false) g:=by simp only[G0,eqS,h0,decide_false]
   by_cases h1:((N%3:Nat):Int)=1
   · have q1:G0 g (.int ((N%3:Nat):Int)) (.int 1)=.ok (.bl true) g:=by rw[h1];rfl
     obtain⟨y,hy,ey⟩:=a4J ltD T.l1 (N/3)
     have lc:biD .len g [.ref l]=.ok (.int (ls.length:Int)) g:=by rw[p8 T.l,List.length_map]
     have ix:ixD g (.ref l) (.int ((N/3%ls.length:Nat):Int))=.ok (ltD y) g:=B0 T.l ey
     have yo:=T.lo y hy;obtain⟨z,hz,ez⟩:=a4J D.str yo.few.1 (N/50)
     have i3:ixD g (ltD y) (.int 3)=.ok (.tup (y.fs.map .str)) g:=ix_tup (i:=3) rfl
     have lt:biD .len g [.tup (y.fs.map .str)]=.ok (.int (y.fs.length:Int)) g:=by show R.ok (D.int ((y.fs.map D.str).length:Nat)) g=_;rw[List.length_map]
     have iz:ixD g (.tup (y.fs.map .str)) (.int ((N/50%y.fs.length:Nat):Int))=.ok (.str z) g:=ix_tup ez
     refine⟨z,some (.tup (y.fs.map .str)),.inl (yo.fs z hz),?_⟩
     rw[seq (env':=[some (.int (m:Int)),some many,some (.ref s),some (.ref l),some (.ref c),some (.ref a),some (.int (j:Int)),some (.int (N:Int)),e8]) (h':=g) (by simp_arith[op2,m1,m2,l0,a3,dv])]
     unfold iC;simp_arith[op2,m3,q0,q1,d3,lc,D3 ls.length T.l1,ix,i3,I0 p,d50,lt,D3 y.fs.length yo.few.1,iz,N2 p il']
   · have q1:G0 g (.int ((N%3:Nat):Int)) (.int 1)=.ok (.bl false) g:=by simp only[G0,eqS,h1,decide_false]
     obtain⟨w,ix⟩:=a5u (x:=N/3) T.s4 T.s;refine⟨pk sh (N/3),e8,.inl (a3f T.s4 _).1,?_⟩
     rw[seq (env':=[some (.int (m:Int)),some many,some (.ref s),some (.ref l),some (.ref c),some (.ref a),some (.int (j:Int)),some (.int (N:Int)),e8]) (h':=g) (by simp_arith[op2,m1,m2,l0,a3,dv])]
     unfold iD;simp_arith[op2,m3,q0,q1,I0 p,d3,a2s T.s,D3 sh.length (show 0<sh.length by have:=T.s4;omega),ix,a0p,N2 p il']
theorem a2w{k s l c m many:Nat}{sh:List (Str×Nat)}{ls:List Lt}{cs:List Cs}{h:AH}(hF:F 210=some v5)(T:Trio sh ls cs h s l c)(hm:many<=4):∃its:List Str,its.length=many/\(∀i∈its,a1A sh cs i)/\b6 ct F (k+1) 210 [.int (m:Int),.int (many:Int),.ref s,.ref l,.ref c] h=.ok (.tup (its.map .str)) h:=by
 rw[n0 hF rfl];simp only[a9O]
 show∃its:List Str,_/\_/\gcR 1 h (W9 (exs ct (b6 ct F k) _ [some (.int (m:Int)),some (.int (many:Int)),some (.ref s),some (.ref l),some (.ref c),none,none,none,none] h))=_
 rw[seq (env':=[some (.int (m:Int)),some (.int (many:Int)),some (.ref s),some (.ref l),some (.ref c),some (.ref h.length),none,none,none]) (h':=h++[.lst []]) (by simp_arith[x5])]
 obtain⟨env',g',e1,its,e6,e7,e8,rfl,q2,q3,q4,q5⟩:=J1 (g:=[]) (p:=.nm 6) (body:=exs ct (b6 ct F k) iB) (fun j env g=>∃its:List Str,∃e6 e7 e8,env=[some (.int (m:Int)),some (.int (many:Int)),some (.ref s),some (.ref l),some (.ref c),some (.ref h.length),e6,e7,e8]/\Pf h g/\g[h.length]? =some (.lst (its.map .str))/\its.length=j/\∀i∈its,a1A sh cs i) (fun _ _ _ _=>rfl) ((List.range many).map fun i=>.int ((0:Int)+(i:Nat))) 0 [some (.int (m:Int)),some (.int (many:Int)),some (.ref s),some (.ref l),some (.ref c),some (.ref h.length),none,none,none] (h++[.lst []]) (fun j x env g hx hP=>by
  obtain⟨its,e6,e7,e8,rfl,p1,p2,p3,p4⟩:=hP;obtain⟨hj,rfl⟩:=a2g hx;rw[Nat.zero_add] at p3⊢;obtain⟨it,x8,t1,t2⟩:=a8e (ct:=ct) (cf:=b6 ct F k) (m:=m) (many:=.int (many:Int)) (T.pf p1) (show j<=100 by omega) rfl p2 (by omega) e7 e8
  refine⟨_,_,_,rfl,t2,its++[it],_,_,_,rfl,p1.set (Nat.le_refl _),?_,by rw[List.length_append,p3];rfl,fun i hi=>?_⟩
  · rw[y7 p2,List.map_append];rfl
  · rcases List.mem_append.mp hi with hi|hi
    · exact p4 i hi
    · rw[List.mem_singleton.mp hi];exact t1) ⟨[],none,none,none,rfl,(Pf.refl h).app _,b8,rfl,fun _ h=>nomatch h⟩
 rw[List.length_map,List.length_range,Nat.zero_add] at q4;refine⟨its,q4,q5,?_⟩
 rw[seq (env':=[some (.int (m:Int)),some (.int (many:Int)),some (.ref s),some (.ref l),some (.ref c),some (.ref h.length),e6,e7,e8]) (h':=g') (by simp_arith[a0s (h:=h++[.lst []]) (m:=many) (by omega),e1])]
 simp_arith[L9 q3];exact b7C q2 (J8 _)
end
end EV
namespace EV
open PySem L2 L2T
structure Ru where
 t:Str
 f:Str
 b:List Str
 c:List Str
 a:List Str
 o:List Str
def ruD(r:Ru):D:=.tup [.str r.t,.str r.f,.tup (r.b.map .str),.tup (r.c.map .str),.tup (r.a.map .str),.tup (r.o.map .str)]
def feD(p:Str×Bool):D:=.tup [.str p.1,.bl p.2]
structure RuOk(sh:List (Str×Nat))(cs:List Cs)(fe:List (Str×Bool))(r:Ru):Prop where
 nm:d0 r.t=true
 fe:r.f∈fe.map (·.1)
 b3:r.b.length<=3
 c4:1<=r.c.length/\r.c.length<=4
 a3:r.a.length<=3
 o3:1<=r.o.length/\r.o.length<=3
 b:∀i∈r.b,a1A sh cs i
 c:∀i∈r.c,a1A sh cs i
 a:∀i∈r.a,a1A sh cs i
 o:∀i∈r.o,i∈sh.map (·.1)
theorem b0h(ms:List Ru):D.flats (ms.map ruD)=true:=G2 fun d hd=>by
 obtain⟨p,_,rfl⟩:=List.mem_map.mp hd
 show D.flats [.str p.t,.str p.f,.tup (p.b.map .str),.tup (p.c.map .str),.tup (p.a.map .str),.tup (p.o.map .str)]=true
 simp only[D.flats,D.flat,J8,Bool.and_self]
def z6:List D:=[.int 0,.int 0,.int 0,.int 1,.int 2,.int 3]
def z7:List D:=[.int 1,.int 2,.int 1,.int 2,.int 3,.int 4,.int 1]
theorem b3s(x:Nat):∃z:Nat,z<=3/\z6[x%6]? =some (.int (z:Int)):=by
 have:x%6=0∨x%6=1∨x%6=2∨x%6=3∨x%6=4∨x%6=5:=by omega
 rcases this with e|e|e|e|e|e<;>rw[e]
 · exact⟨0,by decide,rfl⟩
 · exact⟨0,by decide,rfl⟩
 · exact⟨0,by decide,rfl⟩
 · exact⟨1,by decide,rfl⟩
 · exact⟨2,by decide,rfl⟩
 · exact⟨3,by decide,rfl⟩
theorem b6l(x:Nat):∃z:Nat,(1<=z/\z<=4)/\z7[x%7]? =some (.int (z:Int)):=by
 have:x%7=0∨x%7=1∨x%7=2∨x%7=3∨x%7=4∨x%7=5∨x%7=6:=by omega
 rcases this with e|e|e|e|e|e|e<;>rw[e]
 · exact⟨1,by decide,rfl⟩
 · exact⟨2,by decide,rfl⟩
 · exact⟨1,by decide,rfl⟩
 · exact⟨2,by decide,rfl⟩
 · exact⟨3,by decide,rfl⟩
 · exact⟨4,by decide,rfl⟩
 · exact⟨1,by decide,rfl⟩
def z5(b:Bool):List D:=[.int 1,.int 1,.int 1,.int 2,.int (2+(if b then 1 else 0))]
theorem b6m(b:Bool)(x:Nat):∃z:Nat,(1<=z/\z<=3)/\(z5 b)[x%5]? =some (.int (z:Int)):=by
 have:x%5=0∨x%5=1∨x%5=2∨x%5=3∨x%5=4:=by omega
 rcases this with e|e|e|e|e<;>rw[e]
 · exact⟨1,by decide,rfl⟩
 · exact⟨1,by decide,rfl⟩
 · exact⟨1,by decide,rfl⟩
 · exact⟨2,by decide,rfl⟩
 · cases b
   · exact⟨2,by decide,rfl⟩
   · exact⟨3,by decide,rfl⟩
section
variable{ct:CT}{F:Nat->Option Fn}
def e6L:E:=(.lst (.cons (.k (.int (0))) (.cons (.k (.int (0))) (.cons (.k (.int (0))) (.cons (.k (.int (1))) (.cons (.k (.int (2))) (.cons (.k (.int (3))) .nil)))))))
def e7L:E:=(.lst (.cons (.k (.int (1))) (.cons (.k (.int (2))) (.cons (.k (.int (1))) (.cons (.k (.int (2))) (.cons (.k (.int (3))) (.cons (.k (.int (4))) (.cons (.k (.int (1))) .nil))))))))
def e5L:E:=(.lst (.cons (.k (.int (1))) (.cons (.k (.int (1))) (.cons (.k (.int (1))) (.cons (.k (.int (2))) (.cons (.bin .add (.k (.int (2))) (.bi .int (.cons (.bin .eq (.v 7) (.k (.int (0)))) .nil))) .nil))))))
def tdE:E:=(.comp (.nm 0) (.rng1 (.v 15)) 1 [9,2] .yes (.ix (.ix (.v 2) (.bin .mod (.bin .div (.v 1) (.bin .add (.bin .mul (.v 0) (.k (.int (7)))) (.k (.int (3))))) (.bi .len (.cons (.v 2) .nil)))) (.k (.int (0)))))
def rB7:Ss:=(.cons (.ex (.mt .append (.v 6) (.cons (.tup (.cons (.v 8) (.cons (.ix (.ix (.v 5) (.bin .mod (.bin .div (.v 9) (.k (.int (1260)))) (.bi .len (.cons (.v 5) .nil)))) (.k (.int (0)))) (.cons (.v 12) (.cons (.v 13) (.cons (.v 14) (.cons (.v 16) .nil))))))) .nil))) .nil)
def rB6:Ss:=(.cons (.set 15 (.ix e5L (.bin .mod (.bin .div (.v 9) (.k (.int (252)))) (.k (.int (5)))))) (.cons (.set 16 (.bi .tuple (.cons tdE .nil))) rB7))
def rB5:Ss:=(.cons (.set 14 (.call 210 (.cons (.bin .add (.bin .div (.v 10) (.k (.int (101)))) (.k (.int (3)))) (.cons (.ix (.v 11) (.k (.int (2)))) (.cons (.v 2) (.cons (.v 3) (.cons (.v 4) .nil))))))) rB6)
def rB4:Ss:=(.cons (.set 13 (.call 210 (.cons (.bin .add (.bin .div (.v 10) (.k (.int (11)))) (.bin .mul (.k (.int (5))) (.v 7))) (.cons (.ix (.v 11) (.k (.int (1)))) (.cons (.v 2) (.cons (.v 3) (.cons (.v 4) .nil))))))) rB5)
def rB3:Ss:=(.cons (.set 12 (.call 210 (.cons (.v 10) (.cons (.ix (.v 11) (.k (.int (0)))) (.cons (.v 2) (.cons (.v 3) (.cons (.v 4) .nil))))))) rB4)
def szE:E:=(.lst (.cons (.ix e6L (.bin .mod (.v 9) (.k (.int (6))))) (.cons (.ix e7L (.bin .mod (.bin .div (.v 9) (.k (.int (6)))) (.k (.int (7))))) (.cons (.ix e6L (.bin .mod (.bin .div (.v 9) (.k (.int (42)))) (.k (.int (6))))) .nil))))
def rB:Ss:=(.cons (.set 9 (.call 202 (.cons (.v 0) (.cons (.bin .add (.v 7) (.k (.int (160)))) .nil)))) (.cons (.set 10 (.call 202 (.cons (.v 0) (.cons (.bin .add (.v 7) (.k (.int (190)))) .nil)))) (.cons (.set 11 szE) rB3)))
theorem a8R:t7=⟨6,17,2,(.cons (.set 6 (.lst .nil)) (.cons (.for (.tp (.cons (.nm 7) (.cons (.nm 8) .nil))) (.enum (.call 203 (.cons (.call 202 (.cons (.v 0) (.cons (.k (.int (4))) .nil))) (.cons (.v 1) .nil)))) rB) (.cons (.ret (.v 6)) .nil)))⟩:=rfl
theorem b1x{c:CF}{s N m:Nat}{sh:List (Str×Nat)}{env:j9}{g:AH}(hs:4<=sh.length)(hh:g[s]? =some (.lst (shD sh)))(e2:env[2]? =some (some (.ref s)))(e9:env[9]? =some (some (.int (N:Int))))(e15:env[15]? =some (some (.int (m:Int))))(hm:m<=1000):
 ev ct c tdE env g=.ok (.ref g.length) (g++[.lst (((List.range m).map fun i=>pk sh (N/(i*7+3))).map .str)]):=by
 unfold tdE
 have r:=U6 (ct:=ct) (c:=c) (fr:=[9,2]) (a:=.v 15) (e:=(.ix (.ix (.v 2) (.bin .mod (.bin .div (.v 1) (.bin .add (.bin .mul (.v 0) (.k (.int (7)))) (.k (.int (3))))) (.bi .len (.cons (.v 2) .nil)))) (.k (.int (0))))) (env:=env) (m:=m) (h:=g) (fun i=>.str (pk sh (N/(i*7+3)))) (by simp_arith[e15]) (by omega) (fun i hi=>by
  have m1:M5 g (.int (i:Int)) (.int 7)=.ok (.int ((i*7:Nat):Int)) g:=by rw[L4 (by decide)];congr 2
  have a5:((i*7:Nat):Int)+3=((i*7+3:Nat):Int):=by omega
  obtain⟨w,ix⟩:=a5u (x:=N/(i*7+3)) hs hh;simp_arith[e2,e9,Q5,op2,m1,l0,a5,G8 (i*7+3) (by omega) (by omega),a2s hh,D3 sh.length (by omega),ix,a0p])
 rw[r,List.map_map];rfl
theorem a8J{c:CF}{N:Nat}{env:j9}{g:AH}(e9:env[9]? =some (some (.int (N:Int)))):∃z0 z1 z2 n t,z0<=3/\(1<=z1/\z1<=4)/\z2<=3/\ev ct c szE env g=.ok (.ref n) (g++t)/\(g++t)[n]? =some (.lst [.int ((z0:Nat):Int),.int ((z1:Nat):Int),.int ((z2:Nat):Int)]):=by
 obtain⟨z0,a0,b0⟩:=b3s N;obtain⟨z1,a1,b1⟩:=b6l (N/6);obtain⟨z2,a2,b2⟩:=b3s (N/42)
 have m6:∀(a:Nat) h,u6 h (.int (a:Int)) (.int 6)=.ok (.int ((a%6:Nat):Int)) h:=fun a h=>D3 6 (by decide)
 have m7:∀(a:Nat) h,u6 h (.int (a:Int)) (.int 7)=.ok (.int ((a%7:Nat):Int)) h:=fun a h=>D3 7 (by decide)
 have d6:∀h,v7 h (.int (N:Int)) (.int 6)=.ok (.int ((N/6:Nat):Int)) h:=fun h=>G8 6 (by decide) (by decide)
 have d42:∀h,v7 h (.int (N:Int)) (.int 42)=.ok (.int ((N/42:Nat):Int)) h:=fun h=>G8 42 (by decide) (by decide)
 have l6:∀(env:j9) (h:AH),ev ct c e6L env h=.ok (.ref h.length) (h++[.lst z6]):=fun env h=>by unfold e6L z6;simp_arith[x5]
 have l7:∀(env:j9) (h:AH),ev ct c e7L env h=.ok (.ref h.length) (h++[.lst z7]):=fun env h=>by unfold e7L z7;simp_arith[x5];rfl
 have x0:∀h:AH,ixD (h++[.lst z6]) (.ref h.length) (.int ((N%6:Nat):Int))=.ok (.int (z0:Int)) (h++[.lst z6]):=fun h=>B0 b8 b0
 have x1:∀h:AH,ixD (h++[.lst z7]) (.ref h.length) (.int ((N/6%7:Nat):Int))=.ok (.int (z1:Int)) (h++[.lst z7]):=fun h=>B0 b8 b1
 have x2:∀h:AH,ixD (h++[.lst z6]) (.ref h.length) (.int ((N/42%6:Nat):Int))=.ok (.int (z2:Int)) (h++[.lst z6]):=fun h=>B0 b8 b2
 refine⟨z0,z1,z2,(g++[Cell.lst z6]++[Cell.lst z7]++[Cell.lst z6]).length,[.lst z6,.lst z7,.lst z6,.lst [.int ((z0:Nat):Int),.int ((z1:Nat):Int),.int ((z2:Nat):Int)]],a0,a1,a2,?_,?_⟩
 · unfold szE;simp_arith[l6,l7,e9,op2,m6,m7,d6,d42,x0,x1,x2,x5];simp
 · rw[show g++[Cell.lst z6,.lst z7,.lst z6,.lst [.int ((z0:Nat):Int),.int ((z1:Nat):Int),.int ((z2:Nat):Int)]]=(g++[Cell.lst z6]++[Cell.lst z7]++[Cell.lst z6])++[.lst [.int ((z0:Nat):Int),.int ((z1:Nat):Int),.int ((z2:Nat):Int)]] by simp]
   exact b8
end
end EV
namespace EV
open PySem L2 L2T
section
variable{ct:CT}{F:Nat->Option Fn}
theorem b7Z{c:CF}{j:Nat}{env:j9}{g:AH}(e7:env[7]? =some (some (.int (j:Int)))):ev ct c e5L env g=.ok (.ref g.length) (g++[.lst (z5 (decide ((j:Int)=0)))]):=by
 unfold e5L z5
 have ib:∀b:Bool,biD .int g [.bl b]=.ok (.int (if b=true then 1 else 0)) g:=fun b=>rfl
 simp_arith[e7,op2,G0,eqS,ib,l0,x5]
variable(f202:F 202=some o4)(f210:F 210=some v5)
include f202 f210
theorem a7K{k s l cl f a j:Nat}{c:Int}{many:D}{title:Str}{sh:List (Str×Nat)}{ls:List Lt}{cs:List Cs}{fe:List (Str×Bool)}{rs:List Ru}{g:AH}(T:Trio sh ls cs g s l cl)(hf:g[f]? =some (.lst (fe.map feD)))(f1:1<=fe.length)(ht:d0 title=true)(hj:j<=100)(p:g[a]? =some (.lst (rs.map ruD)))(rl:rs.length<=1000)(e9 e10 e11 e12 e13 e14 e15 e16:Option D):
 ∃r x9 x10 x11 x12 x13 x14 x15 x16 t,RuOk sh cs fe r/\r.t=title/\exs ct (b6 ct F (k+1)) rB [some (.int c),some many,some (.ref s),some (.ref l),some (.ref cl),some (.ref f),some (.ref a),some (.int (j:Int)),some (.str title),e9,e10,e11,e12,e13,e14,e15,e16] g
  =.ok (.nx [some (.int c),some many,some (.ref s),some (.ref l),some (.ref cl),some (.ref f),some (.ref a),some (.int (j:Int)),some (.str title),x9,x10,x11,x12,x13,x14,x15,x16]) ((g++t).set a (.lst ((rs++[r]).map ruD))):=by
 have a160:((j:Nat):Int)+160=((j+160:Nat):Int):=by omega
 have a190:((j:Nat):Int)+190=((j+190:Nat):Int):=by omega
 obtain⟨N,hN⟩:=z9 (ct:=ct) (k:=k) (c:=c) (j:=((j+160:Nat):Int)) (h:=g) f202 (by omega)
 obtain⟨M,hM⟩:=z9 (ct:=ct) (k:=k) (c:=c) (j:=((j+190:Nat):Int)) (h:=g) f202 (by omega)
 obtain⟨z0,z1,z2,n,t1,b0,b1,b2,sz,sx⟩:=a8J (ct:=ct) (c:=b6 ct F (k+1)) (N:=N) (env:=[some (.int c),some many,some (.ref s),some (.ref l),some (.ref cl),some (.ref f),some (.ref a),some (.int (j:Int)),some (.str title),some (.int (N:Int)),some (.int (M:Int)),e11,e12,e13,e14,e15,e16]) (g:=g) rfl
 have T1:Trio sh ls cs (g++t1) s l cl:=T.pf ((Pf.refl g).app _)
 have d11:v7 (g++t1) (.int (M:Int)) (.int 11)=.ok (.int ((M/11:Nat):Int)) (g++t1):=G8 11 (by decide) (by decide)
 have d101:v7 (g++t1) (.int (M:Int)) (.int 101)=.ok (.int ((M/101:Nat):Int)) (g++t1):=G8 101 (by decide) (by decide)
 have m5:M5 (g++t1) (.int 5) (.int (j:Int))=.ok (.int ((5*j:Nat):Int)) (g++t1):=by rw[L4 (by omega)];congr 2
 have ad1:((M/11:Nat):Int)+((5*j:Nat):Int)=((M/11+5*j:Nat):Int):=by omega
 have ad2:((M/101:Nat):Int)+3=((M/101+3:Nat):Int):=by omega
 have i0:ixD (g++t1) (.ref n) (.int 0)=.ok (.int (z0:Int)) (g++t1):=r8 0 0 rfl sx rfl
 have i1:ixD (g++t1) (.ref n) (.int 1)=.ok (.int (z1:Int)) (g++t1):=r8 1 1 rfl sx rfl
 have i2:ixD (g++t1) (.ref n) (.int 2)=.ok (.int (z2:Int)) (g++t1):=r8 2 2 rfl sx rfl
 obtain⟨ib,q1,q2,q3⟩:=a2w (ct:=ct) (k:=k) (m:=M) (many:=z0) f210 T1 (by omega)
 obtain⟨ic,u1,u2,u3⟩:=a2w (ct:=ct) (k:=k) (m:=M/11+5*j) (many:=z1) f210 T1 (by omega)
 obtain⟨ia,v1,v2,v3⟩:=a2w (ct:=ct) (k:=k) (m:=M/101+3) (many:=z2) f210 T1 (by omega)
 obtain⟨z,zb,zx⟩:=b6m (decide ((j:Int)=0)) (N/252)
 have G1:Pf g (g++t1):=(Pf.refl g).app _
 have p1:=b7 (g:=t1) p;have hf1:=b7 (g:=t1) hf;have e5:=b7Z (ct:=ct) (c:=b6 ct F (k+1)) (j:=j) (env:=[some (.int c),some many,some (.ref s),some (.ref l),some (.ref cl),some (.ref f),some (.ref a),some (.int (j:Int)),some (.str title),some (.int (N:Int)),some (.int (M:Int)),some (.ref n),some (.tup (ib.map .str)),some (.tup (ic.map .str)),some (.tup (ia.map .str)),e15,e16]) (g:=g++t1) rfl
 have d252:∀h,v7 h (.int (N:Int)) (.int 252)=.ok (.int ((N/252:Nat):Int)) h:=fun h=>G8 252 (by decide) (by decide)
 have m5':∀(a:Nat) h,u6 h (.int (a:Int)) (.int 5)=.ok (.int ((a%5:Nat):Int)) h:=fun a h=>D3 5 (by decide)
 have ez:ixD (g++t1++[.lst (z5 (decide ((j:Int)=0)))]) (.ref (g++t1).length) (.int ((N/252%5:Nat):Int))=.ok (.int (z:Int)) (g++t1++[.lst (z5 (decide ((j:Int)=0)))]):=B0 b8 zx
 have td:=b1x (ct:=ct) (c:=b6 ct F (k+1)) (s:=s) (N:=N) (m:=z) (env:=[some (.int c),some many,some (.ref s),some (.ref l),some (.ref cl),some (.ref f),some (.ref a),some (.int (j:Int)),some (.str title),some (.int (N:Int)),some (.int (M:Int)),some (.ref n),some (.tup (ib.map .str)),some (.tup (ic.map .str)),some (.tup (ia.map .str)),some (.int (z:Int)),e16]) (g:=g++t1++[.lst (z5 (decide ((j:Int)=0)))]) T.s4 (b7 T1.s) rfl rfl rfl (by omega)
 have fo:∀x∈(List.range z).map fun i=>pk sh (N/(i*7+3)),x∈sh.map (·.1):=fun x hx=>by
  obtain⟨i,_,rfl⟩:=List.mem_map.mp hx;exact(a3f T.s4 _).1
 have fl:((List.range z).map fun i=>pk sh (N/(i*7+3))).length=z:=by simp
 generalize ((List.range z).map fun i=>pk sh (N/(i*7+3)))=fs at td fo fl
 obtain⟨y,hy,ey⟩:=a4J feD f1 (N/1260)
 have d1260:∀h,v7 h (.int (N:Int)) (.int 1260)=.ok (.int ((N/1260:Nat):Int)) h:=fun h=>G8 1260 (by decide) (by decide)
 have hf2:=b7 (g:=[.lst (fs.map .str)]) (b7 (g:=[.lst (z5 (decide ((j:Int)=0)))]) hf1);have p2:=b7 (g:=[.lst (fs.map .str)]) (b7 (g:=[.lst (z5 (decide ((j:Int)=0)))]) p1)
 have lf:biD .len (g++t1++[.lst (z5 (decide ((j:Int)=0)))]++[.lst (fs.map .str)]) [.ref f]=.ok (.int (fe.length:Int)) (g++t1++[.lst (z5 (decide ((j:Int)=0)))]++[.lst (fs.map .str)]):=by rw[p8 hf2,List.length_map]
 have ix:ixD (g++t1++[.lst (z5 (decide ((j:Int)=0)))]++[.lst (fs.map .str)]) (.ref f) (.int ((N/1260%fe.length:Nat):Int))=.ok (.tup [.str y.1,.bl y.2]) (g++t1++[.lst (z5 (decide ((j:Int)=0)))]++[.lst (fs.map .str)]):=B0 hf2 ey
 have rl':(rs.map ruD).length<1000000:=by rw[List.length_map];omega
 refine⟨⟨title,y.1,ib,ic,ia,fs⟩,some (.int (N:Int)),some (.int (M:Int)),some (.ref n),some (.tup (ib.map .str)),some (.tup (ic.map .str)),some (.tup (ia.map .str)),some (.int (z:Int)),some (.tup (fs.map .str)),t1++[.lst (z5 (decide ((j:Int)=0)))]++[.lst (fs.map .str)],⟨ht,List.mem_map_of_mem hy,by simp only;omega,by simp only;omega,by simp only;omega,by simp only;omega,q2,u2,v2,fo⟩,rfl,?_⟩
 unfold rB;rw[seq (env':=[some (.int c),some many,some (.ref s),some (.ref l),some (.ref cl),some (.ref f),some (.ref a),some (.int (j:Int)),some (.str title),some (.int (N:Int)),e10,e11,e12,e13,e14,e15,e16]) (h':=g) (by simp_arith[op2,l0,a160,hN])]
 rw[seq (env':=[some (.int c),some many,some (.ref s),some (.ref l),some (.ref cl),some (.ref f),some (.ref a),some (.int (j:Int)),some (.str title),some (.int (N:Int)),some (.int (M:Int)),e11,e12,e13,e14,e15,e16]) (h':=g) (by simp_arith[op2,l0,a190,hM])]
 rw[seq (env':=[some (.int c),some many,some (.ref s),some (.ref l),some (.ref cl),some (.ref f),some (.ref a),some (.int (j:Int)),some (.str title),some (.int (N:Int)),some (.int (M:Int)),some (.ref n),e12,e13,e14,e15,e16]) (h':=g++t1) (by simp_arith[sz])]
 unfold rB3;rw[seq (env':=[some (.int c),some many,some (.ref s),some (.ref l),some (.ref cl),some (.ref f),some (.ref a),some (.int (j:Int)),some (.str title),some (.int (N:Int)),some (.int (M:Int)),some (.ref n),some (.tup (ib.map .str)),e13,e14,e15,e16]) (h':=g++t1) (by simp_arith[i0,q3])]
 unfold rB4;rw[seq (env':=[some (.int c),some many,some (.ref s),some (.ref l),some (.ref cl),some (.ref f),some (.ref a),some (.int (j:Int)),some (.str title),some (.int (N:Int)),some (.int (M:Int)),some (.ref n),some (.tup (ib.map .str)),some (.tup (ic.map .str)),e14,e15,e16]) (h':=g++t1) (by simp_arith[op2,d11,m5,l0,ad1,i1,u3])]
 unfold rB5;rw[seq (env':=[some (.int c),some many,some (.ref s),some (.ref l),some (.ref cl),some (.ref f),some (.ref a),some (.int (j:Int)),some (.str title),some (.int (N:Int)),some (.int (M:Int)),some (.ref n),some (.tup (ib.map .str)),some (.tup (ic.map .str)),some (.tup (ia.map .str)),e15,e16]) (h':=g++t1) (by simp_arith[op2,d101,l0,ad2,i2,v3])]
 unfold rB6;rw[seq (env':=[some (.int c),some many,some (.ref s),some (.ref l),some (.ref cl),some (.ref f),some (.ref a),some (.int (j:Int)),some (.str title),some (.int (N:Int)),some (.int (M:Int)),some (.ref n),some (.tup (ib.map .str)),some (.tup (ic.map .str)),some (.tup (ia.map .str)),some (.int (z:Int)),e16]) (h':=g++t1++[.lst (z5 (decide ((j:Int)=0)))]) (by simp_arith[e5,op2,d252,m5',ez])]
 rw[seq (env':=[some (.int c),some many,some (.ref s),some (.ref l),some (.ref cl),some (.ref f),some (.ref a),some (.int (j:Int)),some (.str title),some (.int (N:Int)),some (.int (M:Int)),some (.ref n),some (.tup (ib.map .str)),some (.tup (ic.map .str)),some (.tup (ia.map .str)),some (.int (z:Int)),some (.tup (fs.map .str))]) (h':=g++t1++[.lst (z5 (decide ((j:Int)=0)))]++[.lst (fs.map .str)]) (by simp_arith[td,L9 b8])]
 unfold rB7;simp_arith[I0 p2,op2,d1260,lf,D3 fe.length f1,ix,a0p,N2 p2 rl',List.map_append];rw[show g++(t1++[Cell.lst (z5 (decide ((j:Int)=0)))]++[Cell.lst (fs.map .str)])=g++t1++[.lst (z5 (decide ((j:Int)=0)))]++[.lst (fs.map .str)] by simp]
 rfl
variable(f203:F 203=some n9)
include f203
theorem a8Q{k s l cl f m:Nat}{c:Int}{sh:List (Str×Nat)}{ls:List Lt}{cs:List Cs}{fe:List (Str×Bool)}{h:AH}(hF:F 211=some t7)(T:Trio sh ls cs h s l cl)(hf:h[f]? =some (.lst (fe.map feD)))(f1:1<=fe.length)(hm:m<=26):
 ∃rs:List Ru,rs.length=m/\(rs.map (·.t)).Nodup/\(∀r∈rs,RuOk sh cs fe r)/\b6 ct F (k+2) 211 [.int c,.int (m:Int),.ref s,.ref l,.ref cl,.ref f] h=.ok (.ref h.length) (h++[.lst (rs.map ruD)]):=by
 have l1:(h++[Cell.lst []]).length=h.length+1:=by simp
 have gW0:(h++[Cell.lst []])[h.length]? =some (.lst []):=b8
 have pf0:Pf h (h++[Cell.lst []]):=(Pf.refl h).app _
 have st:exs ct (b6 ct F (k+1)) t7.body [some (.int c),some (.int (m:Int)),some (.ref s),some (.ref l),some (.ref cl),some (.ref f),none,none,none,none,none,none,none,none,none,none,none] h=exs ct (b6 ct F (k+1)) (.cons (.for (.tp (.cons (.nm 7) (.cons (.nm 8) .nil))) (.enum (.call 203 (.cons (.call 202 (.cons (.v 0) (.cons (.k (.int (4))) .nil))) (.cons (.v 1) .nil)))) rB) (.cons (.ret (.v 6)) .nil)) [some (.int c),some (.int (m:Int)),some (.ref s),some (.ref l),some (.ref cl),some (.ref f),some (.ref h.length),none,none,none,none,none,none,none,none,none,none] (h++[.lst []]):=by
  simp only[a8R];exact seq (by simp_arith[x5])
 rw[n0 hF rfl]
 show∃rs:List Ru,_/\_/\_/\gcR 2 h (W9 (exs ct (b6 ct F (k+1)) t7.body [some (.int c),some (.int (m:Int)),some (.ref s),some (.ref l),some (.ref cl),some (.ref f),none,none,none,none,none,none,none,none,none,none,none] h))=_
 rw[st]
 clear st
 generalize h++[Cell.lst []]=g0 at l1 gW0 pf0;obtain⟨M,hM⟩:=z9 (ct:=ct) (k:=k) (c:=c) (j:=4) (h:=g0) f202 (by decide)
 obtain⟨ns,nk,hN⟩:=X1 (ct:=ct) (k:=k) (c:=M) (m:=m) (h:=g0) f203 hm
 have gW:(g0++[Cell.lst (ns.map D.str)])[h.length]? =some (.lst []):=b7 gW0
 have gN:(g0++[Cell.lst (ns.map D.str)])[h.length+1]? =some (.lst (ns.map .str)):=by rw[←l1];exact b8
 have pf:Pf h (g0++[Cell.lst (ns.map D.str)]):=pf0.app _
 rw[l1] at hN;generalize g0++[Cell.lst (ns.map D.str)]=g at gN gW pf hN;have nl:=nk.len
 obtain⟨env',g',e1,rs,e7,e8,e9,e10,e11,e12,e13,e14,e15,e16,rfl,q2,q3,q4,q5,q6⟩:=J1 (g:=[(h.length+1,.lst (ns.map .str))]) (p:=.tp (.cons (.nm 7) (.cons (.nm 8) .nil))) (body:=exs ct (b6 ct F (k+1)) rB) (fun j env hh=>∃rs:List Ru,∃e7 e8 e9 e10 e11 e12 e13 e14 e15 e16,env=[some (.int c),some (.int (m:Int)),some (.ref s),some (.ref l),some (.ref cl),some (.ref f),some (.ref h.length),e7,e8,e9,e10,e11,e12,e13,e14,e15,e16]/\Pf h hh/\hh[h.length+1]? =some (.lst (ns.map .str))/\hh[h.length]? =some (.lst (rs.map ruD))/\rs.map (·.t)=ns.take j/\∀r∈rs,RuOk sh cs fe r) (fun j env gg hP=>by
  obtain⟨_,_,_,_,_,_,_,_,_,_,_,_,_,h3,_⟩:=hP;simp[gOk,h3]) (z3 0 (ns.map .str)) 0 [some (.int c),some (.int (m:Int)),some (.ref s),some (.ref l),some (.ref cl),some (.ref f),some (.ref h.length),none,none,none,none,none,none,none,none,none,none] g (fun j x env hg hx hP=>by
  obtain⟨rs,e7,e8,e9,e10,e11,e12,e13,e14,e15,e16,rfl,p1,p2,p3,p4,p5⟩:=hP;obtain⟨d,hd,rfl⟩:=a0c hx
  have hj:j<ns.length:=by simpa using(List.getElem?_eq_some_iff.mp hd).1
  rw[List.getElem?_map,List.getElem?_eq_getElem hj] at hd
  obtain rfl:D.str ns[j]=d:=Option.some.inj hd;rw[Nat.zero_add] at p4⊢
  have ll:rs.length<=1000:=by
   have:=congrArg List.length p4
   rw[List.length_map,List.length_take] at this;omega
  obtain⟨r,x9,x10,x11,x12,x13,x14,x15,x16,t,t1,t2,t3⟩:=a7K (ct:=ct) (k:=k) (c:=c) (many:=.int (m:Int)) f202 f210 (T.pf p1) (p1.at hf) f1 (nk.ok _ (List.getElem_mem hj)) (show j<=100 by omega) p3 ll e9 e10 e11 e12 e13 e14 e15 e16
  refine⟨_,_,_,rfl,t3,rs++[r],_,_,_,_,_,_,_,_,_,_,rfl,(p1.app _).set (Nat.le_refl _),b9 (by omega) (b7 p2),y7 (b7 p3),?_,fun y hy=>?_⟩
  · rw[List.map_append,p4,List.take_succ_eq_append_getElem hj,←t2];rfl
  · rcases List.mem_append.mp hy with hy|hy
    · exact p5 y hy
    · rw[List.mem_singleton.mp hy];exact t1) ⟨[],none,none,none,none,none,none,none,none,none,none,rfl,pf,gN,gW,rfl,fun _ h=>nomatch h⟩
 rw[U4,List.length_map,Nat.zero_add,List.take_length] at q5
 have ln:rs.length=m:=by rw[←nk.len,←q5,List.length_map]
 refine⟨rs,ln,by rw[q5];exact nk.nd,q6,?_⟩
 rw[seq (env':=[some (.int c),some (.int (m:Int)),some (.ref s),some (.ref l),some (.ref cl),some (.ref f),some (.ref h.length),e7,e8,e9,e10,e11,e12,e13,e14,e15,e16]) (h':=g') (by simp_arith[hM,hN,a0m,gN,e1])]
 simp_arith[];exact a6u q2 q4 (Nat.le_refl _) (b0h _)
end
end EV
namespace EV
open PySem L2 L2T
structure HL where
 sh:List (Str×Nat)
 mr:List Mk
 pt:List Pt
 ls:List Lt
 gp:List Str
 cs:List Cs
 fe:List (Str×Bool)
 ru:List Ru
structure HLok(H:HL):Prop where
 sh:Shs H.sh
 mr:(H.mr.map (·.n)).Sublist (H.sh.map (·.1))
 mko:∀m∈H.mr,a0g m.s/\Y9 m.a/\Y9 m.b
 pt:(H.pt.map ptK).Nodup
 ptl:H.pt.length<=100
 pto:∀p∈H.pt,p.n∈H.sh.map (·.1)/\a0g p.s/\Y9 p.a
 ls:1<=H.ls.length/\H.ls.length<=6
 lsn:(H.ls.map (·.n)).Nodup
 lso:∀l∈H.ls,LtOk H.sh l
 gp:H.gp.Sublist (H.ls.map (·.n))
 cs:1<=H.cs.length/\H.cs.length<=9
 csn:(H.cs.map (·.n)).Nodup
 cso:∀c∈H.cs,CsOk H.sh c
 fe:1<=H.fe.length/\H.fe.length<=3
 fen:Nms (H.fe.map (·.1)) H.fe.length
 rul:H.ru.length<=26
 run:(H.ru.map (·.t)).Nodup
 ruo:∀r∈H.ru,RuOk H.sh H.cs H.fe r
structure HAt(H:HL)(g:AH)(a b c d e f i j:Nat):Prop where
 sh:g[a]? =some (.lst (shD H.sh))
 mr:g[b]? =some (.lst (H.mr.map mkD))
 pt:g[c]? =some (.lst (H.pt.map ptD))
 ls:g[d]? =some (.lst (H.ls.map ltD))
 gp:g[e]? =some (.lst (H.gp.map .str))
 cs:g[f]? =some (.lst (H.cs.map csD))
 fe:g[i]? =some (.lst (H.fe.map feD))
 ru:g[j]? =some (.lst (H.ru.map ruD))
def feF(M:Nat)(x:D):D:=match x with
 |.tup [.int j,n]=>(match n with
  |.str n=>feD (n,decide ((0:Int)<((M/(j.toNat+5)%4:Nat):Int)))
  |_=>.non)
 |_=>.non
theorem b0p(M:Nat):∀(ns:List Str) (i:Nat),∃fe:List (Str×Bool),(z3 i (ns.map .str)).map (feF M)=fe.map feD/\fe.map (·.1)=ns
 |[],_=>⟨[],rfl,rfl⟩
 |n::ns,i=>by
  obtain⟨fe,h1,h2⟩:=b0p M ns (i+1);refine⟨(n,decide ((0:Int)<((M/(((i:Nat):Int).toNat+5)%4:Nat):Int)))::fe,?_,by rw[List.map_cons,h2]⟩
  rw[List.map_cons,z3,List.map_cons,h1];rfl
def gpB(M:Nat)(x:D):Bool:=match x with
 |.tup [.int j,_]=>decide (((M/(7*j.toNat+9)%4:Nat):Int)=0)
 |_=>false
def gpF(x:D):D:=match x with
 |.tup [_,.tup (n::_)]=>n
 |_=>.non
theorem a9Z(M:Nat):∀(ls:List Lt) (i:Nat),∃gp:List Str,((z3 i (ls.map ltD)).filter (gpB M)).map gpF=gp.map .str/\gp.Sublist (ls.map (·.n))
 |[],_=>⟨[],rfl,.slnil⟩
 | l::ls,i=>by
  obtain⟨gp,h1,h2⟩:=a9Z M ls (i+1);rw[List.map_cons,z3]
  cases hb:gpB M (.tup [.int (i:Nat),ltD l]) with
  |true=>
   refine⟨l.n::gp,?_,by rw[List.map_cons];exact h2.cons_cons _⟩
   rw[List.filter_cons_of_pos hb,List.map_cons,h1];rfl
  |false=>
   refine⟨gp,?_,by rw[List.map_cons];exact h2.cons _⟩
   rw[List.filter_cons_of_neg (by rw[hb];exact Bool.false_ne_true),h1]
section
variable{ct:CT}{F:Nat->Option Fn}
def feE:E:=(.comp (.tp (.cons (.nm 0) (.cons (.nm 1) .nil))) (.enum (.call 203 (.cons (.bin .div (.v 6) (.k (.int (3)))) (.cons (.bin .add (.k (.int (1))) (.bin .mod (.v 6) (.k (.int (3))))) .nil)))) 2 [6] .yes (.tup (.cons (.v 1) (.cons (.bin .gt (.bin .mod (.bin .div (.v 2) (.bin .add (.v 0) (.k (.int (5))))) (.k (.int (4)))) (.k (.int (0)))) .nil))))
def gpE:E:=(.comp (.tp (.cons (.nm 0) (.cons (.nm 1) .nil))) (.enum (.v 4)) 2 [6] (.cmp .eq (.bin .mod (.bin .div (.v 2) (.bin .add (.bin .mul (.k (.int (7))) (.v 0)) (.k (.int (9))))) (.k (.int (4)))) (.k (.int (0)))) (.ix (.v 1) (.k (.int (0)))))
def hB4:Ss:=(.cons (.set 9 gpE) (.cons (.set 10 (.call 206 (.cons (.v 2) (.cons (.v 3) .nil)))) (.cons (.set 11 (.call 207 (.cons (.v 2) (.cons (.v 3) .nil)))) (.cons (.ret (.tup (.cons (.v 3) (.cons (.v 10) (.cons (.v 11) (.cons (.v 4) (.cons (.v 9) (.cons (.v 5) (.cons (.v 7) (.cons (.v 8) .nil)))))))))) .nil))))
def hB3:Ss:=(.cons (.set 7 feE) (.cons (.set 8 (.call 211 (.cons (.call 201 (.cons (.v 0) (.cons (.k (.int (3))) .nil))) (.cons (.v 1) (.cons (.v 3) (.cons (.v 4) (.cons (.v 5) (.cons (.v 7) .nil)))))))) hB4))
def hB2:Ss:=(.cons (.set 4 (.call 208 (.cons (.call 201 (.cons (.v 0) (.cons (.k (.int (1))) .nil))) (.cons (.v 3) .nil)))) (.cons (.set 5 (.call 209 (.cons (.call 201 (.cons (.v 0) (.cons (.k (.int (2))) .nil))) (.cons (.v 3) .nil)))) (.cons (.set 6 (.call 202 (.cons (.call 201 (.cons (.v 0) (.cons (.k (.int (2))) .nil))) (.cons (.k (.int (5))) .nil)))) hB3)))
theorem b2F:F8=⟨2,12,0,(.cons (.set 2 (.call 201 (.cons (.v 0) (.cons (.k (.int (0))) .nil)))) (.cons (.set 3 (.call 204 (.cons (.v 2) .nil))) hB2))⟩:=rfl
theorem b2K{c:CF}{M d:Nat}{ls:List Lt}{env:j9}{g:AH}(h4:env[4]? =some (some (.ref d)))(h6:env[6]? =some (some (.int (M:Int))))(hd:g[d]? =some (.lst (ls.map ltD)))(hl:ls.length<=1000):∃gp:List Str,gp.Sublist (ls.map (·.n))/\ev ct c gpE env g=.ok (.ref g.length) (g++[.lst (gp.map .str)]):=by
 obtain⟨gp,g1,g2⟩:=a9Z M ls 0;refine⟨gp,g2,?_⟩
 unfold gpE
 rw[Q0 (l:=z3 0 (ls.map ltD)) (g:=[(d,.lst (ls.map ltD))]) (h1:=g) (by simp_arith[h4,a0m,hd]) (by simp[gOk,hd]) (gpB M) gpF (fun x=>match x with|.tup [a,b]=>[some a,some b,some (.int (M:Int))]|_=>[]) (fun x hx=>by
  obtain⟨j,hj⟩:=List.mem_iff_getElem?.mp hx;obtain⟨y,hy,rfl⟩:=a0c hj
  have hj':j<ls.length:=by simpa using(List.getElem?_eq_some_iff.mp hy).1
  rw[List.getElem?_map,List.getElem?_eq_getElem hj'] at hy
  obtain rfl:ltD ls[j]=y:=Option.some.inj hy;rw[Nat.zero_add]
  have m7:M5 g (.int 7) (.int (j:Int))=.ok (.int ((7*j:Nat):Int)) g:=by rw[L4 (by omega)];congr 2
  have a9:((7*j:Nat):Int)+9=((7*j+9:Nat):Int):=by omega
  have m4:∀a:Nat,u6 g (.int (a:Int)) (.int 4)=.ok (.int ((a%4:Nat):Int)) g:=fun a=>D3 4 (by decide)
  refine⟨by simp only[G9,N1,D9,List.map_cons,List.map_nil,h6,Q5];rfl,?_,fun _=>?_⟩
  · simp_arith[op2,m7,l0,a9,G8 (7*j+9) (by omega) (by omega),m4,G0,eqS,gpB,Int.toNat_natCast]
  · unfold ltD;simp_arith[a0p,gpF]) (by rw[U4,List.length_map];show _<=16777216;omega),g1]
theorem b0o{k M:Nat}{env:j9}{g:AH}(f203:F 203=some n9)(h6:env[6]? =some (some (.int (M:Int)))):∃(fe:List (Str×Bool)) (t:Cell),(1<=fe.length/\fe.length<=3)/\Nms (fe.map (·.1)) fe.length/\ev ct (b6 ct F (k+1)) feE env g=.ok (.ref (g.length+1)) (g++[t]++[.lst (fe.map feD)]):=by
 have d3:v7 g (.int (M:Int)) (.int 3)=.ok (.int ((M/3:Nat):Int)) g:=G8 3 (by decide) (by decide)
 have m3:u6 g (.int (M:Int)) (.int 3)=.ok (.int ((M%3:Nat):Int)) g:=D3 3 (by decide)
 have a1:(1:Int)+((M%3:Nat):Int)=((1+M%3:Nat):Int):=by omega
 have l3:M%3<3:=Nat.mod_lt _ (by decide)
 obtain⟨ns,nk,hN⟩:=X1 (ct:=ct) (k:=k) (c:=M/3) (m:=1+M%3) (h:=g) f203 (by omega)
 obtain⟨fe,h1,h2⟩:=b0p M ns 0
 have fl:fe.length=1+M%3:=by rw[←nk.len,←h2,List.length_map]
 refine⟨fe,.lst (ns.map .str),by omega,by rw[h2,fl];exact nk,?_⟩
 have lg:(g++[Cell.lst (ns.map D.str)]).length=g.length+1:=by simp
 unfold feE
 rw[y9 (l:=z3 0 (ns.map .str)) (g:=[(g.length,.lst (ns.map .str))]) (h1:=g++[.lst (ns.map .str)]) (by simp_arith[h6,op2,d3,m3,l0,a1,hN,a0m,b8]) (by simp[gOk]) (feF M) (fun x=>match x with|.tup [a,b]=>[some a,some b,some (.int (M:Int))]|_=>[]) (fun x hx=>by
  obtain⟨j,hj⟩:=List.mem_iff_getElem?.mp hx;obtain⟨y,hy,rfl⟩:=a0c hj
  have hj':j<ns.length:=by simpa using(List.getElem?_eq_some_iff.mp hy).1
  rw[List.getElem?_map,List.getElem?_eq_getElem hj'] at hy
  obtain rfl:D.str ns[j]=y:=Option.some.inj hy;rw[Nat.zero_add];have jl:=nk.len
  have a5:((j:Nat):Int)+5=((j+5:Nat):Int):=by omega
  have m4:∀(a:Nat) h,u6 h (.int (a:Int)) (.int 4)=.ok (.int ((a%4:Nat):Int)) h:=fun a h=>D3 4 (by decide)
  refine⟨by simp only[G9,N1,D9,List.map_cons,List.map_nil,h6,Q5];rfl,?_⟩
  simp_arith[op2,l0,a5,G8 (j+5) (by omega) (by omega),m4,D2,feF,feD,Int.toNat_natCast]) (by rw[U4,List.length_map,nk.len];show _<=16777216;omega),h1,lg]
variable(f201:F 201=some D0)(f202:F 202=some o4)(f203:F 203=some n9)(f204:F 204=some v8)(f205:F 205=some u7)(f206:F 206=some x4)(f207:F 207=some w6)(f208:F 208=some u9)(f209:F 209=some v0)(f210:F 210=some v5)(f211:F 211=some t7)
include f201 f202 f203 f204 f205 f206 f207 f208 f209 f210 f211
theorem b2D{k n m:Nat}{ns:List Int}{h:AH}(hF:F 212=some F8)(hr:h[n]? =some (.rol (ns.map .int)))(hm:m<=26):
 ∃H g a b c d e f i j,HLok H/\H.ru.length=m/\Pf h g/\HAt H g a b c d e f i j/\b6 ct F (k+3) 212 [.ref n,.int (m:Int)] h=.ok (.tup [.ref a,.ref b,.ref c,.ref d,.ref e,.ref f,.ref i,.ref j]) g:=by
 obtain⟨c0,hc0⟩:=a0W (ct:=ct) (k:=k+1) (j:=0) f201 hr;obtain⟨sh,s1,s2⟩:=a7G (ct:=ct) (k:=k) (c:=c0) (h:=h) f202 f203 f204
 have P1:Pf h (h++[.lst (shD sh)]):=(Pf.refl h).app _
 have A1:(h++[Cell.lst (shD sh)])[h.length]? =some (.lst (shD sh)):=b8
 have st1:exs ct (b6 ct F (k+2)) (.cons (.set 2 (.call 201 (.cons (.v 0) (.cons (.k (.int (0))) .nil)))) (.cons (.set 3 (.call 204 (.cons (.v 2) .nil))) hB2)) [some (.ref n),some (.int (m:Int)),none,none,none,none,none,none,none,none,none,none] h=exs ct (b6 ct F (k+2)) hB2 [some (.ref n),some (.int (m:Int)),some (.int c0),some (.ref h.length),none,none,none,none,none,none,none,none] (h++[.lst (shD sh)]):=by
  rw[seq (env':=[some (.ref n),some (.int (m:Int)),some (.int c0),none,none,none,none,none,none,none,none,none]) (h':=h) (by simp_arith[show b6 ct F (k+2) 201 [.ref n,.int 0] h=.ok (.int c0) h from hc0])]
  exact seq (by simp_arith[s2])
 generalize h++[Cell.lst (shD sh)]=g1 at P1 A1 st1;obtain⟨c1,hc1⟩:=a0W (ct:=ct) (k:=k+1) (j:=1) f201 (P1.at hr);obtain⟨ls,l1,l2,l3,l4⟩:=a6l (ct:=ct) (k:=k) (c:=c1) (h:=g1) f202 f203 f208 s1 A1
 have P2:Pf h (g1++[.lst (ls.map ltD)]):=P1.app _
 have A2:=b7 (g:=[.lst (ls.map ltD)]) A1
 have B2:(g1++[Cell.lst (ls.map ltD)])[g1.length]? =some (.lst (ls.map ltD)):=b8
 generalize hd:g1.length=d at l4 B2;generalize hg2:g1++[Cell.lst (ls.map ltD)]=g2 at P2 A2 B2 l4;obtain⟨c2,hc2⟩:=a0W (ct:=ct) (k:=k+1) (j:=2) f201 (P2.at hr);obtain⟨cs,k1,k2,k3,k4⟩:=a6C (ct:=ct) (k:=k) (c:=c2) (h:=g2) f202 f203 f209 s1 A2
 have P3:Pf h (g2++[.lst (cs.map csD)]):=P2.app _
 have A3:=b7 (g:=[.lst (cs.map csD)]) A2;have B3:=b7 (g:=[.lst (cs.map csD)]) B2
 have C3:(g2++[Cell.lst (cs.map csD)])[g2.length]? =some (.lst (cs.map csD)):=b8
 generalize hf:g2.length=f at k4 C3;generalize hg3:g2++[Cell.lst (cs.map csD)]=g3 at P3 A3 B3 C3 k4;obtain⟨c2',hc2'⟩:=a0W (ct:=ct) (k:=k+1) (j:=2) f201 (P3.at hr);obtain⟨M,hM⟩:=z9 (ct:=ct) (k:=k+1) (c:=c2') (j:=5) (h:=g3) f202 (by decide)
 obtain⟨fe,t,f1,f2,f3⟩:=b0o (ct:=ct) (k:=k+1) (M:=M) (env:=[some (.ref n),some (.int (m:Int)),some (.int c0),some (.ref h.length),some (.ref d),some (.ref f),some (.int (M:Int)),none,none,none,none,none]) (g:=g3) f203 rfl
 have lg:(g3++[t]).length=g3.length+1:=by simp
 have P4:Pf h (g3++[t]++[.lst (fe.map feD)]):=(P3.app _).app _
 have A4:=b7 (g:=[.lst (fe.map feD)]) (b7 (g:=[t]) A3);have B4:=b7 (g:=[.lst (fe.map feD)]) (b7 (g:=[t]) B3);have C4:=b7 (g:=[.lst (fe.map feD)]) (b7 (g:=[t]) C3)
 have D4:(g3++[t]++[Cell.lst (fe.map feD)])[g3.length+1]? =some (.lst (fe.map feD)):=by rw[←lg];exact b8
 generalize hi:g3.length+1=i at f3 D4;generalize hg4:g3++[t]++[Cell.lst (fe.map feD)]=g4 at P4 A4 B4 C4 D4 f3;obtain⟨c3,hc3⟩:=a0W (ct:=ct) (k:=k+1) (j:=3) f201 (P4.at hr);obtain⟨rs,r1,r2,r3,r4⟩:=a8Q (ct:=ct) (k:=k) (c:=c3) (m:=m) (h:=g4) f202 f210 f203 f211 (T:=⟨A4,B4,C4,s1.lo,l1.1,k1.1,l3,k3⟩) D4 f1.1 hm
 have P5:Pf h (g4++[.lst (rs.map ruD)]):=P4.app _
 have A5:=b7 (g:=[.lst (rs.map ruD)]) A4;have B5:=b7 (g:=[.lst (rs.map ruD)]) B4;have C5:=b7 (g:=[.lst (rs.map ruD)]) C4;have D5:=b7 (g:=[.lst (rs.map ruD)]) D4
 have E5:(g4++[Cell.lst (rs.map ruD)])[g4.length]? =some (.lst (rs.map ruD)):=b8
 generalize hj:g4.length=j at r4 E5;generalize hg5:g4++[Cell.lst (rs.map ruD)]=g5 at P5 A5 B5 C5 D5 E5 r4;obtain⟨gp,y1,y2⟩:=b2K (ct:=ct) (c:=b6 ct F (k+2)) (M:=M) (env:=[some (.ref n),some (.int (m:Int)),some (.int c0),some (.ref h.length),some (.ref d),some (.ref f),some (.int (M:Int)),some (.ref i),some (.ref j),none,none,none]) (g:=g5) rfl rfl B5 (by omega)
 have P6:Pf h (g5++[.lst (gp.map .str)]):=P5.app _
 have A6:=b7 (g:=[.lst (gp.map .str)]) A5
 have X6:Pf g5 (g5++[.lst (gp.map .str)]):=(Pf.refl _).app _
 have G6:(g5++[Cell.lst (gp.map .str)])[g5.length]? =some (.lst (gp.map .str)):=b8
 generalize he:g5.length=e at y2 G6;generalize hg6:g5++[Cell.lst (gp.map .str)]=g6 at P6 A6 X6 G6 y2;obtain⟨ms,m1,m2,m3⟩:=a9C (ct:=ct) (k:=k) (c:=c0) (h:=g6) f202 f205 f206 s1 A6
 have P7:Pf h (g6++[.lst (ms.map mkD)]):=P6.app _
 have A7:=b7 (g:=[.lst (ms.map mkD)]) A6
 have X7:Pf g6 (g6++[.lst (ms.map mkD)]):=(Pf.refl _).app _
 have M7:(g6++[Cell.lst (ms.map mkD)])[g6.length]? =some (.lst (ms.map mkD)):=b8
 generalize hb:g6.length=b at m3 M7;generalize hg7:g6++[Cell.lst (ms.map mkD)]=g7 at P7 A7 X7 M7 m3;obtain⟨ps,p1,p2,p3,p4⟩:=a7Q (ct:=ct) (k:=k) (c:=c0) (h:=g7) f202 f205 f207 s1 A7
 have P8:Pf h (g7++[.lst (ps.map ptD)]):=P7.app _
 have X8:Pf g7 (g7++[.lst (ps.map ptD)]):=(Pf.refl _).app _
 have N8:(g7++[Cell.lst (ps.map ptD)])[g7.length]? =some (.lst (ps.map ptD)):=b8
 generalize hc:g7.length=c at p4 N8;generalize hg8:g7++[Cell.lst (ps.map ptD)]=g8 at P8 X8 N8 p4;have X58:=(X6.trans X7).trans X8;refine⟨⟨sh,ms,ps,ls,gp,cs,fe,rs⟩,g8,h.length,b,c,d,e,f,i,j,⟨s1,m1,m2,p1,p2,p3,l1,l2,l3,y1,k1,k2,k3,f1,f2,by show rs.length<=26;omega,r2,r3⟩,r1,P8,⟨X58.at A5,X8.at M7,N8,X58.at B5,(X7.trans X8).at G6,X58.at C5,X58.at D5,X58.at E5⟩,?_⟩
 rw[n0 hF rfl];simp only[b2F];rw[gc0]
 show W9 (exs ct (b6 ct F (k+2)) (.cons (.set 2 (.call 201 (.cons (.v 0) (.cons (.k (.int (0))) .nil)))) (.cons (.set 3 (.call 204 (.cons (.v 2) .nil))) hB2)) [some (.ref n),some (.int (m:Int)),none,none,none,none,none,none,none,none,none,none] h)=_
 rw[st1];unfold hB2;rw[seq (env':=[some (.ref n),some (.int (m:Int)),some (.int c0),some (.ref h.length),some (.ref d),none,none,none,none,none,none,none]) (h':=g2) (by simp_arith[show b6 ct F (k+2) 201 [.ref n,.int 1] g1=.ok (.int c1) g1 from hc1,l4])]
 rw[seq (env':=[some (.ref n),some (.int (m:Int)),some (.int c0),some (.ref h.length),some (.ref d),some (.ref f),none,none,none,none,none,none]) (h':=g3) (by simp_arith[show b6 ct F (k+2) 201 [.ref n,.int 2] g2=.ok (.int c2) g2 from hc2,k4])]
 rw[seq (env':=[some (.ref n),some (.int (m:Int)),some (.int c0),some (.ref h.length),some (.ref d),some (.ref f),some (.int (M:Int)),none,none,none,none,none]) (h':=g3) (by simp_arith[show b6 ct F (k+2) 201 [.ref n,.int 2] g3=.ok (.int c2') g3 from hc2',hM])]
 unfold hB3;rw[seq (env':=[some (.ref n),some (.int (m:Int)),some (.int c0),some (.ref h.length),some (.ref d),some (.ref f),some (.int (M:Int)),some (.ref i),none,none,none,none]) (h':=g4) (by simp_arith[f3])]
 rw[seq (env':=[some (.ref n),some (.int (m:Int)),some (.int c0),some (.ref h.length),some (.ref d),some (.ref f),some (.int (M:Int)),some (.ref i),some (.ref j),none,none,none]) (h':=g5) (by simp_arith[show b6 ct F (k+2) 201 [.ref n,.int 3] g4=.ok (.int c3) g4 from hc3,r4])]
 unfold hB4;rw[seq (env':=[some (.ref n),some (.int (m:Int)),some (.int c0),some (.ref h.length),some (.ref d),some (.ref f),some (.int (M:Int)),some (.ref i),some (.ref j),some (.ref e),none,none]) (h':=g6) (by simp_arith[y2])]
 rw[seq (env':=[some (.ref n),some (.int (m:Int)),some (.int c0),some (.ref h.length),some (.ref d),some (.ref f),some (.int (M:Int)),some (.ref i),some (.ref j),some (.ref e),some (.ref b),none]) (h':=g7) (by simp_arith[m3])]
 rw[seq (env':=[some (.ref n),some (.int (m:Int)),some (.int c0),some (.ref h.length),some (.ref d),some (.ref f),some (.int (M:Int)),some (.ref i),some (.ref j),some (.ref e),some (.ref b),some (.ref c)]) (h':=g8) (by simp_arith[p4])]
 have s8:(8<=SL)=True:=eq_true (by decide)
 simp_arith[s8]
end
end EV
namespace EV
open PySem L2 L2T
def num(i:Int):Str:=Str.ofString (toString i)
def ln(ws:List Str):Str:=Txt.join " " ws
theorem a5N(ws:List Str):cd (ln ws)=jn 32 (ws.map cd):=by
 show cd (Builtin.Str.glued " " _)=_
 rw[StrLaws.glued_eq_join];exact a1S 32 ws
theorem a3k{x:Str}{ws:List Str}(h:cd x=jn 32 (ws.map cd)):x=ln ws:=Y7 (h.trans (a5N ws).symm)
def R8(p:Str×Nat):List Str:=["shape",p.1,num p.2]
def K9(p:Int×Int):List Str:=[num p.1,num p.2]
def T6(m:Mk):List Str:=["mark",m.n,m.s,num m.a.1,num m.a.2,num m.b.1,num m.b.2]
def W3(p:Pt):List Str:=["point",p.n,p.s,num p.a.1,num p.a.2]
def L8(l:Lt):List Str:="letter"::l.n::l.j::l.w::l.fs
def a4R(n:Str):List Str:=["gap",n]
def R9(c:Cs):List Str:="class"::c.n::c.fs
def a7V(b:Bool):Str:=if b then "on" else "off"
def a1o(p:Str×Bool):List Str:=["feature",p.1,a7V p.2]
def O7(r:Ru):List Str:="rule"::r.t::r.f::(r.b++("/":Str)::(r.c++("/":Str)::(r.a++(">":Str)::r.o)))
def L0(H:HL):List (List Str):=H.sh.map R8++H.mr.map T6++H.pt.map W3++H.ls.map L8++H.gp.map a4R++H.cs.map R9++H.fe.map a1o++H.ru.map O7
theorem a1O{i:Int}(h: -99999<=i/\i<=99999):(num i).length<=7:=by
 unfold num;rw[ofString_length];exact int_text_length_le10 (a:=i) (k:=6) (by decide) (by omega)
theorem a5Y{i:Int}{h:AH}(hi: -99999<=i/\i<=99999):biD .str h [.int i]=.ok (.str (num i)) h:=by
 simp only[biD];rw[if_pos]
 · rfl
 · by_cases h0:i.natAbs=0
   · rw[h0];decide
   · exact(Nat.log2_lt h0).mpr (Nat.lt_of_lt_of_le (show i.natAbs<2^17 by omega) (Nat.pow_le_pow_right (by decide) (by decide)))
theorem E6:(Str.ofString " ").length=1:=rfl
theorem a3K{ws:List Str}{b:Nat}(h:∀w∈ws,w.length<=b):(ws.map (·.length)).sum<=ws.length*b:=by
 induction ws with
 |nil=>simp
 |cons x r ih=>
  rw[List.map_cons,List.sum_cons,List.length_cons]
  have:=ih fun w hw=>h w (.tail _ hw)
  have:=h x (.head _)
  rw[Nat.add_mul];omega
theorem a9H{ws:List Str}{b:Nat}(h:∀w∈ws,w.length<=b):(ln ws).length<=ws.length*(b+1):=by
 show(Builtin.Str.glued " " ws).length<=_
 rw[StrLaws.glued_eq_join];refine Nat.le_trans (StrLaws.join_length_le _ _) ?_
 have:=a3K h
 rw[E6,Nat.mul_add];omega
theorem b3x{ws:List Str}(h:∀w∈ws,w.length<=20)(hl:ws.length<=100):JoinOk " " ws=true:=by
 have:=a3K h
 exact a4j (by rw[E6];omega)
section
variable{ct:CT}{F:Nat->Option Fn}
theorem a2j{k:Nat}{p:Int×Int}{h:AH}(hF:F 213=some w8)(hp:Y9 p):b6 ct F (k+1) 213 [spD p] h=.ok (.str (ln (K9 p))) h:=by
 rw[n0 hF rfl];simp only[w8]
 have i0:ixD h (spD p) (.int 0)=.ok (.int p.1) h:=ix_tup (i:=0) rfl
 have i1:ixD h (spD p) (.int 1)=.ok (.int p.2) h:=ix_tup (i:=1) rfl
 have l1:=a1O hp.1;have l2:=a1O hp.2;simp_arith[i0,i1,a5Y hp.1,a5Y hp.2,op2,o6 (h:=h) (x:=num p.1) (y:=" ") (by rw[E6];omega),o6 (h:=h) (x:=num p.1++(" ":Str)) (y:=num p.2) (by rw[k8,E6];omega)]
 rw[show(num p.1++(" ":Str))++num p.2=ln (K9 p) from a3k (by rw[G5,G5,show cd (Str.ofString " ")=[32] from rfl];show cd (num p.1)++[32]++cd (num p.2)=cd (num p.1)++32::cd (num p.2);simp)]
 exact E1 rfl
theorem a6F{g:AH}{a b:Nat}{xs ys:List D}(h1:g[a]? =some (.lst xs))(h2:g[b]? =some (.lst ys))(hl:xs.length+ys.length<=100000):W0 g (.ref a) (.ref b)=.ok (.ref g.length) (g++[.lst (xs++ys)]):=a1a h1 h2 hl
theorem a9I{xs:List D}{h:AH}:biD .list h [.tup xs]=.ok (.ref h.length) (h++[.lst xs]):=rfl
theorem b2w{g:AH}{n:Nat}{sep:Str}{ts:List Str}(h1:g[n]? =some (.lst (ts.map .str)))(jo:JoinOk sep ts=true):mtD .join g (.str sep) [.ref n]=.ok (.str (Txt.join sep ts)) g:=by
 have:rdL g n=some (ts.map .str):=by unfold rdL;rw[h1]
 simp only[mtD,this,a1c];rw[if_pos jo]
theorem a5J{α:Type}{c:CF}{p:Pat}{a e:E}{nb s:Nat}{fr:List Nat}{env:j9}{h:AH}{l:List α}(rp:α->D)(f:α->Str)(envf:α->j9)(ha:ev ct c a env h=.ok (.ref s) h)(hs:h[s]? =some (.lst (l.map rp)))(hl:l.length<=1000)
 (hx:∀x∈l,G9 p (rp x) (D9 nb fr env)=some (envf x)/\∀h,∃t,ev ct c e (envf x) h=.ok (.str (f x)) (h++t)):∃t,ev ct c (.comp p (.seq a) nb fr .yes e) env h=.ok (.ref (h++t).length) (h++t++[.lst ((l.map f).map .str)]):=by
 have key:∀(l':List α) (acc:List D) (h':AH),(∀t,gOk [(s,.lst (l.map rp))] (h'++t)=true)->(∀x∈l',G9 p (rp x) (D9 nb fr env)=some (envf x)/\∀h,∃t,ev ct c e (envf x) h=.ok (.str (f x)) (h++t))->acc.length+l'.length<=SL->∃t,R6 [(s,.lst (l.map rp))] p (tst ct c .yes) (ev ct c e) (D9 nb fr env) (l'.map rp) acc h'=.ok (acc++(l'.map f).map .str) (h'++t):=by
  intro l'
  induction l' with
  |nil=>
   intro acc h' g1 _ _;have g0:=g1 [];rw[List.append_nil] at g0;exact⟨[],by rw[List.map_nil,R6,if_pos g0];simp⟩
  |cons x r ih=>
   intro acc h' g1 hx' hl';have g0:=g1 [];rw[List.append_nil] at g0;obtain⟨b1,b2⟩:=hx' x (.head _);obtain⟨t,b2⟩:=b2 h';rw[List.length_cons] at hl';obtain⟨u,ih⟩:=ih (acc++[.str (f x)]) (h'++t) (fun u=>by rw[List.append_assoc];exact g1 _) (fun y hy=>hx' y (.tail _ hy)) (by rw[List.length_append];simp;omega)
   refine⟨t++u,?_⟩
   rw[List.map_cons,R6,if_pos g0,b1]
   simp only
   rw[a6I,k7,if_pos rfl,b2,k7,if_pos (by omega),ih]
   simp
 obtain⟨t,kt⟩:=key l [] h (fun t=>by simp[gOk,b7 (g:=t) hs]) hx (by show 0+_<=16777216;omega)
 refine⟨t,?_⟩
 rw[a4x (x:=(l.map rp,[(s,.lst (l.map rp))])) (h1:=h) (h2:=h++t) (ds:=(l.map f).map .str) (by rw[a4w,ha,k7];simp only[a0q,hs]) (by rw[kt,List.nil_append])]
end
end EV
namespace EV
open PySem L2 L2T
section
variable{ct:CT}{F:Nat->Option Fn}
def EvL(ct:CT)(c:CF)(e:E)(env:j9)(h:AH)(xs:List Str):Prop:=∃n t,ev ct c e env h=.ok (.ref n) (h++t)/\(h++t)[n]? =some (.lst (xs.map .str))/\(h.length<=n∨t=[])
theorem O2{c:CF}{a b:E}{env:j9}{h:AH}{xs ys:List Str}(A:EvL ct c a env h xs)(B:∀t,EvL ct c b env (h++t) ys)(hl:xs.length+ys.length<=100000):EvL ct c (.bin .add a b) env h (xs++ys):=by
 obtain⟨n,t,a1,a2,_⟩:=A;obtain⟨m,u,b1,b2,_⟩:=B t;refine⟨(h++t++u).length,t++u++[.lst ((xs++ys).map .str)],?_,?_,.inl (by simp[List.length_append,Nat.add_assoc])⟩
 · simp_arith[a1,b1,op2,a6F (b7 (g:=u) a2) b2 (by rw[List.length_map,List.length_map];exact hl)]
   simp
 · rw[show h++(t++u++[Cell.lst ((xs++ys).map .str)])=h++t++u++[.lst ((xs++ys).map .str)] by simp]
   exact b8
theorem a0b{c:CF}{es:Es}{env:j9}{h:AH}{xs:List Str}(e:evs ct c es env h=.ok (xs.map .str) h)(hl:xs.length<=1000):EvL ct c (.lst es) env h xs:=by
 refine⟨h.length,[.lst (xs.map .str)],?_,b8,.inl (Nat.le_refl _)⟩
 rw[b0v,e,k7,if_pos (by rw[List.length_map];show _<=16777216;omega)]
 rfl
theorem U3{c:CF}{a:E}{env:j9}{h:AH}{xs:List Str}(e:ev ct c a env h=.ok (.tup (xs.map .str)) h):EvL ct c (.bi .list (.cons a .nil)) env h xs:=by
 refine⟨h.length,[.lst (xs.map .str)],?_,b8,.inl (Nat.le_refl _)⟩
 simp_arith[e,a9I]
theorem b7J{c:CF}{i n:Nat}{env:j9}{h:AH}{xs:List Str}(e:env[i]? =some (some (.ref n)))(hn:h[n]? =some (.lst (xs.map .str))):EvL ct c (.v i) env h xs:=by
 refine⟨n,[],?_,by rw[List.append_nil];exact hn,.inr rfl⟩
 rw[List.append_nil];simp_arith[e]
theorem a2z{c:CF}{e:E}{env:j9}{h:AH}{sep:Str}{xs:List Str}(A:EvL ct c e env h xs)(jo:JoinOk sep xs=true):∃t,ev ct c (.mt .join (.k (.str sep)) (.cons e .nil)) env h=.ok (.str (Txt.join sep xs)) (h++t):=by
 obtain⟨n,t,a1,a2,_⟩:=A;refine⟨t,?_⟩
 simp_arith[mtT,a1,b2w a2 jo]
theorem b1P:w5=⟨1,2,1,(.cons (.set 1 (.bin .add (.bin .add (.bin .add (.lst (.cons (.k (.str "rule")) (.cons (.ix (.v 0) (.k (.int (0)))) (.cons (.ix (.v 0) (.k (.int (1)))) .nil)))) (.bi .list (.cons (.ix (.v 0) (.k (.int (2)))) .nil))) (.lst (.cons (.k (.str "/")) .nil))) (.bi .list (.cons (.ix (.v 0) (.k (.int (3)))) .nil)))) (.cons (.ret (.mt .join (.k (.str " ")) (.cons (.bin .add (.bin .add (.bin .add (.bin .add (.v 1) (.lst (.cons (.k (.str "/")) .nil))) (.bi .list (.cons (.ix (.v 0) (.k (.int (4)))) .nil))) (.lst (.cons (.k (.str ">")) .nil))) (.bi .list (.cons (.ix (.v 0) (.k (.int (5)))) .nil))) .nil))) .nil))⟩:=rfl
theorem a8S{k:Nat}{r:Ru}{h:AH}(hF:F 214=some w5)(hl:(O7 r).length<=100)(hw:∀w∈O7 r,w.length<=20):b6 ct F (k+1) 214 [ruD r] h=.ok (.str (ln (O7 r))) h:=by
 have i0:∀h,ixD h (ruD r) (.int 0)=.ok (.str r.t) h:=fun h=>ix_tup (i:=0) rfl
 have i1:∀h,ixD h (ruD r) (.int 1)=.ok (.str r.f) h:=fun h=>ix_tup (i:=1) rfl
 have i2:∀h,ixD h (ruD r) (.int 2)=.ok (.tup (r.b.map .str)) h:=fun h=>ix_tup (i:=2) rfl
 have i3:∀h,ixD h (ruD r) (.int 3)=.ok (.tup (r.c.map .str)) h:=fun h=>ix_tup (i:=3) rfl
 have i4:∀h,ixD h (ruD r) (.int 4)=.ok (.tup (r.a.map .str)) h:=fun h=>ix_tup (i:=4) rfl
 have i5:∀h,ixD h (ruD r) (.int 5)=.ok (.tup (r.o.map .str)) h:=fun h=>ix_tup (i:=5) rfl
 have ll:r.b.length+r.c.length+r.a.length+r.o.length<=100:=by
  unfold O7 at hl;simp only[List.length_cons,List.length_append] at hl;omega
 rw[n0 hF rfl];simp only[b1P]
 show gcR 1 h (W9 (exs ct (b6 ct F k) _ [some (ruD r),none] h))=_
 have A:=O2 (O2 (O2 (a0b (ct:=ct) (c:=b6 ct F k) (es:=(.cons (.k (.str "rule")) (.cons (.ix (.v 0) (.k (.int (0)))) (.cons (.ix (.v 0) (.k (.int (1)))) .nil)))) (env:=[some (ruD r),none]) (h:=h) (xs:=["rule",r.t,r.f]) (by simp_arith[i0,i1]) (by show 3<=1000;decide)) (fun t=>U3 (a:=(.ix (.v 0) (.k (.int (2))))) (xs:=r.b) (by simp_arith[i2])) (by simp only[List.length_cons,List.length_nil];omega)) (fun t=>a0b (es:=(.cons (.k (.str "/")) .nil)) (xs:=["/"]) (by simp_arith[]) (by decide)) (by simp only[List.length_append,List.length_cons,List.length_nil];omega)) (fun t=>U3 (a:=(.ix (.v 0) (.k (.int (3))))) (xs:=r.c) (by simp_arith[i3])) (by simp only[List.length_append,List.length_cons,List.length_nil];omega)
 obtain⟨n,t,a1,a2,_⟩:=A;rw[seq (env':=[some (ruD r),some (.ref n)]) (h':=h++t) (by rw[a4v,a1,k7];rfl)]
 have B:=O2 (O2 (O2 (O2 (b7J (ct:=ct) (c:=b6 ct F k) (i:=1) (env:=[some (ruD r),some (.ref n)]) rfl a2) (fun t=>a0b (es:=(.cons (.k (.str "/")) .nil)) (xs:=["/"]) (by simp_arith[]) (by decide)) (by simp only[List.length_append,List.length_cons,List.length_nil];omega)) (fun t=>U3 (a:=(.ix (.v 0) (.k (.int (4))))) (xs:=r.a) (by simp_arith[i4])) (by simp only[List.length_append,List.length_cons,List.length_nil];omega)) (fun t=>a0b (es:=(.cons (.k (.str ">")) .nil)) (xs:=[">"]) (by simp_arith[]) (by decide)) (by simp only[List.length_append,List.length_cons,List.length_nil];omega)) (fun t=>U3 (a:=(.ix (.v 0) (.k (.int (5))))) (xs:=r.o) (by simp_arith[i5])) (by simp only[List.length_append,List.length_cons,List.length_nil];omega)
 have e:[("rule":Str),r.t,r.f]++r.b++[("/":Str)]++r.c++[("/":Str)]++r.a++[(">":Str)]++r.o=O7 r:=by
  unfold O7;simp
 rw[e] at B;obtain⟨u,b1⟩:=a2z B (b3x hw hl);rw[a0T,a6v,b1,k7,k7]
 show gcR 1 h (.ok (.str (ln (O7 r))) (h++t++u))=_
 rw[List.append_assoc];exact gc1 rfl
end
end EV
namespace EV
open PySem L2 L2T
theorem a0C(n:Nat):cd (num (n:Int))=(Nat.toDigits 10 n).map Char.toNat:=W.KIN.signs_num n
theorem a9V(n:Nat):n≠0->((Nat.toDigits 10 n).map Char.toNat).head?≠some 48:=by
 induction n using Nat.strongRecOn with
 |_ n ih=>
  intro h0
  by_cases h:n<10
  · rw[Nat.toDigits_of_lt_base h,List.map_cons,List.head?_cons,Nat.toNat_digitChar_of_lt_ten h]
    intro e
    have:=Option.some.inj e
    omega
  · rw[Nat.toDigits_of_base_le (by decide) (by omega),List.map_append]
    have hn:=ih (n/10) (by omega) (by omega)
    cases hd:Nat.toDigits 10 (n/10) with
    |nil=>exact absurd hd Nat.toDigits_ne_nil
    |cons a r=>rw[hd] at hn;exact hn
theorem a4s(n:Nat):(cd (num (n:Int))).all Q6=true:=by
 rw[a0C];refine List.all_eq_true.mpr fun c hc=>?_
 obtain⟨d,hd,rfl⟩:=List.mem_map.mp hc
 have:=Nat.isDigit_of_mem_toDigits (by decide) (by decide) hd
 rw[a4t];unfold Char.isDigit at this;simp only[Bool.and_eq_true,decide_eq_true_eq] at this;exact⟨this.1,this.2⟩
theorem a2m{n:Nat}(h:n<=99999):U0 (num (n:Int))=some (n:Int):=by
 have l5:(num (n:Int)).length<=5:=by
  rw[←o8,a0C,List.length_map];exact(Nat.length_toDigits_le_iff (by decide) (by decide)).mpr (by omega)
 have l1:(num (n:Int)).length≠0:=by
  rw[←o8,a0C,List.length_map];exact fun e=>Nat.toDigits_ne_nil (List.length_eq_zero_iff.mp e)
 unfold U0;rw[if_pos (a4s n),if_neg,a0C,W.KIN.val_back];rintro(e|e|⟨e1,e2⟩)
 · exact l1 ((a8b _).mp e)
 · omega
 · rw[a0C] at e1
   by_cases h0:n=0
   · rw[h0] at e2;exact absurd e2 (by decide)
   · exact a9V n h0 e1
theorem a4E(m:Nat):cd (num (Int.negSucc m))=45::cd (num ((m+1:Nat):Int)):=by
 rw[a0C]
 show(Str.ofString ("-"++Nat.repr (m+1))).cps.toList=_
 rw[Str.ofString_eq_toList];simp[Nat.toList_repr]
theorem G7{i:Int}(h: -99999<=i/\i<=99999):a0i (num i)=some i:=by
 unfold a0i
 cases i with
 |ofNat n=>
  have h2:(n:Int)<=99999:=h.2
  rw[if_neg]
  · exact a2m (by omega)
  · intro e
    cases hc:cd (num (Int.ofNat n)) with
    |nil=>rw[hc] at e;cases e
    |cons c r=>
     rw[hc] at e;have e:=Option.some.inj e
     have:=a4s n
     rw[show cd (num (n:Int))=c::r from hc,List.all_cons,e] at this;rw[show Q6 45=false from by decide+kernel] at this
     exact Bool.noConfusion this
 |negSucc m=>
  have h1:=h.1;rw[Int.negSucc_eq] at h1
  have t:tl (num (Int.negSucc m))=num ((m+1:Nat):Int):=Y7 (by rw[a3z,a4E];rfl)
  rw[if_pos (by rw[a4E];rfl),t,a2m (by omega)]
  simp only
  rw[if_neg (by omega)]
  congr 1
structure WOk(w:Str):Prop where
 l:w.length<=20
 p:w.length≠0
 c:∀c∈cd w,c≠32/\c≠10
theorem WOk.num{i:Int}(h: -99999<=i/\i<=99999):WOk (num i):=by
 have fg:∀n:Nat,∀c∈cd (EV.num (n:Int)),c≠32/\c≠10:=fun n c hc=>by
  have:=(a4t c).mp (List.all_eq_true.mp (a4s n) c hc)
  omega
 refine⟨by have:=a1O h;omega,?_,?_⟩
 · rw[←o8]
   cases i with
   |ofNat n=>
    show(cd (EV.num (n:Int))).length≠0
    rw[a0C,List.length_map];exact fun e=>Nat.toDigits_ne_nil (List.length_eq_zero_iff.mp e)
   |negSucc m=>rw[a4E];exact Nat.succ_ne_zero _
 · cases i with
   |ofNat n=>exact fg n
   |negSucc m=>
    rw[a4E];intro c hc
    rcases List.mem_cons.mp hc with rfl|hc
    · decide
    · exact fg _ c hc
theorem b1K{c:Nat}(h:M9 c=true):c≠32/\c≠10:=by
 unfold M9 at h;have h:=of_decide_eq_true h
 have:∀c∈cd a0K,c≠32/\c≠10:=by decide+kernel
 exact this c h
theorem WOk.name{w:Str}(h:d0 w=true):WOk w:=by
 unfold d0 at h;simp only[Bool.and_eq_true,decide_eq_true_eq] at h;exact⟨by omega,by omega,fun c hc=>b1K (List.all_eq_true.mp h.2 c hc)⟩
theorem WOk.at{w:Str}(h:d0 w=true):WOk (("@":Str)++w):=by
 have n:=X2 h;have k:=WOk.name h;refine⟨by rw[k8,show(Str.ofString "@").length=1 from rfl];omega,by rw[k8,show(Str.ofString "@").length=1 from rfl];omega,fun c hc=>?_⟩
 rw[G5] at hc
 rcases List.mem_append.mp hc with hc|hc
 · have:c=64:=by simpa [show cd (Str.ofString "@")=[64] from by decide+kernel] using hc
   omega
 · exact k.c c hc
structure Row(ws:List Str):Prop where
 n:ws≠[]
 l:ws.length<=40
 w:∀w∈ws,WOk w
instance (w:Str):Decidable (w.length<=20/\w.length≠0/\∀c∈cd w,c≠32/\c≠10):=inferInstance
theorem WOk.k{w:Str}(h:w.length<=20/\w.length≠0/\∀c∈cd w,c≠32/\c≠10):WOk w:=⟨h.1,h.2.1,h.2.2⟩
theorem Row.nil:∀w∈([]:List Str),WOk w:=fun _ h=>nomatch h
theorem j0{a:Str}{r:List Str}(h:WOk a)(hr:∀w∈r,WOk w):∀w∈a::r,WOk w:=fun w hw=>by
 rcases List.mem_cons.mp hw with rfl|hw
 · exact h
 · exact hr w hw
theorem a6g{a r:List Str}(h:∀w∈a,WOk w)(hr:∀w∈r,WOk w):∀w∈a++r,WOk w:=fun w hw=>by
 rcases List.mem_append.mp hw with hw|hw
 · exact h w hw
 · exact hr w hw
section
variable{H:HL}(K:HLok H)
include K
theorem N3{n:Str}(h:n∈H.sh.map (·.1)):d0 n=true:=by
 obtain⟨p,hp,rfl⟩:=List.mem_map.mp h;exact(K.sh.ok p hp).1
theorem a6L{s:Str}(h:a0g s):WOk s:=by
 rcases h with rfl|rfl<;>exact WOk.k (by decide+kernel)
theorem a4e{m:Mk}(h:m∈H.mr):m.n∈H.sh.map (·.1):=K.mr.subset (List.mem_map.mpr ⟨m,h,rfl⟩)
theorem a0S{f:Str}(h:f∈H.fe.map (·.1)):d0 f=true:=K.fen.ok f h
theorem a9P{i:Str}(h:a1A H.sh H.cs i):WOk i:=by
 rcases h with h|⟨c,hc,rfl⟩
 · exact WOk.name (N3 K h)
 · exact WOk.at (K.cso c hc).nm
theorem a3c{p:Str×Nat}(h:p∈H.sh):Row (R8 p):=by
 have k:=K.sh.ok p h;exact⟨List.cons_ne_nil _ _,Nat.le_of_ble_eq_true rfl,j0 (WOk.k (by decide+kernel)) (j0 (WOk.name k.1) (j0 (WOk.num (by have:=k.2;omega)) Row.nil))⟩
theorem a5g{m:Mk}(h:m∈H.mr):Row (T6 m):=by
 obtain⟨k1,k2,k3⟩:=K.mko m h;exact⟨List.cons_ne_nil _ _,Nat.le_of_ble_eq_true rfl,j0 (WOk.k (by decide+kernel)) (j0 (WOk.name (N3 K (a4e K h))) (j0 (a6L K k1) (j0 (WOk.num k2.1) (j0 (WOk.num k2.2) (j0 (WOk.num k3.1) (j0 (WOk.num k3.2) Row.nil))))))⟩
theorem a3d{p:Pt}(h:p∈H.pt):Row (W3 p):=by
 obtain⟨k1,k2,k3⟩:=K.pto p h;exact⟨List.cons_ne_nil _ _,Nat.le_of_ble_eq_true rfl,j0 (WOk.k (by decide+kernel)) (j0 (WOk.name (N3 K k1)) (j0 (a6L K k2) (j0 (WOk.num k3.1) (j0 (WOk.num k3.2) Row.nil))))⟩
theorem a0r{l:Lt}(h:l∈H.ls):Row (L8 l):=by
 have k:=K.lso l h;have kl:=k.few;refine⟨List.cons_ne_nil _ _,by unfold L8;simp only[List.length_cons];omega,j0 (WOk.k (by decide+kernel)) (j0 (WOk.name k.nm) (j0 ?_ (j0 ?_ fun w hw=>WOk.name (N3 K (k.fs w hw)))))⟩
 · rcases k.js with e|e|e|e<;>rw[e]<;>exact WOk.k (by decide+kernel)
 · rcases k.ws with e|e|e<;>rw[e]<;>exact WOk.k (by decide+kernel)
theorem a4q{n:Str}(h:n∈H.gp):d0 n=true:=by
 obtain⟨l,hl,rfl⟩:=List.mem_map.mp (K.gp.subset h);exact(K.lso l hl).nm
theorem a6R{n:Str}(h:n∈H.gp):Row (a4R n):=⟨List.cons_ne_nil _ _,Nat.le_of_ble_eq_true rfl,j0 (WOk.k (by decide+kernel)) (j0 (WOk.name (a4q K h)) Row.nil)⟩
theorem a1d{c:Cs}(h:c∈H.cs):Row (R9 c):=by
 have k:=K.cso c h;have kl:=k.few;exact⟨List.cons_ne_nil _ _,by unfold R9;simp only[List.length_cons];omega,j0 (WOk.k (by decide+kernel)) (j0 (WOk.name k.nm) fun w hw=>WOk.name (N3 K (k.fs w hw)))⟩
theorem a5h{p:Str×Bool}(h:p∈H.fe):Row (a1o p):=by
 refine⟨List.cons_ne_nil _ _,Nat.le_of_ble_eq_true rfl,j0 (WOk.k (by decide+kernel)) (j0 (WOk.name (a0S K (List.mem_map.mpr ⟨p,h,rfl⟩))) (j0 ?_ Row.nil))⟩
 cases p.2<;>exact WOk.k (by decide+kernel)
theorem a2f{r:Ru}(h:r∈H.ru):Row (O7 r):=by
 have k:=K.ruo r h;have l1:=k.b3;have l2:=k.c4;have l3:=k.a3;have l4:=k.o3;refine⟨List.cons_ne_nil _ _,by unfold O7;simp only[List.length_cons,List.length_append];omega,j0 (WOk.k (by decide+kernel)) (j0 (WOk.name k.nm) (j0 (WOk.name (a0S K k.fe)) (a6g (fun w hw=>a9P K (k.b w hw)) (j0 (WOk.k (by decide+kernel)) (a6g (fun w hw=>a9P K (k.c w hw)) (j0 (WOk.k (by decide+kernel)) (a6g (fun w hw=>a9P K (k.a w hw)) (j0 (WOk.k (by decide+kernel)) fun w hw=>WOk.name (N3 K (k.o w hw))))))))))⟩
theorem a6O:∀ws∈L0 H,Row ws:=fun ws h=>by
 unfold L0 at h;simp only[List.mem_append,List.mem_map] at h
 rcases h with((((((⟨x,h,rfl⟩|⟨x,h,rfl⟩)|⟨x,h,rfl⟩)|⟨x,h,rfl⟩)|⟨x,h,rfl⟩)|⟨x,h,rfl⟩)|⟨x,h,rfl⟩)|⟨x,h,rfl⟩
 · exact a3c K h
 · exact a5g K h
 · exact a3d K h
 · exact a0r K h
 · exact a6R K h
 · exact a1d K h
 · exact a5h K h
 · exact a2f K h
theorem a6K{α β:Type}{f:α->β}{l:List α}{s:List β}(h:(l.map f).Sublist s):l.length<=s.length:=by
 have:=h.length_le
 rw[List.length_map] at this;exact this
theorem W8:(L0 H).length<=300/\L0 H≠[]:=by
 have a:=K.sh.hi;have a0:=K.sh.lo;have b:=a6K K K.mr;rw[List.length_map] at b;have c:=K.ptl;have d:=K.ls;have e:=K.gp.length_le;rw[List.length_map] at e;have f:=K.cs;have g:=K.fe;have i:=K.rul
 have l:(L0 H).length=H.sh.length+H.mr.length+H.pt.length+H.ls.length+H.gp.length+H.cs.length+H.fe.length+H.ru.length:=by
  unfold L0;simp only[List.length_append,List.length_map]
 exact⟨by omega,fun z=>by rw[z] at l;simp only[List.length_nil] at l;omega⟩
end
theorem a8U{ws:List Str}(r:Row ws):L7 (ln ws)=ws:=by
 unfold L7;rw[show Txt.split (ln ws) " "=ws from a2a (c:=32) r.n (fun p hp hc=>((r.w p hp).c 32 hc).1 rfl) (a5N ws)]
 exact List.filter_eq_self.mpr fun w hw=>decide_eq_true fun e=>(r.w w hw).p ((a8b w).mp e)
theorem a9K{c x:Nat}:∀{ps:List (List Nat)},x∈jn c ps->x=c∨∃p∈ps,x∈p
 |[],h=>nomatch h
 |[p],h=>.inr ⟨p,.head _,h⟩
 |p::q::r,h=>by
  rcases List.mem_append.mp (show x∈p++c::jn c (q::r) from h) with h|h
  · exact .inr ⟨p,.head _,h⟩
  · rcases List.mem_cons.mp h with h|h
    · exact .inl h
    · rcases a9K h with h|⟨y,hy,h⟩
      · exact .inl h
      · exact .inr ⟨y,.tail _ hy,h⟩
theorem a8T{ws:List Str}(r:Row ws):10∉cd (ln ws):=fun h=>by
 rw[a5N] at h
 rcases a9K h with h|⟨p,hp,h⟩
 · exact absurd h (by decide)
 · obtain⟨w,hw,rfl⟩:=List.mem_map.mp hp;exact((r.w w hw).c 10 h).2 rfl
theorem a6Q{ws:List Str}(r:Row ws):(ln ws).length<=840:=by
 have:=a9H (ws:=ws) (b:=20) fun w hw=>(r.w w hw).l
 have l:=r.l
 have:ws.length*21<=40*21:=Nat.mul_le_mul_right 21 l
 omega
def a5z(H:HL):Str:=Txt.join "\n" ((L0 H).map ln)
theorem a7A{H:HL}(K:HLok H):Txt.split (a5z H) "\n"=(L0 H).map ln:=by
 refine a2a (c:=10) (fun e=>(W8 K).2 (List.map_eq_nil_iff.mp e)) (fun p hp=>?_) ?_
 · obtain⟨ws,hw,rfl⟩:=List.mem_map.mp hp;exact a8T (a6O K ws hw)
 · show cd (Builtin.Str.glued "\n" _)=_
   rw[StrLaws.glued_eq_join];exact a1S 10 _
theorem a5f{H:HL}(K:HLok H):(((L0 H).map ln).map (·.length)).sum<=300*840:=by
 have:=a3K (ws:=(L0 H).map ln) (b:=840) fun w hw=>by
  obtain⟨ws,hq,rfl⟩:=List.mem_map.mp hw;exact a6Q (a6O K ws hq)
 rw[List.length_map] at this;have l:=(W8 K).1;exact Nat.le_trans this (Nat.mul_le_mul_right _ l)
theorem b1o{H:HL}(K:HLok H):(a5z H).length<=1000000:=by
 have:=a5f K
 have l:=(W8 K).1
 show(Builtin.Str.glued "\n" _).length<=_
 rw[StrLaws.glued_eq_join];refine Nat.le_trans (StrLaws.join_length_le _ _) ?_
 rw[List.length_map,show(Str.ofString "\n").length=1 from rfl];omega
theorem b3I{H:HL}(K:HLok H):JoinOk "\n" ((L0 H).map ln)=true:=by
 have:=a5f K
 have l:=(W8 K).1;exact a4j (by rw[List.length_map,show(Str.ofString "\n").length=1 from rfl];omega)
end EV
namespace EV
open PySem L2 L2T
theorem k32:cd (Str.ofString " ")=[32]:=rfl
theorem b1y(n w:Str):(("shape ":Str)++n++(" ":Str))++w=ln ["shape",n,w]:=a3k (by
 simp only[G5,k32,show cd (Str.ofString "shape ")=cd (Str.ofString "shape")++[32] from by decide+kernel,List.map_cons,List.map_nil,jn,List.append_assoc,List.cons_append,List.nil_append])
theorem b6r(n:Str):("gap ":Str)++n=ln ["gap",n]:=a3k (by
 simp only[G5,show cd (Str.ofString "gap ")=cd (Str.ofString "gap")++[32] from by decide+kernel,List.map_cons,List.map_nil,jn,List.append_assoc,List.cons_append,List.nil_append])
theorem b3N(n w:Str):(("feature ":Str)++n++(" ":Str))++w=ln ["feature",n,w]:=a3k (by
 simp only[G5,k32,show cd (Str.ofString "feature ")=cd (Str.ofString "feature")++[32] from by decide+kernel,List.map_cons,List.map_nil,jn,List.append_assoc,List.cons_append,List.nil_append])
theorem b1z(n s a b:Str):((((("point ":Str)++n)++(" ":Str))++s)++(" ":Str))++ln [a,b]=ln ["point",n,s,a,b]:=a3k (by
 simp only[G5,k32,a5N,show cd (Str.ofString "point ")=cd (Str.ofString "point")++[32] from by decide+kernel,List.map_cons,List.map_nil,jn,List.append_assoc,List.cons_append,List.nil_append])
theorem b3M(n s a b c d:Str):((((("mark ":Str)++n)++(" ":Str))++s)++(" ":Str))++((ln [a,b]++(" ":Str))++ln [c,d])=ln ["mark",n,s,a,b,c,d]:=a3k (by
 simp only[G5,k32,a5N,show cd (Str.ofString "mark ")=cd (Str.ofString "mark")++[32] from by decide+kernel,List.map_cons,List.map_nil,jn,List.append_assoc,List.cons_append,List.nil_append])
def b2A:E:=(.bin .add (.bin .add (.bin .add (.k (.str "shape ")) (.v 0)) (.k (.str " "))) (.bi .str (.cons (.v 1) .nil)))
def b7z:E:=(.comp (.tp (.cons (.nm 0) (.cons (.nm 1) .nil))) (.seq (.ix (.v 0) (.k (.int (0))))) 2 [] .yes b2A)
def b2C:Ss:=(.cons (.set 6 (.bin .add (.bin .add (.call 213 (.cons (.v 4) .nil)) (.k (.str " "))) (.call 213 (.cons (.v 5) .nil)))) (.cons (.ex (.mt .append (.v 2) (.cons (.bin .add (.bin .add (.bin .add (.bin .add (.bin .add (.k (.str "mark ")) (.v 1)) (.k (.str " "))) (.v 3)) (.k (.str " "))) (.v 6)) .nil))) .nil))
def b5h:E:=(.bin .add (.bin .add (.bin .add (.bin .add (.bin .add (.k (.str "point ")) (.v 0)) (.k (.str " "))) (.v 1)) (.k (.str " "))) (.call 213 (.cons (.v 2) .nil)))
def b7y:E:=(.comp (.tp (.cons (.nm 0) (.cons (.nm 1) (.cons (.nm 2) .nil)))) (.seq (.ix (.v 0) (.k (.int (2))))) 3 [] .yes b5h)
def b7t:E:=(.bin .add (.lst (.cons (.k (.str "letter")) (.cons (.v 1) (.cons (.v 7) (.cons (.v 8) .nil))))) (.bi .list (.cons (.v 9) .nil)))
def b2B:Ss:=(.cons (.ex (.mt .append (.v 2) (.cons (.mt .join (.k (.str " ")) (.cons b7t .nil)) .nil))) .nil)
def b7x:E:=(.comp (.nm 0) (.seq (.ix (.v 0) (.k (.int (4))))) 1 [] .yes (.bin .add (.k (.str "gap ")) (.v 0)))
def b5f:E:=(.bin .add (.lst (.cons (.k (.str "class")) (.cons (.v 0) .nil))) (.bi .list (.cons (.v 1) .nil)))
def b7w:E:=(.comp (.tp (.cons (.nm 0) (.cons (.nm 1) .nil))) (.seq (.ix (.v 0) (.k (.int (5))))) 2 [] .yes (.mt .join (.k (.str " ")) (.cons b5f .nil)))
def b5g:E:=(.bin .add (.bin .add (.bin .add (.k (.str "feature ")) (.v 0)) (.k (.str " "))) (.ix (.lst (.cons (.k (.str "off")) (.cons (.k (.str "on")) .nil))) (.bi .int (.cons (.v 1) .nil))))
def b7v:E:=(.comp (.tp (.cons (.nm 0) (.cons (.nm 1) .nil))) (.seq (.ix (.v 0) (.k (.int (6))))) 2 [] .yes b5g)
def b7u:E:=(.comp (.nm 0) (.seq (.ix (.v 0) (.k (.int (7))))) 1 [] .yes (.call 214 (.cons (.v 0) .nil)))
def htP(a b c d:Nat):Pat:=.tp (.cons (.nm a) (.cons (.nm b) (.cons (.nm c) (.cons (.nm d) .nil))))
theorem a9T:C0=⟨1,10,1,(.cons (.set 2 b7z) (.cons (.for (htP 1 3 4 5) (.seq (.ix (.v 0) (.k (.int (1))))) b2C) (.cons (.set 2 (.bin .add (.v 2) b7y)) (.cons (.for (htP 1 7 8 9) (.seq (.ix (.v 0) (.k (.int (3))))) b2B) (.cons (.set 2 (.bin .add (.v 2) b7x)) (.cons (.set 2 (.bin .add (.v 2) b7w)) (.cons (.set 2 (.bin .add (.v 2) b7v)) (.cons (.ret (.mt .join (.k (.str "\n")) (.cons (.bin .add (.v 2) b7u) .nil))) .nil))))))))⟩:=rfl
def TS(T:D)(h0:AH)(env:j9)(h:AH)(xs:List Str):Prop:=∃n e1 e3 e4 e5 e6 e7 e8 e9,env=[some T,e1,some (.ref n),e3,e4,e5,e6,e7,e8,e9]/\Pf h0 h/\h0.length<=n/\h[n]? =some (.lst (xs.map .str))
section
variable{ct:CT}{F:Nat->Option Fn}
theorem Y3{α:Type}{c:CF}{p:Pat}{a e:E}{nb s:Nat}{fr:List Nat}{env:j9}{h:AH}{l:List α}(rp:α->D)(f:α->Str)(envf:α->j9)(ha:ev ct c a env h=.ok (.ref s) h)(hs:h[s]? =some (.lst (l.map rp)))(hl:l.length<=1000)
 (hx:∀x∈l,G9 p (rp x) (D9 nb fr env)=some (envf x)/\∀h,∃t,ev ct c e (envf x) h=.ok (.str (f x)) (h++t)):EvL ct c (.comp p (.seq a) nb fr .yes e) env h (l.map f):=by
 obtain⟨t,e⟩:=a5J rp f envf ha hs hl hx;exact⟨(h++t).length,t++[.lst ((l.map f).map .str)],by rw[e,List.append_assoc],by rw[←List.append_assoc];exact b8,.inl (by simp)⟩
theorem b0t{c:CF}{b:E}{env:j9}{h:AH}{xs ys:List Str}{i n:Nat}(e:env[i]? =some (some (.ref n)))(hn:h[n]? =some (.lst (xs.map .str)))(B:EvL ct c b env h ys)(hl:xs.length+ys.length<=1000):EvL ct c (.bin .add (.v i) b) env h (xs++ys):=by
 obtain⟨m,u,b1,b2,_⟩:=B;refine⟨(h++u).length,u++[.lst (xs.map .str++ys.map .str)],?_,by rw[←List.append_assoc,b8,List.map_append],.inl (by simp)⟩
 simp_arith[e,b1,op2,a6F (b7 (g:=u) hn) b2 (by rw[List.length_map,List.length_map];omega)]
 simp
theorem TS.pf{T:D}{h0 h:AH}{env:j9}{xs:List Str}(S:TS T h0 env h xs):Pf h0 h:=by
 obtain⟨n,e1,e3,e4,e5,e6,e7,e8,e9,rfl,p,_⟩:=S;exact p
theorem a1V{T:D}{Tl:List D}{h0 h:AH}{env:j9}{xs:List Str}{c:CF}{i s:Nat}(S:TS T h0 env h xs)(hT:T=.tup Tl)(hi:Tl[i]? =some (.ref s)):ev ct c (.ix (.v 0) (.k (.int (i:Int)))) env h=.ok (.ref s) h:=by
 obtain⟨n,e1,e3,e4,e5,e6,e7,e8,e9,rfl,_⟩:=S;subst hT;simp_arith[ix_tup (h:=h) hi]
theorem a3H{T:D}{h0 h:AH}{env:j9}{xs ys:List Str}{c:CF}{C:E}(S:TS T h0 env h xs)(hC:EvL ct c C env h ys)(hl:xs.length+ys.length<=1000):∃env' h',ex ct c (.set 2 (.bin .add (.v 2) C)) env h=.ok (.nx env') h'/\TS T h0 env' h' (xs++ys):=by
 obtain⟨n,e1,e3,e4,e5,e6,e7,e8,e9,rfl,p,l,g⟩:=S;obtain⟨m,u,c1,c2,_⟩:=hC;refine⟨[some T,e1,some (.ref (h++u).length),e3,e4,e5,e6,e7,e8,e9],h++u++[.lst (xs.map .str++ys.map .str)],?_,_,e1,e3,e4,e5,e6,e7,e8,e9,rfl,(p.app _).app _,by have:=p.len;rw[List.length_append];omega,by rw[List.map_append];exact b8⟩
 simp_arith[c1,op2,a6F (b7 (g:=u) g) c2 (by rw[List.length_map,List.length_map];omega)]
theorem a8B{α:Type}{T:D}{h0 h:AH}{env:j9}{xs:List Str}{c:CF}{p:Pat}{a:E}{s:Nat}{body:Ss}{l:List α}(rp:α->D)(f:α->Str)(S:TS T h0 env h xs)(ha:ev ct c a env h=.ok (.ref s) h)(hs:h0[s]? =some (.lst (l.map rp)))
 (hb:∀x∈l,∀env h xs,TS T h0 env h xs->xs.length<=1000->∃env1 env' h',G9 p (rp x) env=some env1/\exs ct c body env1 h=.ok (.nx env') h'/\TS T h0 env' h' (xs++[f x])) (hl:xs.length+l.length<=1000):∃env' h',ex ct c (.for p (.seq a) body) env h=.ok (.nx env') h'/\TS T h0 env' h' (xs++l.map f):=by
 have S0:=S;obtain⟨n,e1,e3,e4,e5,e6,e7,e8,e9,rfl,pf,_⟩:=S
 obtain⟨env',h',q1,q2⟩:=J1 (g:=[(s,.lst (l.map rp))]) (p:=p) (body:=exs ct c body) (fun j env h=>TS T h0 env h (xs++(l.take j).map f)) (fun j env h S=>by
  obtain⟨n,e1,e3,e4,e5,e6,e7,e8,e9,rfl,pf,_⟩:=S;simp[gOk,pf.at hs]) (l.map rp) 0 _ h (fun j x env h hx hP=>by
  have hj:j<l.length:=by simpa using(List.getElem?_eq_some_iff.mp hx).1
  rw[List.getElem?_map,List.getElem?_eq_getElem hj] at hx
  obtain rfl:rp l[j]=x:=Option.some.inj hx;rw[Nat.zero_add] at hP⊢;obtain⟨env1,env',h',b1,b2,b3⟩:=hb l[j] (List.getElem_mem hj) env h _ hP (by rw[List.length_append,List.length_map,List.length_take];omega)
  refine⟨env1,env',h',b1,b2,?_⟩
  rw[List.take_add_one,List.getElem?_eq_getElem hj,List.map_append,←List.append_assoc]
  exact b3) (by rw[List.take_zero,List.map_nil,List.append_nil];exact S0)
 refine⟨env',h',?_,?_⟩
 · rw[b0r,a4w,ha,k7];simp only[a0q,pf.at hs];rw[k7];exact q1
 · rw[List.length_map,Nat.zero_add,List.take_length] at q2;exact q2
theorem a8C{T:D}{h0 h:AH}{env:j9}{xs:List Str}{c:CF}{e:E}{z:Str}{t:AH}(S:TS T h0 env h xs)(he:ev ct c e env h=.ok (.str z) (h++t))(hl:xs.length<=1000):∃h',ex ct c (.ex (.mt .append (.v 2) (.cons e .nil))) env h=.ok (.nx env) h'/\TS T h0 env h' (xs++[z]):=by
 obtain⟨n,e1,e3,e4,e5,e6,e7,e8,e9,rfl,p,l,g⟩:=S;refine⟨(h++t).set n (.lst (xs.map .str++[.str z])),?_,n,e1,e3,e4,e5,e6,e7,e8,e9,rfl,(p.app _).set l,l,by rw[y7 (b7 g),List.map_append];rfl⟩
 simp_arith[I0 g,he,N2 (b7 (g:=t) g) (by rw[List.length_map];omega)]
theorem a7o{c:CF}{e:E}{env:j9}{h:AH}{ws:List Str}(A:EvL ct c e env h ws)(r:Row ws):∃t,ev ct c (.mt .join (.k (.str " ")) (.cons e .nil)) env h=.ok (.str (ln ws)) (h++t):=a2z A (b3x (fun w hw=>(r.w w hw).l) (by have:=r.l;omega))
theorem a2o:(Str.ofString "shape ").length=6:=rfl
theorem a0P:(Str.ofString "mark ").length=5:=rfl
theorem X0:(Str.ofString "point ").length=6:=rfl
theorem b4I:(Str.ofString "gap ").length=4:=rfl
theorem a4c:(Str.ofString "feature ").length=8:=rfl
theorem a2k{p:Int×Int}(hp:Y9 p):(ln (K9 p)).length<=42:=a9H (ws:=K9 p) (b:=20) (j0 (WOk.num hp.1) (j0 (WOk.num hp.2) Row.nil) · · |>.l)
variable{H:HL}(K:HLok H)
include K
theorem b2W{c:CF}{p:Str×Nat}{h:AH}(hp:p∈H.sh):ev ct c b2A [some (.str p.1),some (.int (p.2:Int))] h=.ok (.str (ln (R8 p))) h:=by
 have k:=K.sh.ok p hp;have l1:=X2 k.1;have l2:=a1O (i:=(p.2:Int)) (by have:=k.2;omega)
 unfold b2A;simp_arith[op2,o6 (h:=h) (x:="shape ") (y:=p.1) (by rw[a2o];omega),o6 (h:=h) (x:=("shape ":Str)++p.1) (y:=" ") (by rw[k8,a2o,E6];omega),a5Y (i:=(p.2:Int)) (h:=h) (by have:=k.2;omega),o6 (h:=h) (x:=("shape ":Str)++p.1++(" ":Str)) (y:=num p.2) (by rw[k8,k8,a2o,E6];omega),b1y]
 rfl
theorem b7V{c:CF}{n:Str}{h:AH}(hn:n∈H.gp):ev ct c (.bin .add (.k (.str "gap ")) (.v 0)) [some (.str n)] h=.ok (.str (ln (a4R n))) h:=by
 have l1:=X2 (a4q K hn);simp_arith[op2,o6 (h:=h) (x:="gap ") (y:=n) (by rw[b4I];omega),b6r]
 rfl
theorem b5A{c:CF}{p:Str×Bool}{h:AH}(hp:p∈H.fe):∃t,ev ct c b5g [some (.str p.1),some (.bl p.2)] h=.ok (.str (ln (a1o p))) (h++t):=by
 have l1:=X2 (a0S K (List.mem_map.mpr ⟨p,hp,rfl⟩))
 have lo:(a7V p.2).length<=20:=by cases p.2<;>decide
 have ib:biD .int (h++[.lst [.str "off",.str "on"]]) [.bl p.2]=.ok (.int ((if p.2 then 1 else 0:Nat):Int)) (h++[.lst [.str "off",.str "on"]]):=by cases p.2<;>rfl
 have ix:ixD (h++[.lst [.str "off",.str "on"]]) (.ref h.length) (.int ((if p.2 then 1 else 0:Nat):Int))=.ok (.str (a7V p.2)) (h++[.lst [.str "off",.str "on"]]):=B0 b8 (by cases p.2<;>rfl)
 refine⟨[.lst [.str "off",.str "on"]],?_⟩
 unfold b5g;simp_arith[op2,o6 (h:=h) (x:="feature ") (y:=p.1) (by rw[a4c];omega),o6 (h:=h) (x:=("feature ":Str)++p.1) (y:=" ") (by rw[k8,a4c,E6];omega),x5,ib,ix,o6 (h:=h++[.lst [.str "off",.str "on"]]) (x:=("feature ":Str)++p.1++(" ":Str)) (y:=a7V p.2) (by rw[k8,k8,a4c,E6];omega),b3N]
 rfl
theorem b2Z{c:CF}{x:Cs}{h:AH}(hx:x∈H.cs):∃t,ev ct c (.mt .join (.k (.str " ")) (.cons b5f .nil)) [some (.str x.n),some (.tup (x.fs.map .str))] h=.ok (.str (ln (R9 x))) (h++t):=by
 have r:=a1d K hx;have l:=r.l;have A:=O2 (a0b (ct:=ct) (c:=c) (es:=(.cons (.k (.str "class")) (.cons (.v 0) .nil))) (env:=[some (.str x.n),some (.tup (x.fs.map .str))]) (h:=h) (xs:=["class",x.n]) (by simp_arith[]) (by show 2<=1000;decide)) (fun t=>U3 (a:=.v 1) (xs:=x.fs) (by simp_arith[])) (by unfold R9 at l;simp only[List.length_cons,List.length_nil] at l⊢;omega)
 exact a7o (e:=b5f) A r
theorem b0N{T:D}{h0 h:AH}{env:j9}{xs:List Str}{c:CF}{x:Lt}(hx:x∈H.ls)(S:TS T h0 env h xs)(hl:xs.length<=1000):∃env1 env' h',G9 (htP 1 7 8 9) (ltD x) env=some env1/\exs ct c b2B env1 h=.ok (.nx env') h'/\TS T h0 env' h' (xs++[ln (L8 x)]):=by
 have r:=a0r K hx;have l:=r.l;obtain⟨n,e1,e3,e4,e5,e6,e7,e8,e9,rfl,p,ln',g⟩:=S
 have S1:TS T h0 [some T,some (.str x.n),some (.ref n),e3,e4,e5,e6,some (.str x.j),some (.str x.w),some (.tup (x.fs.map .str))] h xs:=⟨n,_,_,_,_,_,_,_,_,rfl,p,ln',g⟩
 have A:=O2 (a0b (ct:=ct) (c:=c) (es:=(.cons (.k (.str "letter")) (.cons (.v 1) (.cons (.v 7) (.cons (.v 8) .nil))))) (env:=[some T,some (.str x.n),some (.ref n),e3,e4,e5,e6,some (.str x.j),some (.str x.w),some (.tup (x.fs.map .str))]) (h:=h) (xs:=["letter",x.n,x.j,x.w]) (by simp_arith[]) (by show 4<=1000;decide)) (fun t=>U3 (a:=.v 9) (xs:=x.fs) (by simp_arith[])) (by unfold L8 at l;simp only[List.length_cons,List.length_nil] at l⊢;omega)
 obtain⟨t,q⟩:=a7o (e:=b7t) A r;obtain⟨h',q1,q2⟩:=a8C S1 q hl;refine⟨_,_,h',rfl,?_,q2⟩
 unfold b2B
 show exs ct c _ [some T,some (.str x.n),some (.ref n),e3,e4,e5,e6,some (.str x.j),some (.str x.w),some (.tup (x.fs.map .str))] h=_
 rw[seq q1,a4u]
variable(f213:F 213=some w8)
include f213
theorem b2X{k:Nat}{p:Pt}{h:AH}(hp:p∈H.pt):ev ct (b6 ct F (k+1)) b5h [some (.str p.n),some (.str p.s),some (spD p.a)] h=.ok (.str (ln (W3 p))) h:=by
 obtain⟨k1,k2,k3⟩:=K.pto p hp;have l1:=X2 (N3 K k1);have l2:=(a6L K k2).l;have l3:=a2k k3;unfold b5h;simp_arith[op2,a2j (ct:=ct) (k:=k) (h:=h) f213 k3,o6 (h:=h) (x:="point ") (y:=p.n) (by rw[X0];omega),o6 (h:=h) (x:=("point ":Str)++p.n) (y:=" ") (by rw[k8,X0,E6];omega),o6 (h:=h) (x:=("point ":Str)++p.n++(" ":Str)) (y:=p.s) (by rw[k8,k8,X0,E6];omega),o6 (h:=h) (x:=("point ":Str)++p.n++(" ":Str)++p.s) (y:=" ") (by rw[k8,k8,k8,X0,E6];omega),o6 (h:=h) (x:=("point ":Str)++p.n++(" ":Str)++p.s++(" ":Str)) (y:=ln (K9 p.a)) (by rw[k8,k8,k8,k8,X0,E6];omega)]
 unfold K9;rw[b1z];rfl
theorem b5P{k:Nat}{T:D}{h0 h:AH}{env:j9}{xs:List Str}{x:Mk}(hx:x∈H.mr)(S:TS T h0 env h xs)(hl:xs.length<=1000):∃env1 env' h',G9 (htP 1 3 4 5) (mkD x) env=some env1/\exs ct (b6 ct F (k+1)) b2C env1 h=.ok (.nx env') h'/\TS T h0 env' h' (xs++[ln (T6 x)]):=by
 obtain⟨k1,k2,k3⟩:=K.mko x hx;have l1:=X2 (N3 K (a4e K hx));have l2:=(a6L K k1).l;have l3:=a2k k2;have l4:=a2k k3;obtain⟨n,e1,e3,e4,e5,e6,e7,e8,e9,rfl,p,ln',g⟩:=S
 have S1:TS T h0 [some T,some (.str x.n),some (.ref n),some (.str x.s),some (spD x.a),some (spD x.b),some (.str ((ln (K9 x.a)++(" ":Str))++ln (K9 x.b))),e7,e8,e9] h xs:=⟨n,_,_,_,_,_,_,_,_,rfl,p,ln',g⟩
 have q:ev ct (b6 ct F (k+1)) (.bin .add (.bin .add (.bin .add (.bin .add (.bin .add (.k (.str "mark ")) (.v 1)) (.k (.str " "))) (.v 3)) (.k (.str " "))) (.v 6)) [some T,some (.str x.n),some (.ref n),some (.str x.s),some (spD x.a),some (spD x.b),some (.str ((ln (K9 x.a)++(" ":Str))++ln (K9 x.b))),e7,e8,e9] h=.ok (.str (ln (T6 x))) (h++[]):=by
  rw[List.append_nil];simp_arith[op2,o6 (h:=h) (x:="mark ") (y:=x.n) (by rw[a0P];omega),o6 (h:=h) (x:=("mark ":Str)++x.n) (y:=" ") (by rw[k8,a0P,E6];omega),o6 (h:=h) (x:=("mark ":Str)++x.n++(" ":Str)) (y:=x.s) (by rw[k8,k8,a0P,E6];omega),o6 (h:=h) (x:=("mark ":Str)++x.n++(" ":Str)++x.s) (y:=" ") (by rw[k8,k8,k8,a0P,E6];omega),o6 (h:=h) (x:=("mark ":Str)++x.n++(" ":Str)++x.s++(" ":Str)) (y:=ln (K9 x.a)++(" ":Str)++ln (K9 x.b)) (by rw[k8,k8,k8,k8,k8,k8,a0P,E6];omega)]
  unfold K9;rw[b3M];rfl
 obtain⟨h',q1,q2⟩:=a8C S1 q hl;refine⟨_,_,h',rfl,?_,q2⟩
 unfold b2C
 show exs ct (b6 ct F (k+1)) _ [some T,some (.str x.n),some (.ref n),some (.str x.s),some (spD x.a),some (spD x.b),e6,e7,e8,e9] h=_
 rw[seq (env':=[some T,some (.str x.n),some (.ref n),some (.str x.s),some (spD x.a),some (spD x.b),some (.str ((ln (K9 x.a)++(" ":Str))++ln (K9 x.b))),e7,e8,e9]) (h':=h) (by simp_arith[op2,a2j (ct:=ct) (k:=k) (h:=h) f213 k2,a2j (ct:=ct) (k:=k) (h:=h) f213 k3,o6 (h:=h) (x:=ln (K9 x.a)) (y:=" ") (by rw[E6];omega),o6 (h:=h) (x:=ln (K9 x.a)++(" ":Str)) (y:=ln (K9 x.b)) (by rw[k8,E6];omega)]),seq q1,a4u]
theorem a9X{k:Nat}{h:AH}{a b c d e f i j:Nat}(f214:F 214=some w5)(f215:F 215=some C0)(A:HAt H h a b c d e f i j):b6 ct F (k+2) 215 [.tup [.ref a,.ref b,.ref c,.ref d,.ref e,.ref f,.ref i,.ref j]] h=.ok (.str (a5z H)) h:=by
 rw[n0 f215 rfl];simp only[a9T];generalize hT:D.tup [.ref a,.ref b,.ref c,.ref d,.ref e,.ref f,.ref i,.ref j]=T
 show gcR 1 h (W9 (exs ct (b6 ct F (k+1)) _ [some T,none,none,none,none,none,none,none,none,none] h))=_
 have rl:=(W8 K).1
 have ll:H.sh.length+H.mr.length+H.pt.length+H.ls.length+H.gp.length+H.cs.length+H.fe.length+H.ru.length<=300:=by
  unfold L0 at rl;simp only[List.length_append,List.length_map] at rl;exact rl
 obtain⟨t0,c0⟩:=a5J (ct:=ct) (c:=b6 ct F (k+1)) (p:=(.tp (.cons (.nm 0) (.cons (.nm 1) .nil)))) (a:=(.ix (.v 0) (.k (.int (0))))) (e:=b2A) (nb:=2) (fr:=[]) (env:=[some T,none,none,none,none,none,none,none,none,none]) (h:=h) (l:=H.sh) (s:=a) (fun p=>.tup [.str p.1,.int (p.2:Int)]) (fun p=>ln (R8 p)) (fun p=>[some (.str p.1),some (.int (p.2:Int))]) (by rw[←hT];simp_arith[a0p]) A.sh (by omega) (fun x hx=>⟨rfl,fun h=>⟨[],by rw[List.append_nil];exact b2W K hx⟩⟩)
 have S0:TS T h [some T,none,some (.ref (h++t0).length),none,none,none,none,none,none,none] (h++t0++[.lst ((H.sh.map fun p=>ln (R8 p)).map .str)]) (H.sh.map fun p=>ln (R8 p)):=⟨_,_,_,_,_,_,_,_,_,rfl,((Pf.refl h).app _).app _,by simp,b8⟩
 rw[seq (env':=[some T,none,some (.ref (h++t0).length),none,none,none,none,none,none,none]) (by unfold b7z;rw[a4v,c0,k7];rfl)]
 obtain⟨env1,h1,q1,S1⟩:=a8B (l:=H.mr) (a:=(.ix (.v 0) (.k (.int (1))))) (p:=htP 1 3 4 5) (body:=b2C) (c:=b6 ct F (k+1)) mkD (fun m=>ln (T6 m)) S0 (a1V (i:=1) S0 hT.symm rfl) A.mr (fun x hx env h xs S hl=>b5P K f213 hx S hl) (by rw[List.length_map];omega)
 rw[seq q1];obtain⟨env2,h2,q2,S2⟩:=a3H (ct:=ct) (c:=b6 ct F (k+1)) (C:=b7y) S1 (Y3 (a:=(.ix (.v 0) (.k (.int (2))))) (l:=H.pt) ptD (fun p=>ln (W3 p)) (fun p=>[some (.str p.n),some (.str p.s),some (spD p.a)]) (a1V (i:=2) S1 hT.symm rfl) (S1.pf.at A.pt) (by omega) (fun x hx=>⟨rfl,fun h=>⟨[],by rw[List.append_nil];exact b2X K f213 hx⟩⟩)) (by simp only[List.length_append,List.length_map];omega)
 rw[seq q2];obtain⟨env3,h3,q3,S3⟩:=a8B (l:=H.ls) (a:=(.ix (.v 0) (.k (.int (3))))) (p:=htP 1 7 8 9) (body:=b2B) (c:=b6 ct F (k+1)) ltD (fun m=>ln (L8 m)) S2 (a1V (i:=3) S2 hT.symm rfl) A.ls (fun x hx env h xs S hl=>b0N K hx S hl) (by simp only[List.length_append,List.length_map];omega)
 rw[seq q3];obtain⟨env4,h4,q4,S4⟩:=a3H (ct:=ct) (c:=b6 ct F (k+1)) (C:=b7x) S3 (Y3 (a:=(.ix (.v 0) (.k (.int (4))))) (l:=H.gp) .str (fun p=>ln (a4R p)) (fun p=>[some (.str p)]) (a1V (i:=4) S3 hT.symm rfl) (S3.pf.at A.gp) (by omega) (fun x hx=>⟨rfl,fun h=>⟨[],by rw[List.append_nil];exact b7V K hx⟩⟩)) (by simp only[List.length_append,List.length_map];omega)
 rw[seq q4];obtain⟨env5,h5,q5,S5⟩:=a3H (ct:=ct) (c:=b6 ct F (k+1)) (C:=b7w) S4 (Y3 (a:=(.ix (.v 0) (.k (.int (5))))) (l:=H.cs) csD (fun p=>ln (R9 p)) (fun p=>[some (.str p.n),some (.tup (p.fs.map .str))]) (a1V (i:=5) S4 hT.symm rfl) (S4.pf.at A.cs) (by omega) (fun x hx=>⟨rfl,fun h=>b2Z K hx⟩)) (by simp only[List.length_append,List.length_map];omega)
 rw[seq q5];obtain⟨env6,h6,q6,S6⟩:=a3H (ct:=ct) (c:=b6 ct F (k+1)) (C:=b7v) S5 (Y3 (a:=(.ix (.v 0) (.k (.int (6))))) (l:=H.fe) feD (fun p=>ln (a1o p)) (fun p=>[some (.str p.1),some (.bl p.2)]) (a1V (i:=6) S5 hT.symm rfl) (S5.pf.at A.fe) (by omega) (fun x hx=>⟨rfl,fun h=>b5A K hx⟩)) (by simp only[List.length_append,List.length_map];omega)
 rw[seq q6]
 have B:=Y3 (ct:=ct) (c:=b6 ct F (k+1)) (p:=.nm 0) (nb:=1) (fr:=[]) (e:=(.call 214 (.cons (.v 0) .nil))) (a:=(.ix (.v 0) (.k (.int (7))))) (l:=H.ru) ruD (fun p=>ln (O7 p)) (fun p=>[some (ruD p)]) (a1V (i:=7) S6 hT.symm rfl) (S6.pf.at A.ru) (by omega) (fun x hx=>⟨rfl,fun h=>⟨[],by
  have r:=a2f K hx;rw[List.append_nil];simp_arith[a8S (ct:=ct) (k:=k) (h:=h) (r:=x) f214 (by have:=r.l;omega) fun w hw=>(r.w w hw).l]⟩⟩)
 obtain⟨n,e1,e3,e4,e5,e6,e7,e8,e9,rfl,p,l,g⟩:=S6
 have C:EvL ct (b6 ct F (k+1)) (.bin .add (.v 2) b7u) [some T,e1,some (.ref n),e3,e4,e5,e6,e7,e8,e9] h6 ((L0 H).map ln):=by
  have e:(L0 H).map ln=((((((((H.sh.map fun p=>ln (R8 p))++H.mr.map fun p=>ln (T6 p))++H.pt.map fun p=>ln (W3 p))++H.ls.map fun p=>ln (L8 p))++H.gp.map fun p=>ln (a4R p))++H.cs.map fun p=>ln (R9 p))++H.fe.map fun p=>ln (a1o p))++H.ru.map fun p=>ln (O7 p)):=by
   unfold L0;simp only[List.map_append,List.map_map];rfl
  rw[e];exact b0t rfl g B (by simp only[List.length_append,List.length_map];omega)
 obtain⟨t,z⟩:=a2z C (b3I K);rw[a0T,a6v,z,k7,k7]
 show gcR 1 h (.ok (.str (a5z H)) (h6++t))=_
 exact b7C (p.app t) rfl
end
end EV
namespace EV
open PySem L2 L2T
theorem b3t{s:Str}(h:a0g s):inD (.str s) [.str "above",.str "below"]=true:=by rcases h with rfl|rfl<;>decide
theorem Y5{a b c:Bool}(ha:a=false)(hb:b=true)(hc:c=false):due a b c=none:=by subst ha hb hc;rfl
theorem nin{α:Type}[DecidableEq α]{a:α}{l:List α}(h:a∉l):decide (a∈l)=false:=decide_eq_false h
theorem P9{z:Str}(h:d0 z=true):z.length<=100000:=by have:=X2 h;omega
theorem a3r(xs:List Str):(xs.map D.str).all p7=true:=by
 rw[List.all_map];exact List.all_eq_true.mpr fun _ _=>rfl
theorem a4m(x:Str):∀xs:List Str,inD (.str x) (xs.map .str)=decide (x∈xs)
 |[]=>rfl
 |y::r=>by
  have ih:=a4m x r;unfold inD at ih⊢;rw[List.map_cons,List.any_cons,ih]
  show(decide (y=x)||decide (x∈r))=_
  by_cases e:y=x
  · subst e;simp
  · rw[decide_eq_false e,Bool.false_or];exact decide_eq_decide.mpr ⟨fun z=>.tail _ z,fun z=>(List.mem_cons.mp z).resolve_left fun q=>e q.symm⟩
section
variable{ct:CT}{F:Nat->Option Fn}(W:PF F)
include W
theorem b0Q{k n w f:Nat}{x:Str}{h:AH}{d9:List D}{r:R D}(hw:h[w]? =some (.lst (.str x::d9)))(hr:b6 ct F k f [.ref n,.ref w] h=r)(hx:(x,f)∈[(("mark":Str),19),("gap",23)]):b6 ct F (k+1) 13 [.ref n,.ref w] h=r:=by
 rw[←hr,n0 W.f13 rfl];simp only[z4];rw[gc0];simp only[List.mem_cons,List.not_mem_nil,or_false,Prod.mk.injEq] at hx
 rcases hx with⟨rfl,rfl⟩|⟨rfl,rfl⟩
 · simp_arith[r8 0 0 rfl hw rfl,op2,G0,eqS,decide_true,decide_false];generalize b6 ct F k 19 [.ref n,.ref w] h=r
   cases r<;>simp_arith[]
 · simp_arith[r8 0 0 rfl hw rfl,op2,G0,eqS,decide_true,decide_false];generalize b6 ct F k 23 [.ref n,.ref w] h=r
   cases r<;>simp_arith[]
theorem HallAt.s5{h:AH}{n:Nat}{H:HD}(A:HallAt h n H)(l:List Str):HallAt (h.set (n+5) (.lst (l.map .str))) n {H with gaps:=l}:=
 ⟨b9 (by omega) A.o,b9 (by omega) A.c1,b9 (by omega) A.c2,b9 (by omega) A.c3,b9 (by omega) A.c4,y7 A.c5,b9 (by omega) A.c6,b9 (by omega) A.c7,b9 (by omega) A.c8⟩
variable{d:Nat}{H:HD}
theorem b0a{p:Str×Nat}(hn:d0 p.1=true)(hw:p.2<99999)(h1:p.1∉H.shapes.map (·.1))(hl:H.shapes.length<60):W2 ct F (d+9) H (R8 p) none {H with shapes:=H.shapes++[(p.1,.int (p.2:Int))]}:=by
 have:=a8G (ct:=ct) (d:=d) (H:=H) W hn (a2m (n:=p.2) (by omega))
 rw[Y5 (nin h1) rfl (decide_eq_false (by omega))] at this
 exact this
theorem b2I{p:Str×Bool}(hn:d0 p.1=true)(h1:p.1∉H.features.map (·.1))(hl:H.features.length<10):W2 ct F (d+9) H (a1o p) none {H with features:=H.features++[(p.1,.bl p.2)]}:=by
 have:=a5W (ct:=ct) (d:=d) (H:=H) (b:=a7V p.2) W hn (by cases p.2;exact .inr rfl;exact .inl rfl)
 rw[Y5 (nin h1) rfl (decide_eq_false (by omega)),show decide (a7V p.2="on")=p.2 by cases p.2<;>decide+kernel] at this
 exact this
theorem a8j{l:Lt}{sh:List (Str×Nat)}(o:LtOk sh l)(hs:∀f∈l.fs,d0 f=true/\f∈H.shapes.map (·.1))(h1:l.n∉H.letters.map (·.1))(hl:H.letters.length<24):W2 ct F (d+9) H (L8 l) none {H with letters:=H.letters++[(l.n,.tup [.str l.j,.str l.w,.tup (l.fs.map .str)])]}:=by
 intro h n w A hw
 have:=a1W (ct:=ct) (k:=d+3) (d9:=l.fs) W A hw o.nm (P9 o.nm) o.jn o.wy (List.all_eq_true.mpr fun f hf=>(hs f hf).1) (fun y hy=>P9 (hs y hy).1) (by have:=o.few;omega)
 rw[Y5 (nin h1) (List.all_eq_true.mpr fun f hf=>decide_eq_true (hs f hf).2) (decide_eq_false (by omega))] at this
 rw[a7D W hw,this];exact⟨_,rfl,(Fr.app n h _).trans (Fr.set (by omega) (by omega)),(A.app _).s4 _⟩
theorem b0c{c:Cs}{sh:List (Str×Nat)}(o:CsOk sh c)(hs:∀f∈c.fs,d0 f=true/\f∈H.shapes.map (·.1))(h1:c.n∉H.classes.map (·.1))(hl:H.classes.length<20):W2 ct F (d+9) H (R9 c) none {H with classes:=H.classes++[(c.n,.tup (c.fs.map .str))]}:=by
 intro h n w A hw
 have:=a2P (ct:=ct) (k:=d+3) (d9:=c.fs) W A hw o.nm (P9 o.nm) (List.all_eq_true.mpr fun f hf=>(hs f hf).1) (fun y hy=>P9 (hs y hy).1) o.few.1 o.few.2
 rw[Y5 (nin h1) (List.all_eq_true.mpr fun f hf=>decide_eq_true (hs f hf).2) (decide_eq_false (by omega))] at this
 rw[a8F W hw,this];exact⟨_,rfl,(Fr.app n h _).trans (Fr.set (by omega) (by omega)),(A.app _).s6 _⟩
theorem b0b{p:Pt}(hn:d0 p.n=true)(hs:a0g p.s)(ha:Y9 p.a)(h1:ptK p∉H.points.map (·.1))(h2:p.n∈H.shapes.map (·.1))(hl:H.points.length<=1000):W2 ct F (d+9) H (W3 p) none {H with points:=H.points++[(ptK p,spD p.a)]}:=by
 intro h n w A hw
 have:=a2O (ct:=ct) (k:=d+2) W A hw hn (P9 hn) (b3t hs) (G7 ha.1) (G7 ha.2) (by omega)
 have h1:(p.n,p.s)∉H.points.map (·.1):=h1
 rw[Y5 (decide_eq_false h1) (decide_eq_true h2) rfl] at this;rw[a8E W hw];exact this
theorem b5i{g:Str}(hn:d0 g=true)(h1:g∉H.gaps)(h2:g∈H.letters.map (·.1))(hl:H.gaps.length<=1000):W2 ct F (d+9) H (a4R g) none {H with gaps:=H.gaps++[g]}:=by
 intro h n w A hw
 have hw:h[w]? =some (.lst [.str "gap",.str g]):=hw
 have hg:U9 false h (.str g) (.ref (n+5))=.ok (.bl false) h:=by
  simp only[U9,A.c5];rw[if_pos (by rw[a3r];rfl),a4m,nin h1]
  rfl
 have e:b6 ct F (d+8) 23 [.ref n,.ref w] h=.ok .non (h.set (n+5) (.lst ((H.gaps++[g]).map .str))):=by
  rw[n0 W.f23 rfl];simp only[V4];rw[gc0];simp_arith[p8 hw,op2,a0v,eqS,r8 1 1 rfl hw rfl,F5 W (P9 hn),hn,A.fld5,A.fld4,hg,W1 A.c4,decide_eq_true h2,y8 W,Y5 rfl rfl rfl,T5,Int.cast_ofNat_Int,decide_true,Bool.not_true,I0 A.c5,N2 (d:=.str g) A.c5 (by rw[List.length_map];omega)]
  rw[List.map_append];rfl
 rw[b0Q W hw e (.tail _ (.head _))];exact⟨_,rfl,Fr.set (by omega) (by omega),HallAt.s5 W A _⟩
theorem b2H{m:Mk}(hn:d0 m.n=true)(hs:a0g m.s)(ha:Y9 m.a)(hb:Y9 m.b)(h1:m.n∉H.marks.map (·.1))(h2:m.n∈H.shapes.map (·.1))(hl:H.marks.length<=1000):W2 ct F (d+9) H (T6 m) none {H with marks:=H.marks++[(m.n,.tup [.str m.s,spD m.a,spD m.b])]}:=by
 intro h n w A hw
 have hf:b6 ct F (d+7) 18 [.ref w,.int 4] h=.ok (.bl true) h:=a0L (k:=d+2) (ws:=[num m.a.1,num m.a.2,num m.b.1,num m.b.2]) W hw hn (P9 hn) (b3t hs) rfl (by simp[a5b,G7 ha.1,G7 ha.2,G7 hb.1,G7 hb.2]) (fun y hy=>by
  have:=(j0 (WOk.num ha.1) (j0 (WOk.num ha.2) (j0 (WOk.num hb.1) (j0 (WOk.num hb.2) Row.nil))) y hy).l
  omega) (by simp)
 have e35:O3 ((T6 m).map .str) (some 3) (some 5)=[.str (num m.a.1),.str (num m.a.2)]:=a0d 3 5 ((T6 m).map .str) (by decide) (Nat.le_of_ble_eq_true rfl)
 have e57:O3 ((T6 m).map .str) (some 5) (some 7)=[.str (num m.b.1),.str (num m.b.2)]:=a0d 5 7 ((T6 m).map .str) (by decide) (Nat.le_of_ble_eq_true rfl)
 have A2:=(A.app [.lst [.str (num m.a.1),.str (num m.a.2)]]).app [.lst [.str (num m.b.1),.str (num m.b.2)]];have hw1:=b7 (g:=[.lst [.str (num m.a.1),.str (num m.a.2)]]) hw
 have e:b6 ct F (d+8) 19 [.ref n,.ref w] h=.ok .non ((h++[Cell.lst [D.str (num m.a.1),D.str (num m.a.2)]]++[Cell.lst [D.str (num m.b.1),D.str (num m.b.2)]]).set (n+2) (Cell.dict (kd (H.marks++[(m.n,D.tup [.str m.s,spD m.a,spD m.b])])))):=by
  rw[n0 W.f19 rfl];simp only[Q8];rw[gc0];simp_arith[hf,Bool.not_true,r8 1 1 rfl hw rfl,r8 2 2 rfl hw rfl,op2,A.fld2,W1 A.c2,A.fld1,W1 A.c1,y8 W,Y5 (nin h1) (decide_eq_true h2) rfl,T5,decide_true,L1 hw,e35,a3W W (b8 (h:=h)) (G7 ha.1) (G7 ha.2),L1 hw1,e57,a3W W (b8 (h:=h++[Cell.lst [.str (num m.a.1),.str (num m.a.2)]])) (G7 hb.1) (G7 hb.2),A2.fld2,W7 A2.c2 h1 (show _<16777216 by omega)]
  rfl
 rw[b0Q W hw e (.head _)];exact⟨_,rfl,((Fr.app n h _).trans (Fr.app n _ _)).trans (Fr.set (by omega) (by omega)),A2.s2 _⟩
theorem a9Q{sh:List (Str×Nat)}{cs:List Cs}{i:Str}(ho:a1A sh cs i)(hs:∀f∈sh.map (·.1),d0 f=true/\f∈H.shapes.map (·.1))(hc:∀c∈cs,d0 c.n=true/\c.n∈H.classes.map (·.1)):T3 i=true/\L5 H i=true/\i.length<=100000:=by
 rcases ho with ho|⟨c,hm,rfl⟩
 · have k:=hs i ho;unfold T3 L5;rw[b2p W k.1,k.1,if_neg Bool.false_ne_true];exact⟨rfl,decide_eq_true k.2,P9 k.1⟩
 · have k:=hc c hm
   have hd:cd (("@":Str)++c.n)=64::cd c.n:=by rw[G5];rfl
   have ht:tl (("@":Str)++c.n)=c.n:=Y7 (by rw[a3z,hd];rfl)
   have hk:M4 (("@":Str)++c.n)=true:=by
    unfold M4;rw[ht,k.1,hd];rfl
   have:=(WOk.at k.1).l
   unfold T3 L5;rw[hk,Bool.or_true,if_pos rfl,ht];exact⟨rfl,decide_eq_true k.2,by omega⟩
theorem b2G{r:Ru}{sh:List (Str×Nat)}{cs:List Cs}{fe:List (Str×Bool)}(o:RuOk sh cs fe r)(hs:∀f∈sh.map (·.1),d0 f=true/\f∈H.shapes.map (·.1))(hc:∀c∈cs,d0 c.n=true/\c.n∈H.classes.map (·.1))(hf:d0 r.f=true/\r.f∈H.features.map (·.1))(h1:r.t∉H.rules.map (·.1))(hl:H.rules.length<30):W2 ct F (d+9) H (O7 r) none {H with rules:=H.rules++[(r.t,[.str r.f,.tup (r.b.map .str),.tup (r.c.map .str),.tup (r.a.map .str),.tup (r.o.map .str)])]}:=by
 intro h n w A hw
 have hi:∀i∈r.b++r.c++r.a,T3 i=true/\L5 H i=true/\i.length<=100000:=fun i hi=>by
  rcases List.mem_append.mp hi with hi|hi
  · rcases List.mem_append.mp hi with hi|hi
    · exact a9Q W (o.b i hi) hs hc
    · exact a9Q W (o.c i hi) hs hc
  · exact a9Q W (o.a i hi) hs hc
 have ho:∀i∈r.o,d0 i=true/\i∈H.shapes.map (·.1):=fun i hi=>hs i (o.o i hi)
 have rf:RuleForm r.t r.f r.b r.c r.a r.o:=⟨o.nm,hf.1,o.b3,o.c4.1,o.c4.2,o.a3,o.o3.1,o.o3.2,List.all_eq_true.mpr fun i h=>(hi i h).1,List.all_eq_true.mpr fun i h=>(ho i h).1,fun y hy=>by
  rcases List.mem_cons.mp hy with rfl|hy
  · exact P9 o.nm
  · rcases List.mem_cons.mp hy with rfl|hy
    · exact P9 hf.1
    · rcases List.mem_append.mp hy with hy|hy
      · exact(hi y hy).2.2
      · exact P9 (ho y hy).1⟩
 have:=a3I (ct:=ct) (k:=d+1) W A (by omega) (x:="rule") (t:=r.t) (f:=r.f) (bef:=r.b) (core:=r.c) (aft:=r.a) (told:=r.o) hw rf
 rw[Y5 (nin h1) (by
  rw[decide_eq_true hf.2,List.all_eq_true.mpr fun i h=>(hi i h).2.1,List.all_eq_true.mpr fun i h=>decide_eq_true (ho i h).2]
  rfl) (decide_eq_false (by omega))] at this
 rw[b1w W hw];exact this
end
theorem F9{ct:CT}{F:Nat->Option Fn}{d:Nat}{α:Type}{full:List α}{d9:List Str}{H':HD}(wf:α->List Str)(U:List α->HD)(hR:∀x∈full,Row (wf x))(hst:∀pre x post,full=pre++x::post->W2 ct F d (U pre) (wf x) none (U (pre++[x])))(hT:Reads ct F d (U full) d9 H'):∀(l pre:List α),full=pre++l->Reads ct F d (U pre) (l.map (fun x=>ln (wf x))++d9) H'
 |[],pre,e=>by
  rw[List.append_nil] at e;subst e;exact hT
 |x::l,pre,e=>by
  have r:=hR x (by rw[e];exact List.mem_append_right _ (.head _))
  have b:=a8U r
  have:=a6Q r
  refine .take (H1:=U (pre++[x])) (show(ln (wf x)).length<=100000 by omega) (by rw[b];exact r.n) (by rw[b];exact hst pre x l e) (F9 wf U hR hst hT l (pre++[x]) (by rw[e];simp))
theorem K3{α β:Type}{f:α->β}{full pre post:List α}{x:α}(h:(full.map f).Nodup)(e:full=pre++x::post):f x∉pre.map f:=fun m=>by
 rw[e,List.map_append,List.map_cons] at h;exact(List.nodup_append.mp h).2.2 _ m _ (.head _) rfl
theorem J7{α:Type}{full pre post:List α}{x:α}(e:full=pre++x::post):pre.length<full.length/\x∈full:=by
 rw[e];exact⟨by simp only[List.length_append,List.length_cons];omega,List.mem_append_right _ (.head _)⟩
def hS(H:HL):List (Str×D):=H.sh.map fun p=>(p.1,.int (p.2:Int))
def hM(l:List Mk):List (Str×D):=l.map fun m=>(m.n,.tup [.str m.s,spD m.a,spD m.b])
def hP(l:List Pt):List ((Str×Str)×D):=l.map fun p=>(ptK p,spD p.a)
def hL(l:List Lt):List (Str×D):=l.map fun l=>(l.n,.tup [.str l.j,.str l.w,.tup (l.fs.map .str)])
def hC(l:List Cs):List (Str×D):=l.map fun c=>(c.n,.tup (c.fs.map .str))
def hF(l:List (Str×Bool)):List (Str×D):=l.map fun p=>(p.1,.bl p.2)
def hR(l:List Ru):List (Str×List D):=l.map fun r=>(r.t,[.str r.f,.tup (r.b.map .str),.tup (r.c.map .str),.tup (r.a.map .str),.tup (r.o.map .str)])
def a9W(H:HL):HD:=⟨hS H,hM H.mr,hP H.pt,hL H.ls,H.gp,hC H.cs,hF H.fe,hR H.ru⟩
theorem a2v{α β:Type}(k:α->Str)(v:α->β)(l:List α):(l.map fun x=>(k x,v x)).map (·.1)=l.map k:=by rw[List.map_map];rfl
theorem snoc{α β:Type}(f:α->β)(l:List α)(x:α):(l++[x]).map f=l.map f++[f x]:=by rw[List.map_append];rfl
theorem a5A{H:HL}(K:HLok H){f:Str}(h:f∈H.sh.map (·.1)):d0 f=true/\f∈(hS H).map (·.1):=⟨N3 K h,by unfold hS;rw[a2v];exact h⟩
theorem a7L{ct:CT}{F:Nat->Option Fn}(W:PF F){d:Nat}{H:HL}(K:HLok H):Reads ct F (d+9) {} ((L0 H).map ln) (a9W H):=by
 have e:(L0 H).map ln=H.sh.map (fun p=>ln (R8 p))++(H.mr.map (fun p=>ln (T6 p))++(H.pt.map (fun p=>ln (W3 p))++(H.ls.map (fun p=>ln (L8 p))++(H.gp.map (fun p=>ln (a4R p))++(H.cs.map (fun p=>ln (R9 p))++(H.fe.map (fun p=>ln (a1o p))++(H.ru.map (fun p=>ln (O7 p))++[]))))))):=by
  unfold L0;simp only[List.map_append,List.map_map,List.append_assoc,List.append_nil];rfl
 rw[e];refine F9 R8 (fun l=>{shapes:=l.map fun p=>(p.1,.int (p.2:Int))}) (fun x hx=>a3c K hx) (fun pre x post q=>?_) ?_ H.sh [] rfl
 · obtain⟨q1,q2⟩:=J7 q;have k:=K.sh.ok x q2
   have:=K.sh.hi
   have g:=b0a (ct:=ct) (d:=d) (H:={shapes:=pre.map fun p=>(p.1,.int (p.2:Int))}) (p:=x) W k.1 k.2 (by rw[a2v];exact K3 (f:=fun p=>p.1) K.sh.nd q) (by rw[List.length_map];omega)
   simp only[snoc];exact g
 refine F9 T6 (fun l=>{shapes:=hS H,marks:=hM l}) (fun x hx=>a5g K hx) (fun pre x post q=>?_) ?_ H.mr [] rfl
 · obtain⟨q1,q2⟩:=J7 q;obtain⟨k1,k2,k3⟩:=K.mko x q2;have hn:=a5A K (a4e K q2);have b:=a6K K K.mr;rw[List.length_map] at b
   have:=K.sh.hi
   have g:=b2H (ct:=ct) (d:=d) (H:={shapes:=hS H,marks:=hM pre}) (m:=x) W hn.1 k1 k2 k3 (by unfold hM;rw[a2v];exact K3 (f:=fun m:Mk=>m.n) (K.mr.nodup K.sh.nd) q) hn.2 (by unfold hM;rw[List.length_map];omega)
   unfold hM at g⊢;rw[snoc];exact g
 refine F9 W3 (fun l=>{shapes:=hS H,marks:=hM H.mr,points:=hP l}) (fun x hx=>a3d K hx) (fun pre x post q=>?_) ?_ H.pt [] rfl
 · obtain⟨q1,q2⟩:=J7 q;obtain⟨k1,k2,k3⟩:=K.pto x q2;have hn:=a5A K k1
   have:=K.ptl
   have g:=b0b (ct:=ct) (d:=d) (H:={shapes:=hS H,marks:=hM H.mr,points:=hP pre}) (p:=x) W hn.1 k2 k3 (by unfold hP;rw[List.map_map];exact K3 (f:=ptK) K.pt q) hn.2 (by unfold hP;rw[List.length_map];omega)
   unfold hP at g⊢;rw[snoc];exact g
 refine F9 L8 (fun l=>{shapes:=hS H,marks:=hM H.mr,points:=hP H.pt,letters:=hL l}) (fun x hx=>a0r K hx) (fun pre x post q=>?_) ?_ H.ls [] rfl
 · obtain⟨q1,q2⟩:=J7 q;have k:=K.lso x q2
   have:=K.ls
   have g:=a8j (ct:=ct) (d:=d) (H:={shapes:=hS H,marks:=hM H.mr,points:=hP H.pt,letters:=hL pre}) (l:=x) W k (fun f hf=>a5A K (k.fs f hf)) (by unfold hL;rw[a2v];exact K3 (f:=fun m:Lt=>m.n) K.lsn q) (by unfold hL;rw[List.length_map];omega)
   unfold hL at g⊢;rw[snoc];exact g
 refine F9 a4R (fun l=>{shapes:=hS H,marks:=hM H.mr,points:=hP H.pt,letters:=hL H.ls,gaps:=l}) (fun x hx=>a6R K hx) (fun pre x post q=>?_) ?_ H.gp [] rfl
 · obtain⟨q1,q2⟩:=J7 q
   have:=K.gp.length_le
   rw[List.length_map] at this
   have:=K.ls
   have nd:=K3 (f:=id) (by rw[List.map_id];exact K.gp.nodup K.lsn) q
   rw[List.map_id] at nd;exact b5i (ct:=ct) (d:=d) (H:={shapes:=hS H,marks:=hM H.mr,points:=hP H.pt,letters:=hL H.ls,gaps:=pre}) (g:=x) W (a4q K q2) nd (by unfold hL;rw[a2v];exact K.gp.subset q2) (show pre.length<=1000 by omega)
 refine F9 R9 (fun l=>{shapes:=hS H,marks:=hM H.mr,points:=hP H.pt,letters:=hL H.ls,gaps:=H.gp,classes:=hC l}) (fun x hx=>a1d K hx) (fun pre x post q=>?_) ?_ H.cs [] rfl
 · obtain⟨q1,q2⟩:=J7 q;have k:=K.cso x q2
   have:=K.cs
   have g:=b0c (ct:=ct) (d:=d) (H:={shapes:=hS H,marks:=hM H.mr,points:=hP H.pt,letters:=hL H.ls,gaps:=H.gp,classes:=hC pre}) (c:=x) W k (fun f hf=>a5A K (k.fs f hf)) (by unfold hC;rw[a2v];exact K3 (f:=fun m:Cs=>m.n) K.csn q) (by unfold hC;rw[List.length_map];omega)
   unfold hC at g⊢;rw[snoc];exact g
 refine F9 a1o (fun l=>{shapes:=hS H,marks:=hM H.mr,points:=hP H.pt,letters:=hL H.ls,gaps:=H.gp,classes:=hC H.cs,features:=hF l}) (fun x hx=>a5h K hx) (fun pre x post q=>?_) ?_ H.fe [] rfl
 · obtain⟨q1,q2⟩:=J7 q
   have:=K.fe
   have g:=b2I (ct:=ct) (d:=d) (H:={shapes:=hS H,marks:=hM H.mr,points:=hP H.pt,letters:=hL H.ls,gaps:=H.gp,classes:=hC H.cs,features:=hF pre}) (p:=x) W (a0S K (List.mem_map.mpr ⟨x,q2,rfl⟩)) (by unfold hF;rw[a2v];exact K3 (f:=fun p=>p.1) K.fen.nd q) (by unfold hF;rw[List.length_map];omega)
   unfold hF at g⊢;rw[snoc];exact g
 refine F9 O7 (fun l=>{shapes:=hS H,marks:=hM H.mr,points:=hP H.pt,letters:=hL H.ls,gaps:=H.gp,classes:=hC H.cs,features:=hF H.fe,rules:=hR l}) (fun x hx=>a2f K hx) (fun pre x post q=>?_) (.nil _) H.ru [] rfl
 obtain⟨q1,q2⟩:=J7 q;have k:=K.ruo x q2
 have:=K.rul
 have g:=b2G (ct:=ct) (d:=d) (H:={shapes:=hS H,marks:=hM H.mr,points:=hP H.pt,letters:=hL H.ls,gaps:=H.gp,classes:=hC H.cs,features:=hF H.fe,rules:=hR pre}) (r:=x) W k (fun f hf=>a5A K hf) (fun c hc=>⟨(K.cso c hc).nm,by unfold hC;rw[a2v];exact List.mem_map.mpr ⟨c,hc,rfl⟩⟩) ⟨a0S K k.fe,by unfold hF;rw[a2v];exact k.fe⟩ (by unfold hR;rw[a2v];exact K3 (f:=fun m:Ru=>m.t) K.run q) (by unfold hR;rw[List.length_map];omega)
 unfold hR at g⊢;rw[snoc];exact g
end EV
namespace EV
open PySem L2 L2T
structure Ce where
 n:Str
 lo:Nat
 k:Nat
def ceD(c:Ce):D:=.tup [.str c.n,.tup (a0t (c.lo:Int) c.k)]
theorem b0i(lo:Int)(k:Nat):D.flats (a0t lo k)=true:=by
 unfold a0t
 exact G2 fun d hd=>by
  obtain⟨i,_,rfl⟩:=List.mem_map.mp hd;rfl
theorem b0n(cs:List Ce):D.flats (cs.map ceD)=true:=G2 fun d hd=>by
 obtain⟨c,_,rfl⟩:=List.mem_map.mp hd
 show(true&&(D.flats (a0t (c.lo:Int) c.k)&&true))=true
 rw[b0i];rfl
theorem b0B(ns:List Int)(lo hi:Option Int):∃zs:List Int,O3 (ns.map .int) lo hi=zs.map .int/\zs.length<=ns.length:=by
 refine⟨(ns.drop (HT.sIx (ns.map D.int).length 0 lo)).take (HT.sIx (ns.map D.int).length (ns.map D.int).length hi-HT.sIx (ns.map D.int).length 0 lo),?_,?_⟩
 · unfold O3;rw[List.map_take,List.map_drop]
 · rw[List.length_take,List.length_drop];omega
def z8:List D:=[.int 0,.int 1,.int 1,.int 1,.int 2,.int 2,.int 3,.int 4]
theorem b6k:∀i:Fin 8,∃w:Nat,w<=4/\z8[i.val]? =some (.int (w:Int))
 |⟨0,_⟩=>⟨0,by decide,rfl⟩
 |⟨1,_⟩=>⟨1,by decide,rfl⟩
 |⟨2,_⟩=>⟨1,by decide,rfl⟩
 |⟨3,_⟩=>⟨1,by decide,rfl⟩
 |⟨4,_⟩=>⟨2,by decide,rfl⟩
 |⟨5,_⟩=>⟨2,by decide,rfl⟩
 |⟨6,_⟩=>⟨3,by decide,rfl⟩
 |⟨7,_⟩=>⟨4,by decide,rfl⟩
section
variable{ct:CT}{F:Nat->Option Fn}
theorem b2P{c:CF}{a b:E}{env:j9}{h:AH}:ev ct c (.trng a b) env h=(ev ct c a env h).bind fun x h1=>(ev ct c b env h1).bind fun y h2=>a4V h2 x y:=by(rw[ev];try rfl)
def c8E:E:=(.ix (.lst (.cons (.k (.int (0))) (.cons (.k (.int (1))) (.cons (.k (.int (1))) (.cons (.k (.int (1))) (.cons (.k (.int (2))) (.cons (.k (.int (2))) (.cons (.k (.int (3))) (.cons (.k (.int (4))) .nil))))))))) (.bin .mod (.v 7) (.k (.int (8)))))
def cB3:Ss:=(.cons (.ex (.mt .append (.v 3) (.cons (.tup (.cons (.ix (.ix (.v 2) (.bin .mod (.bin .div (.v 7) (.k (.int (8)))) (.bi .len (.cons (.v 2) .nil)))) (.k (.int (0)))) (.cons (.trng (.v 4) (.bin .add (.v 4) (.v 8))) .nil))) .nil))) (.cons (.set 4 (.bin .add (.v 4) (.v 8))) .nil))
def cB2:Ss:=(.cons (.iff (.cmp .eq (.v 4) (.k (.int (0)))) (.cons (.set 8 (.bi .max (.cons (.k (.int (1))) (.cons (.v 8) .nil)))) .nil) .nil) cB3)
def cB1:Ss:=(.cons (.set 7 (.call 202 (.cons (.v 6) (.cons (.bin .add (.v 5) (.k (.int (400)))) .nil)))) (.cons (.set 8 c8E) cB2))
theorem b0F:E2=⟨3,9,2,(.cons (.set 3 (.lst .nil)) (.cons (.set 4 (.k (.int (0)))) (.cons (.for (.tp (.cons (.nm 5) (.cons (.nm 6) .nil))) (.enum (.sl (.v 0) (.at (.v 1)) (.at (.bin .add (.v 1) (.k (.int (50))))))) cB1) (.cons (.ret (.v 3)) .nil))))⟩:=rfl
theorem b4O{w:Nat}{h:AH}(hw:w<=4):∃v:Nat,v<=4/\biD .max h [.int 1,.int (w:Int)]=.ok (.int (v:Int)) h:=by
 by_cases e:(w:Int)>1
 · exact⟨w,hw,by simp only[biD,e,if_true]⟩
 · exact⟨1,by decide,by simp only[biD,e,if_false];rfl⟩
theorem b0E{k n s:Nat}{ns:List Int}{sh:List (Str×Nat)}{h:AH}(f202:F 202=some o4)(hF:F 217=some E2)(hl:ns.length<=63)(hs:Shs sh)(hr:h[n]? =some (.rol (ns.map .int)))(hS:h[s]? =some (.lst (shD sh))):
 ∃cs:List Ce,(∀c∈cs,c.n∈sh.map (·.1))/\cs.length<=63/\b6 ct F (k+2) 217 [.ref n,.int 5,.ref s] h=.ok (.ref h.length) (h++[.lst (cs.map ceD)]):=by
 obtain⟨zs,z1,z2⟩:=b0B ns (some 5) (some 55)
 have l1:(h++[Cell.lst []]).length=h.length+1:=by simp
 have rl:rdL (h++[Cell.lst []]) n=some (ns.map .int):=by unfold rdL;rw[b7 hr]
 have sl:slD (h++[Cell.lst []]) (some 5) (some 55) (.ref n)=.ok (.ref (h.length+1)) (h++[Cell.lst []]++[.lst (zs.map .int)]):=by simp only[slD,rl,x5,z1,l1]
 rw[n0 hF rfl];simp only[b0F]
 show∃cs:List Ce,_/\_/\gcR 2 h (W9 (exs ct (b6 ct F (k+1)) _ [some (.ref n),some (.int 5),some (.ref s),none,none,none,none,none,none] h))=_
 rw[seq (env':=[some (.ref n),some (.int 5),some (.ref s),some (.ref h.length),none,none,none,none,none]) (h':=h++[Cell.lst []]) (by simp_arith[x5])]
 rw[seq (env':=[some (.ref n),some (.int 5),some (.ref s),some (.ref h.length),some (.int 0),none,none,none,none]) (h':=h++[Cell.lst []]) (by simp_arith[])]
 have gW:(h++[Cell.lst []]++[Cell.lst (zs.map .int)])[h.length]? =some (.lst []):=b7 b8
 have gZ:(h++[Cell.lst []]++[Cell.lst (zs.map .int)])[h.length+1]? =some (.lst (zs.map .int)):=by rw[←l1];exact b8
 have pf:Pf h (h++[Cell.lst []]++[Cell.lst (zs.map .int)]):=((Pf.refl h).app _).app _
 generalize hg:h++[Cell.lst []]++[Cell.lst (zs.map D.int)]=g at gW gZ pf sl
 obtain⟨env',g',e1,cs,m,e5,e6,e7,e8,rfl,q2,q3,q4,q5,q6,q7⟩:=J1 (g:=[(h.length+1,.lst (zs.map .int))]) (p:=.tp (.cons (.nm 5) (.cons (.nm 6) .nil))) (body:=exs ct (b6 ct F (k+1)) cB1) (fun j env hh=>∃cs:List Ce,∃m:Nat,∃e5 e6 e7 e8,env=[some (.ref n),some (.int 5),some (.ref s),some (.ref h.length),some (.int (m:Int)),e5,e6,e7,e8]/\Pf h hh/\hh[h.length]? =some (.lst (cs.map ceD))/\hh[h.length+1]? =some (.lst (zs.map .int))/\cs.length=j/\(∀c∈cs,c.n∈sh.map (·.1))/\m<=4*j) (fun j env hh hP=>by
  obtain⟨_,_,_,_,_,_,_,_,_,h4,_⟩:=hP;simp[gOk,h4]) (z3 0 (zs.map .int)) 0 [some (.ref n),some (.int 5),some (.ref s),some (.ref h.length),some (.int 0),none,none,none,none] g (fun j x env hh hx hP=>by
  obtain⟨cs,m,e5,e6,e7,e8,rfl,p1,p2,p3,p4,p5,p6⟩:=hP;obtain⟨y,hy,rfl⟩:=a0c hx
  have hj:j<zs.length:=by simpa using(List.getElem?_eq_some_iff.mp hy).1
  rw[List.getElem?_map,List.getElem?_eq_getElem hj] at hy
  obtain rfl:D.int zs[j]=y:=Option.some.inj hy;rw[Nat.zero_add] at p4 p6⊢
  have a4:((j:Nat):Int)+400=((j+400:Nat):Int):=by omega
  obtain⟨M,hM⟩:=z9 (ct:=ct) (k:=k) (c:=zs[j]) (j:=((j+400:Nat):Int)) (h:=hh) f202 (by omega)
  obtain⟨w,w1,w2⟩:=b6k ⟨M%8,Nat.mod_lt _ (by decide)⟩
  have m8:∀h,u6 h (.int (M:Int)) (.int 8)=.ok (.int ((M%8:Nat):Int)) h:=fun h=>D3 8 (by decide)
  have d8:∀h,v7 h (.int (M:Int)) (.int 8)=.ok (.int ((M/8:Nat):Int)) h:=fun h=>G8 8 (by decide) (by decide)
  have i8:ixD (hh++[.lst z8]) (.ref hh.length) (.int ((M%8:Nat):Int))=.ok (.int (w:Int)) (hh++[.lst z8]):=B0 b8 w2
  obtain⟨v,v1,v2⟩:=b4O (h:=hh++[.lst z8]) w1;have b2:=b7 (g:=[.lst z8]) p2;have b3:=b7 (g:=[.lst z8]) p3;have P1:=p1.app [.lst z8];have hs1:=P1.at hS
  obtain⟨u,us,ue⟩:∃u:Nat,u<=4/\∀T,exs ct (b6 ct F (k+1)) (.cons (.iff (.cmp .eq (.v 4) (.k (.int (0)))) (.cons (.set 8 (.bi .max (.cons (.k (.int (1))) (.cons (.v 8) .nil)))) .nil) .nil) T) [some (.ref n),some (.int 5),some (.ref s),some (.ref h.length),some (.int (m:Int)),some (.int (j:Int)),some (.int zs[j]),some (.int (M:Int)),some (.int (w:Int))] (hh++[.lst z8])=exs ct (b6 ct F (k+1)) T [some (.ref n),some (.int 5),some (.ref s),some (.ref h.length),some (.int (m:Int)),some (.int (j:Int)),some (.int zs[j]),some (.int (M:Int)),some (.int (u:Int))] (hh++[.lst z8]):=by
   by_cases e0:(m:Int)=0
   · exact⟨v,v1,fun T=>seq (by simp_arith[op2,G0,eqS,e0,decide_true,v2])⟩
   · exact⟨w,w1,fun T=>seq (by simp_arith[op2,G0,eqS,e0,decide_false])⟩
  obtain⟨pw,ix⟩:=a5u (x:=M/8) hs.lo hs1
  have tr:a4V (hh++[.lst z8]) (.int (m:Int)) (.int ((m+u:Nat):Int))=.ok (.tup (a0t (m:Int) u)) (hh++[.lst z8]):=by
   simp only[a4V];rw[if_pos ⟨⟨Z1 (by omega),Z1 (by omega)⟩,by omega⟩]
   congr 3;omega
  have au:(m:Int)+(u:Int)=((m+u:Nat):Int):=by omega
  refine⟨_,[some (.ref n),some (.int 5),some (.ref s),some (.ref h.length),some (.int ((m+u:Nat):Int)),some (.int (j:Int)),some (.int zs[j]),some (.int (M:Int)),some (.int (u:Int))],(hh++[Cell.lst z8]).set h.length (Cell.lst (cs.map ceD++[ceD ⟨pk sh (M/8),m,u⟩])),rfl,?_,cs++[⟨pk sh (M/8),m,u⟩],m+u,_,_,_,_,rfl,P1.set (Nat.le_refl _),by rw[y7 b2,List.map_append];rfl,b9 (show h.length≠h.length+1 by omega) b3,by rw[List.length_append,p4];rfl,fun c hc=>?_,by omega⟩
  · show exs ct (b6 ct F (k+1)) cB1 [some (.ref n),some (.int 5),some (.ref s),some (.ref h.length),some (.int (m:Int)),some (.int (j:Int)),some (.int zs[j]),e7,e8] hh=_
    unfold cB1;rw[seq (env':=[some (.ref n),some (.int 5),some (.ref s),some (.ref h.length),some (.int (m:Int)),some (.int (j:Int)),some (.int zs[j]),some (.int (M:Int)),e8]) (h':=hh) (by simp_arith[op2,l0,a4,hM])]
    rw[seq (env':=[some (.ref n),some (.int 5),some (.ref s),some (.ref h.length),some (.int (m:Int)),some (.int (j:Int)),some (.int zs[j]),some (.int (M:Int)),some (.int (w:Int))]) (h':=hh++[.lst z8]) (by
     unfold c8E
     have s8:(z8.length<=SL)=True:=eq_true (by show 8<=16777216;decide)
     simp_arith[s8,if_true,x5,op2,m8,show[D.int 0,.int 1,.int 1,.int 1,.int 2,.int 2,.int 3,.int 4]=z8 from rfl,i8])]
    unfold cB2;rw[ue];unfold cB3
    rw[seq (env':=[some (.ref n),some (.int 5),some (.ref s),some (.ref h.length),some (.int (m:Int)),some (.int (j:Int)),some (.int zs[j]),some (.int (M:Int)),some (.int (u:Int))]) (h':=(hh++[Cell.lst z8]).set h.length (Cell.lst (cs.map ceD++[ceD ⟨pk sh (M/8),m,u⟩]))) (by
     simp_arith[I0 b2,op2,d8,a2s hs1,D3 sh.length (by have:=hs.lo;omega),ix,a0p,b2P,l0,au,tr,N2 (d:=ceD ⟨pk sh (M/8),m,u⟩) b2 (by rw[List.length_map,p4];omega),show D.tup [.str (pk sh (M/8)),.tup (a0t (m:Int) u)]=ceD ⟨pk sh (M/8),m,u⟩ from rfl])]
    simp_arith[op2,l0,au]
  · rcases List.mem_append.mp hc with hc|hc
    · exact p5 c hc
    · rw[List.mem_singleton.mp hc];exact(a3f hs.lo (M/8)).1) ⟨[],0,none,none,none,none,rfl,pf,gW,gZ,rfl,(fun c (hc:c∈([]:List Ce))=>absurd hc (by simp)),Nat.zero_le _⟩
 have a50:(5:Int)+50=55:=rfl
 rw[seq (env':=[some (.ref n),some (.int 5),some (.ref s),some (.ref h.length),some (.int (m:Int)),e5,e6,e7,e8]) (h':=g') (by simp_arith[op2,l0,a50,sl,a0m,gZ,e1])]
 rw[U4,List.length_map,Nat.zero_add] at q5;refine⟨cs,q6,by omega,?_⟩
 simp_arith[];exact a6u q2 q3 (Nat.le_refl _) (b0n cs)
end
end EV
namespace EV
open PySem L2 L2T
def wOf(sh:List (Str×Nat))(n:Str):Int:=((sh.find? fun p=>decide (p.1=n)).map fun p=>(p.2:Int)).getD 0
def shK(sh:List (Str×Nat)):List (D×D):=kd (sh.map fun p=>(p.1,.int (p.2:Int)))
theorem b3y{n:Str}:∀{sh:List (Str×Nat)},n∈sh.map (·.1)->o5 (shK sh) (.str n)=some (.int (wOf sh n))
 |[],h=>absurd h (by simp)
 | p ::r,h=>by
  by_cases e:p.1=n
  · have e1:o5 (shK (p::r)) (.str n)=some (.int (p.2:Int)):=by
     unfold o5 shK kd;rw[List.map_cons,List.map_cons,List.find?_cons]
     simp[e]
    have e2:wOf (p::r) n=(p.2:Int):=by
     unfold wOf;rw[List.find?_cons]
     simp[e]
    rw[e1,e2]
  · have ih:=b3y (n:=n) (sh:=r) (by
     rw[List.map_cons] at h
     rcases List.mem_cons.mp h with h|h
     · exact absurd h.symm e
     · exact h)
    have e1:o5 (shK (p::r)) (.str n)=o5 (shK r) (.str n):=by
     have e':¬(D.str p.1=D.str n):=fun z=>e (by injection z)
     unfold o5 shK kd;rw[List.map_cons,List.map_cons,List.find?_cons]
     simp only[e',decide_false]
    have e2:wOf (p::r) n=wOf r n:=by
     unfold wOf;rw[List.find?_cons]
     simp only[e,decide_false]
    rw[e1,e2,ih]
theorem b7j{h:AH}{n:Nat}{x:Str}{sh:List (Str×Nat)}(e:h[n]? =some (.dict (shK sh)))(hx:x∈sh.map (·.1)):ixD h (.ref n) (.str x)=.ok (.int (wOf sh x)) h:=by
 have k:E9 (.str x) (shK sh)=true:=a1R _ _
 simp only[ixD,e,k,if_true,b3y hx]
theorem b4J{h:AH}{n:Nat}{l:List (Str×D)}{k:Str}(e:h[n]? =some (.dict (kd l))):U9 true h (.str k) (.ref n)=.ok (.bl (!decide (k∈l.map (·.1)))) h:=by
 simp only[U9,e,a1R,if_true,a6t];simp
theorem a5m{h:AH}{n:Nat}{l:List Str}{k:Str}(e:h[n]? =some (.lst (l.map .str))):U9 true h (.str k) (.ref n)=.ok (.bl (!decide (k∈l))) h:=by
 simp only[U9,e,p7,a3r,Bool.and_self,if_true,a4m];simp
def a0I(sh:List (Str×Nat))(mk:List Str)(cs:List Ce):Int:=((cs.filter fun c=>!decide (c.n∈mk)).map fun c=>wOf sh c.n).sum
theorem a7x(sh:List (Str×Nat))(mk:List Str)(cs:List Ce)(c:Ce):a0I sh mk (cs++[c])=a0I sh mk cs+(if c.n∈mk then 0 else wOf sh c.n):=by
 unfold a0I;rw[List.filter_append,List.map_append,List.sum_append]
 by_cases e:c.n∈mk
 · rw[List.filter_cons_of_neg (by simp[e]),if_pos e]
   simp
 · rw[List.filter_cons_of_pos (by simp[e]),if_neg e]
   simp
theorem a3n:∀l:List Int,a3o (l.map D.int)=some l
 |[]=>rfl
 |x::r=>by rw[List.map_cons,a3o,a3n r];rfl
theorem b1C{h:AH}{l:List Int}:biD .sum (h++[.lst (l.map D.int)]) [.ref h.length]=.ok (.int l.sum) (h++[.lst (l.map D.int)]):=by
 simp only[biD,b8,a1L,a3n]
def cNm:D->Str
 |.tup (.str n::_)=>n
 |_=>""
theorem b5E{j:Nat}{xs:List D}(h:j<=xs.length):O3 xs none (some (j:Int))=xs.take j:=by
 unfold O3;rw[HT.b1O,HT.a8O,Nat.sub_zero,List.drop_zero,Nat.min_eq_left h]
theorem b8c(c:Ce):dp 3 (ceD c)=true:=by
 show[D.str c.n,.tup (a0t (c.lo:Int) c.k)].all (dp 2)=true
 rw[List.all_cons,List.all_cons,List.all_nil,Bool.and_true]
 show(true&&(a0t (c.lo:Int) c.k).all (dp 1))=true
 rw[Bool.true_and];refine List.all_eq_true.mpr fun d hd=>?_
 unfold a0t at hd;obtain⟨x,_,rfl⟩:=List.mem_map.mp hd;rfl
theorem b4L{h:AH}{i j:Nat}{cs:List Ce}(h1:h[i]? =some (.lst (cs.map ceD)))(h2:h[j]? =some (.lst (cs.map ceD))):a0v h (.ref i) (.ref j)=.ok (.bl false) h:=by
 have r1:rdL h i=some (cs.map ceD):=by unfold rdL;rw[h1]
 have r2:rdL h j=some (cs.map ceD):=by unfold rdL;rw[h2]
 have e2:a3v h (.ref i) (.ref j)=true:=by
  simp only[a3v,r1,r2]
  rw[decide_true,List.all_eq_true.mpr fun d hd=>by
   obtain⟨x,_,rfl⟩:=List.mem_map.mp hd;exact b8c x]
  rfl
 unfold a0v;rw[show eqS (.ref i) (.ref j)=none from rfl]
 cases cs with
 | nil=>
  have e1:a4y h (.ref i) (.ref j)=some true:=by
   simp only[a4y,r1,r2];rfl
  simp only[e1];rfl
 | cons r t=>
  have e1:a4y h (.ref i) (.ref j)=none:=by
   simp only[a4y,r1,r2];rfl
  simp only[e1,e2,if_true]
theorem a9h:∀sh:List (Str×Nat),a7O (shD sh)=some (shK sh)
 |[]=>rfl
 |p::r=>by
  have ih:=a9h r;unfold shD shK kd at ih⊢;rw[List.map_cons,a7O,if_pos (show(K0 (D.str p.1)).isSome=true from rfl),ih];rfl
theorem a6T:∀(r pre:List (Str×D)),((pre++r).map (·.1)).Nodup->(kd r).foldl (fun a p=>a0N a p.1 p.2) (kd pre)=kd (pre++r)
 |[],pre,_=>by rw[List.append_nil];rfl
 |p::r,pre,h=>by
  have hp:p.1∉pre.map (·.1):=K3 (f:=fun q:Str×D=>q.1) h rfl
  rw[show kd (p::r)=(.str p.1,p.2)::kd r from rfl,List.foldl_cons]
  show List.foldl _ (a0N (kd pre) (.str p.1) p.2) (kd r)=_
  rw[a8Z hp,a6T r (pre++[(p.1,p.2)]) (by rw[List.append_assoc];exact h),List.append_assoc]
  rfl
theorem b3a{h:AH}{n:Nat}{sh:List (Str×Nat)}(hn:h[n]? =some (.lst (shD sh)))(hd:(sh.map (·.1)).Nodup):biD .dict h [.ref n]=.ok (.ref h.length) (h++[.dict (shK sh)]):=by
 have rl:rdL h n=some (shD sh):=by unfold rdL;rw[hn]
 have fo:(shK sh).foldl (fun a p=>a0N a p.1 p.2) []=shK sh:=a6T (sh.map fun p:Str×Nat=>(p.1,D.int (p.2:Int))) [] (by rw[List.nil_append,List.map_map];exact hd)
 simp only[biD,hn,rl,a9h,fo,x5]
section
variable{ct:CT}{F:Nat->Option Fn}
theorem a7y{k n w:Nat}{H:HL}{cs:List Ce}{h:AH}(hF:F 33=some L6)(A:HallAt h n (a9W H))(hw:h[w]? =some (.lst (cs.map ceD)))(hc:∀c∈cs,c.n∈H.sh.map (·.1))(hl:cs.length<=1000):b6 ct F (k+1) 33 [.ref n,.ref w] h=.ok (.int (a0I H.sh (H.mr.map (·.n)) cs)) h:=by
 have c1:h[n+1]? =some (.dict (shK H.sh)):=A.c1
 have k2:(hM H.mr).map (·.1)=H.mr.map (·.n):=a2v _ _ _
 rw[n0 hF rfl];simp only[L6]
 have cm:ev ct (b6 ct F k) (.comp (.nm 0) (.seq (.v 1)) 1 [0] (.cmp .notin (.ix (.v 0) (.k (.int (0)))) (.fld (.v 1) "marks")) (.ix (.fld (.v 1) "shapes") (.ix (.v 0) (.k (.int (0)))))) [some (.ref n),some (.ref w)] h=.ok (.ref h.length) (h++[.lst (((cs.filter fun c=>!decide (c.n∈H.mr.map (·.n))).map fun c=>wOf H.sh c.n).map .int)]):=by
  rw [Q0 (l:=cs.map ceD) (g:=[(w,.lst (cs.map ceD))]) (h1:=h) (by simp_arith[a0q,hw]) (by simp[gOk,hw]) (fun x=>!decide (cNm x∈H.mr.map (·.n))) (fun x=>.int (wOf H.sh (cNm x))) (fun x=>[some x,some (.ref n)]) (fun x hx=>by
   obtain⟨c,hc',rfl⟩:=List.mem_map.mp hx;refine⟨rfl,?_,fun _=>?_⟩
   · unfold ceD;simp_arith[a0p,A.fld2,op2,b4J A.c2];rw[show(a9W H).marks=hM H.mr from rfl,k2];rfl
   · unfold ceD;simp_arith[a0p,A.fld1,b7j c1 (hc c hc')]
     rfl) (by rw[List.length_map];show _<=16777216;omega)]
  congr 3;rw[List.filter_map,List.map_map,List.map_map];rfl
 simp_arith[cm,b1C];exact gc1 rfl
theorem a8w{k:Nat}{i:Int}{h:AH}(hF:F 216=some G3):b6 ct F (k+1) 216 [.int i] h=.ok (.bl true) h:=by
 rw[n0 hF rfl];simp only[G3];simp_arith[Bool.not_false];exact E1 rfl
end
end EV
namespace EV
open PySem L2 L2T
section
variable{ct:CT}{F:Nat->Option Fn}
def lwI:T:=(.an (.cmp .lt (.v 7) (.bi .len (.cons (.v 5) .nil))) (.cmp .notin (.ix (.ix (.v 5) (.v 7)) (.k (.int (0)))) (.v 4)))
def lwS:Ss:=(.cons (.set 6 (.bin .add (.v 6) (.ix (.v 3) (.ix (.ix (.v 5) (.v 7)) (.k (.int (0))))))) .nil)
def lwO:T:=(.orr (.nt (.val (.call 216 (.cons (.v 9) .nil)))) (.orr (.cmp .ne (.v 9) (.v 6)) (.cmp .ne (.v 8) (.sl (.v 5) .no (.at (.v 7))))))
def lwB:Ss:=(.cons (.set 8 (.sl (.v 5) .no (.at (.v 7)))) (.cons (.set 9 (.call 33 (.cons (.v 2) (.cons (.v 8) .nil)))) (.cons (.iff lwO (.cons (.ret (.k (.bl false))) .nil) .nil) (.cons (.iff lwI lwS .nil) .nil))))
theorem b4T:a5D=⟨1,10,0,(.cons (.set 1 (.call 212 (.cons (.v 0) (.cons (.k (.int (0))) .nil)))) (.cons (.set 2 (.call 12 (.cons (.call 215 (.cons (.v 1) .nil)) .nil))) (.cons (.set 3 (.bi .dict (.cons (.ix (.v 1) (.k (.int (0)))) .nil))) (.cons (.set 4 (.comp (.nm 0) (.seq (.ix (.v 1) (.k (.int (1))))) 1 [] .yes (.ix (.v 0) (.k (.int (0)))))) (.cons (.set 5 (.call 217 (.cons (.v 0) (.cons (.k (.int (5))) (.cons (.ix (.v 1) (.k (.int (0)))) .nil))))) (.cons (.set 6 (.k (.int (0)))) (.cons (.for (.nm 7) (.rng1 (.bin .add (.bi .len (.cons (.v 5) .nil)) (.k (.int (1))))) lwB) (.cons (.ret (.k (.bl true))) .nil))))))))⟩:=rfl
theorem b1D{k n q m s j:Nat}{T:D}{H:HL}{cs:List Ce}{e8 e9:Option D}{h:AH}(f33:F 33=some L6)(f216:F 216=some G3)(A:HallAt h n (a9W H))(hq:h[q]? =some (.dict (shK H.sh)))(hm:h[m]? =some (.lst ((H.mr.map (·.n)).map .str)))(hs:h[s]? =some (.lst (cs.map ceD)))(hc:∀c∈cs,c.n∈H.sh.map (·.1))(hl:cs.length<=63)(hj:j<=cs.length):
 ∃e8' e9' g,exs ct (b6 ct F (k+1)) lwB [some (.ref 0),some T,some (.ref n),some (.ref q),some (.ref m),some (.ref s),some (.int (a0I H.sh (H.mr.map (·.n)) (cs.take j))),some (.int (j:Int)),e8,e9] h=.ok (.nx [some (.ref 0),some T,some (.ref n),some (.ref q),some (.ref m),some (.ref s),some (.int (a0I H.sh (H.mr.map (·.n)) (cs.take (j+1)))),some (.int (j:Int)),e8',e9']) (h++g):=by
 have ct1:O3 (cs.map ceD) none (some (j:Int))=(cs.take j).map ceD:=by rw[b5E (by rw[List.length_map];exact hj),List.map_take]
 have l1:(h++[Cell.lst ((cs.take j).map ceD)]).length=h.length+1:=by simp
 have s1:slD h none (some (j:Int)) (.ref s)=.ok (.ref h.length) (h++[.lst ((cs.take j).map ceD)]):=by rw[L1 hs,ct1]
 have s2:slD (h++[.lst ((cs.take j).map ceD)]) none (some (j:Int)) (.ref s)=.ok (.ref (h.length+1)) (h++[.lst ((cs.take j).map ceD)]++[.lst ((cs.take j).map ceD)]):=by rw[L1 (b7 hs),ct1,l1]
 have w1:=a7y (ct:=ct) (k:=k) (h:=h++[.lst ((cs.take j).map ceD)]) f33 (A.app _) b8 (fun c hc'=>hc c (List.mem_of_mem_take hc')) (by rw[List.length_take];omega)
 have ne:=b4L (h:=h++[Cell.lst ((cs.take j).map ceD)]++[.lst ((cs.take j).map ceD)]) (i:=h.length) (j:=h.length+1) (cs:=cs.take j) (b7 b8) (by rw[←l1];exact b8)
 have hs2:(h++[Cell.lst ((cs.take j).map ceD)]++[.lst ((cs.take j).map ceD)])[s]? =some (.lst (cs.map ceD)):=b7 (b7 hs)
 have hm2:(h++[Cell.lst ((cs.take j).map ceD)]++[.lst ((cs.take j).map ceD)])[m]? =some (.lst ((H.mr.map (·.n)).map .str)):=b7 (b7 hm)
 have hq2:(h++[Cell.lst ((cs.take j).map ceD)]++[.lst ((cs.take j).map ceD)])[q]? =some (.dict (shK H.sh)):=b7 (b7 hq)
 refine⟨some (.ref h.length),some (.int (a0I H.sh (H.mr.map (·.n)) (cs.take j))),[.lst ((cs.take j).map ceD)]++[.lst ((cs.take j).map ceD)],?_⟩
 rw[←List.append_assoc];unfold lwB;rw[seq (env':=[some (.ref 0),some T,some (.ref n),some (.ref q),some (.ref m),some (.ref s),some (.int (a0I H.sh (H.mr.map (·.n)) (cs.take j))),some (.int (j:Int)),some (.ref h.length),e9]) (h':=h++[.lst ((cs.take j).map ceD)]) (by simp_arith[s1])]
 rw[seq (env':=[some (.ref 0),some T,some (.ref n),some (.ref q),some (.ref m),some (.ref s),some (.int (a0I H.sh (H.mr.map (·.n)) (cs.take j))),some (.int (j:Int)),some (.ref h.length),some (.int (a0I H.sh (H.mr.map (·.n)) (cs.take j)))]) (h':=h++[.lst ((cs.take j).map ceD)]) (by simp_arith[w1])]
 rw[seq (env':=[some (.ref 0),some T,some (.ref n),some (.ref q),some (.ref m),some (.ref s),some (.int (a0I H.sh (H.mr.map (·.n)) (cs.take j))),some (.int (j:Int)),some (.ref h.length),some (.int (a0I H.sh (H.mr.map (·.n)) (cs.take j)))]) (h':=h++[.lst ((cs.take j).map ceD)]++[.lst ((cs.take j).map ceD)]) (by
  generalize hA:a0I H.sh (H.mr.map (·.n)) (cs.take j)=A0
  have n1:∀h,a0v h (.int A0) (.int A0)=.ok (.bl false) h:=fun h=>by simp[a0v,eqS]
  unfold lwO;simp_arith[a8w f216,Bool.not_true,op2,n1,s2,ne])]
 generalize h++[Cell.lst ((cs.take j).map ceD)]++[.lst ((cs.take j).map ceD)]=g at hs2 hm2 hq2
 have le:biD .len g [.ref s]=.ok (.int (cs.length:Int)) g:=by rw[p8 hs2,List.length_map]
 by_cases lt:j<cs.length
 · have lt':((j:Int)<(cs.length:Int))=True:=eq_true (by omega)
   have ix:ixD g (.ref s) (.int (j:Int))=.ok (ceD cs[j]) g:=B0 hs2 (by rw[List.getElem?_map,List.getElem?_eq_getElem lt];rfl)
   have ix0:ixD g (ceD cs[j]) (.int 0)=.ok (.str cs[j].n) g:=a0p
   rw[List.take_succ_eq_append_getElem lt,a7x]
   by_cases mk:cs[j].n∈H.mr.map (·.n)
   · rw[if_pos mk,Int.add_zero];unfold lwI;simp_arith[le,op2,D2,lt',decide_true,ix,ix0,a5m hm2,mk,Bool.not_true]
   · rw[if_neg mk];unfold lwI lwS;simp_arith[le,op2,D2,lt',decide_true,ix,ix0,a5m hm2,mk,decide_false,Bool.not_false,b7j hq2 (hc _ (List.getElem_mem lt)),l0]
 · have lt':((j:Int)<(cs.length:Int))=False:=eq_false (by omega)
   rw[List.take_of_length_le (show cs.length<=j by omega),List.take_of_length_le (show cs.length<=j+1 by omega)]
   unfold lwI;simp_arith[le,op2,D2,lt',decide_false]
variable(W:PF F)
include W
theorem b4S{d:Nat}{ns:List Int}(hns:ns.length<=63)(f33:F 33=some L6)(f201:F 201=some D0)(f202:F 202=some o4)(f203:F 203=some n9)(f204:F 204=some v8)(f205:F 205=some u7)(f206:F 206=some x4)(f207:F 207=some w6)(f208:F 208=some u9)(f209:F 209=some v0)(f210:F 210=some v5)(f211:F 211=some t7)(f212:F 212=some F8)(f213:F 213=some w8)(f214:F 214=some w5)(f215:F 215=some C0)(f216:F 216=some G3)(f217:F 217=some E2)(f218:F 218=some a5D)(hin:ct.init 6=32):∃h',b6 ct F (d+11) 218 [.ref 0] [.rol (ns.map .int)]=.ok (.bl true) h':=by
 generalize hg0:[Cell.rol (ns.map .int)]=g0
 have hr:g0[0]? =some (.rol (ns.map .int)):=by rw[←hg0];rfl
 obtain⟨H,g,a,b,c,d',e,f,i,j,K,hlen,P0,A,hH⟩:=b2D (ct:=ct) (k:=d+7) (n:=0) (m:=0) (ns:=ns) (h:=g0) f201 f202 f203 f204 f205 f206 f207 f208 f209 f210 f211 f212 hr (by decide)
 have hT:=a9X (ct:=ct) (k:=d+8) K f213 f214 f215 A;obtain⟨h,ht,hA,hR⟩:=a3T (ct:=ct) (d:=d+8) (h:=g) (text:=a5z H) (H':=a9W H) W hin (by have:=b1o K;omega) (by rw[a7A K];exact a7L W K)
 have P1:Pf g h:=⟨by rw[←ht,List.length_take];omega,fun i hi=>by
  have:(h.take g.length)[i]? =g[i]? :=by rw[ht]
  rw[←this,List.getElem?_take_of_lt hi]⟩
 have as:=P1.at A.sh;have am:=P1.at A.mr;have a0:=P1.at (P0.at hr)
 have t0:∀h,ixD h (.tup [.ref a,.ref b,.ref c,.ref d',.ref e,.ref f,.ref i,.ref j]) (.int 0)=.ok (.ref a) h:=fun h=>ix_tup (i:=0) rfl
 have t1:∀h,ixD h (.tup [.ref a,.ref b,.ref c,.ref d',.ref e,.ref f,.ref i,.ref j]) (.int 1)=.ok (.ref b) h:=fun h=>ix_tup (i:=1) rfl
 generalize hTt:D.tup [.ref a,.ref b,.ref c,.ref d',.ref e,.ref f,.ref i,.ref j]=T at hH hT t0 t1;have hD:=b3a as K.sh.nd
 have hD1:(h++[Cell.dict (shK H.sh)])[h.length]? =some (.dict (shK H.sh)):=b8
 have cm:ev ct (b6 ct F (d+10)) (.comp (.nm 0) (.seq (.ix (.v 1) (.k (.int (1))))) 1 [] .yes (.ix (.v 0) (.k (.int (0))))) [some (.ref 0),some T,some (.ref g.length),some (.ref h.length),none,none,none,none,none,none] (h++[.dict (shK H.sh)])=.ok (.ref (h++[Cell.dict (shK H.sh)]).length) (h++[.dict (shK H.sh)]++[.lst ((H.mr.map (·.n)).map .str)]):=by
  rw[y9 (l:=H.mr.map mkD) (g:=[(b,.lst (H.mr.map mkD))]) (h1:=h++[.dict (shK H.sh)]) (by simp_arith[t1,a0q,b7 (g:=[Cell.dict (shK H.sh)]) am]) (by simp only[gOk,List.all_cons,List.all_nil,b7 (g:=[Cell.dict (shK H.sh)]) am];simp) (fun x=>.str (cNm x)) (fun x=>[some x]) (fun x hx=>by
   obtain⟨c,hc',rfl⟩:=List.mem_map.mp hx;refine⟨rfl,?_⟩
   unfold mkD;simp_arith[a0p]
   rfl) (by rw[List.length_map];have:=K.mr.length_le;rw[List.length_map,List.length_map] at this;have:=K.sh.hi;show _<=16777216;omega)]
  congr 3;rw[List.map_map,List.map_map];rfl
 have as1:=b7 (g:=[.lst ((H.mr.map (·.n)).map .str)]) (b7 (g:=[.dict (shK H.sh)]) as)
 have a01:=b7 (g:=[.lst ((H.mr.map (·.n)).map .str)]) (b7 (g:=[.dict (shK H.sh)]) a0)
 have aM:(h++[Cell.dict (shK H.sh)]++[.lst ((H.mr.map (·.n)).map .str)])[(h++[Cell.dict (shK H.sh)]).length]? =some (.lst ((H.mr.map (·.n)).map .str)):=b8
 have aD:(h++[Cell.dict (shK H.sh)]++[.lst ((H.mr.map (·.n)).map .str)])[h.length]? =some (.dict (shK H.sh)):=b7 b8
 have aH:=(hA.app [.dict (shK H.sh)]).app [.lst ((H.mr.map (·.n)).map .str)]
 generalize (h++[Cell.dict (shK H.sh)]).length=m at cm aM;generalize hx1:h++[Cell.dict (shK H.sh)]++[.lst ((H.mr.map (·.n)).map .str)]=x1 at cm aM aD aH as1 a01
 obtain⟨cs,c1,c2,c3⟩:=b0E (ct:=ct) (k:=d+8) f202 f217 hns K.sh a01 as1
 have aS:(x1++[Cell.lst (cs.map ceD)])[x1.length]? =some (.lst (cs.map ceD)):=b8
 have bM:=b7 (g:=[.lst (cs.map ceD)]) aM;have bD:=b7 (g:=[.lst (cs.map ceD)]) aD;have bH:=aH.app [.lst (cs.map ceD)];generalize x1.length=s at c3 aS;generalize x1++[Cell.lst (cs.map ceD)]=x2 at c3 aS bM bD bH
 obtain⟨env',h',q1,e7,e8,e9,rfl,q2⟩:=J1 (g:=[]) (p:=.nm 7) (body:=exs ct (b6 ct F (d+10)) lwB) (fun j env hh=>∃e7 e8 e9,env=[some (.ref 0),some T,some (.ref g.length),some (.ref h.length),some (.ref m),some (.ref s),some (.int (a0I H.sh (H.mr.map (·.n)) (cs.take j))),e7,e8,e9]/\∃t,hh=x2++t) (fun _ _ _ _=>rfl) ((List.range (cs.length+1)).map fun i=>.int ((0:Int)+(i:Nat))) 0 [some (.ref 0),some T,some (.ref g.length),some (.ref h.length),some (.ref m),some (.ref s),some (.int 0),none,none,none] x2 (fun j x env hh hx hP=>by
  obtain⟨e7,e8,e9,rfl,t,rfl⟩:=hP
  have hj:j<cs.length+1:=by simpa using(List.getElem?_eq_some_iff.mp hx).1
  rw[List.getElem?_map,List.getElem?_range hj] at hx
  obtain rfl:=Option.some.inj hx
  have z:(0:Int)+((j:Nat):Int)=(j:Int):=by omega
  simp only[z,Nat.zero_add];obtain⟨e8',e9',t',st⟩:=b1D (ct:=ct) (k:=d+9) (T:=T) (e8:=e8) (e9:=e9) (j:=j) f33 f216 (bH.app t) (b7 bD) (b7 bM) (b7 aS) c1 c2 (by omega)
  exact⟨_,_,_,rfl,st,_,_,_,rfl,t++t',by rw[List.append_assoc]⟩) ⟨_,_,_,rfl,[],by rw[List.append_nil]⟩
 rw[n0 f218 rfl];simp only[b4T];rw[gc0];refine⟨h',?_⟩
 show W9 (exs ct (b6 ct F (d+10)) _ [some (.ref 0),none,none,none,none,none,none,none,none,none] g0)=_
 rw[seq (env':=[some (.ref 0),some T,none,none,none,none,none,none,none,none]) (h':=g) (by simp_arith[show b6 ct F (d+10) 212 [.ref 0,.int 0] g0=.ok T g from hH])]
 rw[seq (env':=[some (.ref 0),some T,some (.ref g.length),none,none,none,none,none,none,none]) (h':=h) (by simp_arith[hT,hR])]
 rw[seq (env':=[some (.ref 0),some T,some (.ref g.length),some (.ref h.length),none,none,none,none,none,none]) (h':=h++[.dict (shK H.sh)]) (by simp_arith[t0,hD])]
 rw[seq (env':=[some (.ref 0),some T,some (.ref g.length),some (.ref h.length),some (.ref m),none,none,none,none,none]) (h':=x1) (by rw[a4v,cm,k7];simp_arith[])]
 rw[seq (env':=[some (.ref 0),some T,some (.ref g.length),some (.ref h.length),some (.ref m),some (.ref s),none,none,none,none]) (h':=x2) (by simp_arith[t0,c3])]
 rw[seq (env':=[some (.ref 0),some T,some (.ref g.length),some (.ref h.length),some (.ref m),some (.ref s),some (.int 0),none,none,none]) (h':=x2) (by simp_arith[])]
 have le:biD .len x2 [.ref s]=.ok (.int (cs.length:Int)) x2:=by rw[p8 aS,List.length_map]
 have a1:((cs.length:Nat):Int)+1=((cs.length+1:Nat):Int):=by omega
 rw[seq (env':=_) (h':=h') (by simp_arith[le,op2,l0,a1,a0s (h:=x2) (m:=cs.length+1) (by omega),q1];rfl)]
 simp_arith[]
end
end EV
namespace K41
open PySem L2 EV
theorem pf:PF F:=⟨rfl,rfl,rfl,rfl,rfl,rfl,rfl,rfl,rfl,rfl,rfl,rfl,rfl,rfl,rfl,rfl,rfl,rfl,rfl,rfl,rfl,rfl,rfl,rfl,rfl,rfl,rfl,rfl,rfl,rfl,rfl,rfl⟩
end K41
theorem a6n:∀ns:List Int,ns.length<=63->∃h',EV.b6 K41.ct K41.F 20 218 [.ref 0] [.rol (ns.map .int)]=.ok (.bl true) h':=fun ns hl=>EV.b4S (d:=9) K41.pf hl rfl rfl rfl rfl rfl rfl rfl rfl rfl rfl rfl rfl rfl rfl rfl rfl rfl rfl rfl rfl
open PySem PySem.W PyProof.Rows
namespace PySem.W.Fast
def tw9246613783809333176:Nat:=0
def tw3094701115853657799:Nat:=0
def tw1647960591809683682:Nat:=0
def tw8868170100633976899:Nat:=0
def tw8864581371791309716:Nat:=0
def tw7698093992028202642:Nat:=0
def tw3699721879717830906:Nat:=0
def tw13738741824453386163:Nat:=0
def tw8247945609908704884:Nat:=0
def tw12857750549838433791:Nat:=0
def tw4227517698962585424:Nat:=0
def tw3603605348021866008:Nat:=0
def tw17837415989878807268:Nat:=0
def tw3871590986955078291:Nat:=0
def tw5260856337621036202:Nat:=0
def tw14889595167817102546:Nat:=0
def tw234749781942434899:Nat:=0
def tw6017506618534441898:Nat:=0
def tw12048056826642495367:Nat:=0
def tw16950569574821323974:Nat:=0
def tw2766794811542550618:Nat:=0
def tw11712190458185945011:Nat:=0
def tw7363425622247834253:Nat:=0
def tw6397798872860733234:Nat:=0
def tw69414778264802052:Nat:=0
def tw1173414789623836638:Nat:=0
def tw2947586027576077979:Nat:=0
def tw15724745641170818534:Nat:=0
def tw17847650733935569616:Nat:=0
def tw5030944203280556702:Nat:=0
def tw9563574807059059695:Nat:=0
def tw1906743188756502811:Nat:=0
def tw12976177241038019767:Nat:=0
def tw7158441374720773216:Nat:=0
def tw12018387782679925087:Nat:=0
def tw10785849952161257653:Nat:=0
def tw13426244417702134072:Nat:=0
def tw6728313399510405491:Nat:=0
def tw11289143093466461953:Nat:=0
def tw17456480263006714056:Nat:=0
def tw7076977106511060911:Nat:=0
def tw17643754061406199020:Nat:=0
def tw15536387163757344236:Nat:=0
def tw5713610079918043996:Nat:=0
def tw8621336744817483243:Nat:=0
def tw16745343075639119971:Nat:=0
def tw6771182271545134960:Nat:=0
def tw11187973929812520656:Nat:=0
def tw16629561534657121264:Nat:=0
def tw4203021270051977171:Nat:=0
def tw7042659310547366237:Nat:=0
def tw8237626310708396552:Nat:=0
def tw3016012700857477809:Nat:=0
def tw5105673956185107153:Nat:=0
def tw17338234738716814015:Nat:=0
def tw3083371992184736890:Nat:=0
def tw12068798485007620914:Nat:=0
def tw5011889884212318148:Nat:=0
def tw12319047049370110589:Nat:=0
def tw5587484289544270231:Nat:=0
def tw14245618210516037357:Nat:=0
def tw9161490523856799436:Nat:=0
def tw7317234293075219:Nat:=0
def tw5680315236850328200:Nat:=0
def tw14949513074056673275:Nat:=0
def tw8174591469460913490:Nat:=0
def tw15886500619415505586:Nat:=0
def tw3664731896753646195:Nat:=0
def tw8605165415444627158:Nat:=0
def tw9835382159548102362:Nat:=0
def tw14398365135244066966:Nat:=0
def tw10241233070082051121:Nat:=0
def tw17334881123488906936:Nat:=0
def tw1620389302784492585:Nat:=0
def tw6737687440995333003:Nat:=0
def tw9192171586001469603:Nat:=0
def tw17960406059949683352:Nat:=0
def tw7215932318001415403:Nat:=0
def tw17845374550828520631:Nat:=0
def tw4621932581444047675:Nat:=0
def tw11622863634709415212:Nat:=0
def tw16968176118458789586:Nat:=0
def tw8426798971799828003:Nat:=0
def tw13402640891724300857:Nat:=0
def tw13553050674002434610:Nat:=0
def tw12434779806091606683:Nat:=0
def tw11002848052431835627:Nat:=0
def tw8160871880118814707:Nat:=0
def tw16655083059833703075:Nat:=0
def tw16932301668260661676:Nat:=0
def tw16408362238061914836:Nat:=0
def tw17427895641331663283:Nat:=0
def tw18221076124747093969:Nat:=0
def tw6731276024794131016:Nat:=0
def tw8454840944936950519:Nat:=0
def tw4033379813872489195:Nat:=0
def tw14613296582639449008:Nat:=0
def tw5485572742587201778:Nat:=0
def tw17882641709403210578:Nat:=0
def tw17996964024917085871:Nat:=0
def tw5015507407206683207:Nat:=0
def tw8697654515486363317:Nat:=0
def tw15755044616229629136:Nat:=0
def tw7097827964152542560:Nat:=0
def tw7524379617451308511:Nat:=0
def tw12325562205625792791:Nat:=0
def tw17094580856887593759:Nat:=0
def tw7618804249908900691:Nat:=0
def tw17590088832654516399:Nat:=0
def tw16266442582153907279:Nat:=0
def tw3471986238504059686:Nat:=0
def tw16286715671046524454:Nat:=0
def tw12712400820596877648:Nat:=0
def tw10896712999787139778:Nat:=0
def tw9601000219436670146:Nat:=0
def tw14374603453287560736:Nat:=0
def tw1833547357909804662:Nat:=0
def tw11300376045408061371:Nat:=0
def tw17513604867990543079:Nat:=0
def tw16915470645016011554:Nat:=0
def tw14501001857826371202:Nat:=0
def tw18167724695441219349:Nat:=0
def tw12300527617525357084:Nat:=0
def tw11763852733077360975:Nat:=0
def tw9508736203920968164:Nat:=0
def tw12079628635447562283:Nat:=0
def tw10393078302967963895:Nat:=0
def tw10134030333460990790:Nat:=0
def tw15213048550514571353:Nat:=0
def tw15679247252792206210:Nat:=0
def tw7470021291188754609:Nat:=0
def tw12059592832596718669:Nat:=0
def tw14805814515597417852:Nat:=0
def tw17960848765466677729:Nat:=0
def tw17721039672839981703:Nat:=0
def tw8934421753687110507:Nat:=0
def tw17849293660312457548:Nat:=0
def tw17093224777342109595:Nat:=0
def tw3822784309164373692:Nat:=0
def tw6662249597110656733:Nat:=0
def tw1391549112126926301:Nat:=0
def tw2962324470309885386:Nat:=0
def tw5426448371682200115:Nat:=0
def tw2257529940240947247:Nat:=0
def tw16472409268878238316:Nat:=0
def tw4584130408075211490:Nat:=0
def tw4968929673044707356:Nat:=0
def tw8436589768386056944:Nat:=0
def tw2680141511932349947:Nat:=0
def tw11930311979851757478:Nat:=0
def tw17704188385166749297:Nat:=0
def tw5681066748535004433:Nat:=0
def tw539595736760451978:Nat:=0
def tw6511239469406747073:Nat:=0
def tw3101917741504857134:Nat:=0
def tw2648174423076098445:Nat:=0
def tw9774394379856643515:Nat:=0
def tw8933567498414919238:Nat:=0
def tw7340446101256811000:Nat:=0
def tw7090585071989052306:Nat:=0
def tw5609530884314319229:Nat:=0
def tw14267268813261638861:Nat:=0
def tw17925384258215065573:Nat:=0
def tw15515405784836723652:Nat:=0
def tw5623994078177797194:Nat:=0
def tw15452572443179084588:Nat:=0
def tw12798869161161681673:Nat:=0
def tw13218621648322568166:Nat:=0
def tw4026151001005817321:Nat:=0
def tw10700183255674453818:Nat:=0
def tw16970792351503237766:Nat:=0
def tw16118103595353321548:Nat:=0
def tw8903238766108814736:Nat:=0
def tw734138898119960010:Nat:=0
def tw1541540961381408409:Nat:=0
def tw13829591483307370896:Nat:=0
def tw9296360433889664002:Nat:=0
def tw804092199982636349:Nat:=0
def tw4954584648838934644:Nat:=0
def tw2385268686561707046:Nat:=0
def tw13792483299354683862:Nat:=0
def tw8621301723031713458:Nat:=0
def tw13478877428745155630:Nat:=0
def tw9897558803702562313:Nat:=0
def tw9685044298169568939:Nat:=0
def tw9585978970863474492:Nat:=0
def tw7945405709010385892:Nat:=0
def tw6784790241324674965:Nat:=0
def tw671769174312181376:Nat:=0
def tw670427922429333600:Nat:=0
def tw5552461122284547459:Nat:=0
def tw5427499738942290107:Nat:=0
def tw4177351759533223642:Nat:=0
def tw3904583755211930517:Nat:=0
def tw3808584094389355786:Nat:=0
def tw3482820431698744051:Nat:=0
def tw3133745999044795564:Nat:=0
def tw305048472116853797:Nat:=0
def tw2927799364441409784:Nat:=0
def tw1998032249293215463:Nat:=0
def tw1948689806639624469:Nat:=0
def tw17857563459279650048:Nat:=0
def tw17802128708061929859:Nat:=0
def tw17698735102306075112:Nat:=0
def tw16803143847538834185:Nat:=0
def tw15854262060937163188:Nat:=0
def tw1567247161763788871:Nat:=0
def tw15508019666092448443:Nat:=0
def tw15078095837771203109:Nat:=0
def tw14790834132378566595:Nat:=0
def tw14199714164133228370:Nat:=0
def tw14064692534454641163:Nat:=0
def tw13887902116395311400:Nat:=0
def tw1322031339247656150:Nat:=0
def tw12532165626772418067:Nat:=0
def tw11586196018267737339:Nat:=0
def tw11347631108264317165:Nat:=0
def tw11320351676317602388:Nat:=0
def tw10846345724684618374:Nat:=0
def tw10693841506766600124:Nat:=0
def tw380427412101292441:Nat:=0
def tw13231743877010270464:Nat:=0
def tw8164005668110941744:Nat:=0
def tw644751248652905101:Nat:=0
def tw5738919822854818926:Nat:=0
def tw3121739546393284973:Nat:=0
def tw15431134087688302020:Nat:=0
def tw14734032772098568817:Nat:=0
def tw13481268755573549168:Nat:=0
def tw12514039047250868702:Nat:=0
def tw11732214188671553305:Nat:=0
def tw10497823618577955822:Nat:=0
def tw16749348522385944071:Nat:=0
def tw16504757533647375273:Nat:=0
def tw5036445103931068615:Nat:=0
def tw10299302589577801163:Nat:=0
def tw2852278927748849453:Nat:=0
def tw9455475090630465045:Nat:=0
def tw8864380892348041232:Nat:=0
def tw8131721106225051767:Nat:=0
def tw7317576523658780031:Nat:=0
def tw6315216371427503177:Nat:=0
def tw5845538515087863352:Nat:=0
def tw3302770140995672700:Nat:=0
def tw2873748437651673626:Nat:=0
def tw16463793508043411602:Nat:=0
def tw15223397061033166810:Nat:=0
def tw13949155002146243131:Nat:=0
def tw13517250619966689955:Nat:=0
def tw13952158723898717365:Nat:=0
def tw17878424488110687958:Nat:=0
def tw11188117447681078326:Nat:=0
def tw9497945907656264259:Nat:=0
def tw4361700775904427359:Nat:=0
def tw10426125643436316091:Nat:=0
def tw6252695792229605141:Nat:=0
def tw5674458297940323589:Nat:=0
def tw9515242367644423802:Nat:=0
def tw14869557710840242666:Nat:=0
def tw1176975735165151067:Nat:=0
def tw5312734613080425828:Nat:=0
def tw9715166753854553471:Nat:=0
def tw931956834028986255:Nat:=0
def tw9156678896304099913:Nat:=0
def tw8824595633291508535:Nat:=0
def tw8526028360262338249:Nat:=0
def tw8249347019533418915:Nat:=0
def tw8078195926588453703:Nat:=0
def tw7894344252036594922:Nat:=0
def tw7717702957765121957:Nat:=0
def tw7498633149979677338:Nat:=0
def tw7395645310213146516:Nat:=0
def tw7388713464098733815:Nat:=0
def tw7343611390307366373:Nat:=0
def tw726985913927333873:Nat:=0
def tw6834397320308548248:Nat:=0
def tw6788773261714906821:Nat:=0
def tw6623812351622530092:Nat:=0
def tw6585068141940680455:Nat:=0
def tw6205024481829086969:Nat:=0
def tw5916140570258018564:Nat:=0
def tw5613845454599061817:Nat:=0
def tw5388663596951873645:Nat:=0
def tw5353813085845620550:Nat:=0
def tw529536973988259948:Nat:=0
def tw4674102799890499726:Nat:=0
def tw4626940704210403192:Nat:=0
def tw4475145619620083286:Nat:=0
def tw4419873286371483742:Nat:=0
def tw438459731153329746:Nat:=0
def tw4211952112222678748:Nat:=0
def tw4211700434839312001:Nat:=0
def tw4179031660912777645:Nat:=0
def tw3942624392001961204:Nat:=0
def tw3520363519792060846:Nat:=0
def tw3373145609055282853:Nat:=0
def tw3241244739717862871:Nat:=0
def tw3172541193896328996:Nat:=0
def tw3092117133297227249:Nat:=0
def tw274189353798237994:Nat:=0
def tw2484844197603217540:Nat:=0
def tw2456577590951144490:Nat:=0
def tw18431155831084640082:Nat:=0
def tw18329075359065952542:Nat:=0
def tw18277388166739348960:Nat:=0
def tw18042889414512086050:Nat:=0
def tw17969941481158815411:Nat:=0
def tw17624731456758155189:Nat:=0
def tw17601101962401091345:Nat:=0
def tw17312996333117680517:Nat:=0
def tw17108046237660401759:Nat:=0
def tw16884622931589843948:Nat:=0
def tw16607927582987124570:Nat:=0
def tw16550838102048051623:Nat:=0
def tw16469568281967520401:Nat:=0
def tw16172578528114110199:Nat:=0
def tw16131593051203169754:Nat:=0
def tw16002967266952078866:Nat:=0
def tw15545184769064153574:Nat:=0
def tw15261137711255440680:Nat:=0
def tw15155859288707382567:Nat:=0
def tw15137687247720179910:Nat:=0
def tw15069716523494295500:Nat:=0
def tw14722794537435163219:Nat:=0
def tw14712817762504950641:Nat:=0
def tw14678158920106854735:Nat:=0
def tw14566440943485919492:Nat:=0
def tw14439765378166140033:Nat:=0
def tw14323227155912201964:Nat:=0
def tw14191745827877185554:Nat:=0
end PySem.W.Fast
open_top head for PySem.Challenge.rw_glyphhall_k41_widths
theorem PySem.Challenge.cw_glyphhall_k41_widths_holds : PySem.Challenge.rw_glyphhall_k41_widths.Holds :=
 head (by
 refine K41.b6o (l:=PySem.Challenge.rw_glyphhall_k41_widths) (n:=63) (k:=46) (x:="_law_script") (CX:=fun _=>L2.CX0) (sp:=K41.spK) rfl (by decide) rfl ⟨rfl,by decide,by decide⟩ (fun w h Y=>PySem.W.kIn_of Y) ?F ?S ?C
 case F=>
  intro w mg fa h KX G hmg
  have T:∃cA,K41.DfE (L2.KOf KX) "law" K41.a4M/\∀{h:Heap} {mg:Str->Option Value},(L2.KOf KX).In h->h.Ns mainGlobals mg->EV.Stat PySem.Challenge.rw_glyphhall_k41_widths.prog w ⟨L2.KOf KX,cA,[6],[]⟩ K41.G K41.ct K41.F mg:=by
   dsimp only[L2.KOf]
   clear hmg
   refine' K41.b1F ?a0 ?a1 ?a2 ?a3 ?a4 ?a5 ?a6 ?a7 ?a8 ?a9 ?a10 ?a11 ?a12 ?a13 ?a14 ?a15 ?a16 ?a17 ?a18 ?a19 ?a20 ?a21 ?a22 ?a23 ?a24 ?a25 ?a26 ?a27 ?a28 ?a29 ?a30 ?a31 ?a32 ?a33 ?a34 ?a35 ?a36 ?a37 ?a38 ?a39 ?a40 ?a41 ?a42 ?a43 ?a44 ?a45 ?a46 ?a47 ?a48 ?a49 ?a50 ?a51 ?a52 ?a53 ?a54 ?a55 ?a56 ?a57 ?a58 ?a59 ?a60 ?a61 ?a62 ?a63 ?a64 ?a65 ?a66 ?a67 ?a68 ?a69 ?a70 ?a71 ?a72 ?a73 ?a74 ?a75 ?a76 ?a77 ?a78 ?a79 ?a80 ?a81 ?a82 ?a83 ?a84 ?a85 ?a86 ?a87 ?a88 ?a89 ?a90 ?a91 ?a92 ?a93
   (case a0|a71|a72|a73|a74|a75|a76|a77|a78|a79|a80|a81|a82|a83|a84|a85|a86|a87|a88|a89|a90|a91|a92|a93=>k_is)
   (case a1|a2|a3|a4|a5|a6|a7|a8|a9|a10|a11|a12|a13|a14|a15|a16|a17|a18|a19|a20|a21|a22|a23|a24|a25|a26|a27|a28|a29|a30|a31|a32|a33|a34|a35|a36|a37|a38|a39|a40|a41|a42|a43|a44|a45|a46|a47|a48|a49|a50=>refine' K41.b7G ?x ?y ?z ?u;(case x=>k_is);(case y=>k_is);(case z=>k_is);(case u=>k_is))
   (case a51|a52|a53=>refine' K41.b3R ?e1;(case e1=>k_is))
   (case a54|a55|a56|a57|a58|a59|a60|a61|a62|a63|a64=>refine' K41.b5e ?e1;(case e1=>k_is))
   (case a65|a66=>refine' K41.b1q ?e1 ?e2;(case e1=>k_is);(case e2=>k_is))
   (case a67=>refine' K41.b1p ?e1 ?e2;(case e1=>k_is);(case e2=>k_is))
   (case a68=>refine' K41.b3b ?e1 ?e2 ?e3 ?e4 ?e5 ?e6 ?e7 ?e8;(case e1=>k_is);(case e2=>k_is);(case e3=>decide);(case e4=>rfl);(case e5=>rfl);(case e6=>rfl);(case e7=>rfl);(case e8=>decide))
   (case a69=>refine' K41.b2E ?m1 ?m2 ?m3 ?m4 ?e2 ?e3 ?e4;(case m1=>k_is);(case m2=>k_is);(case m3=>k_is);(case m4=>k_is);(case e2=>k_is);(case e3=>k_is);(case e4=>k_is))
   (case a70=>refine' ⟨?p1,?p2,?p3,?p4⟩;(case p1=>k_is);(case p2=>k_is);(case p3=>k_is);(case p4=>k_is))
  obtain⟨cA,D,T⟩:=T;obtain⟨fd,h1,h2⟩:=K41.b5l D (T KX G) KX G hmg;exact⟨fd,h1,fun base _ _=>h2 base⟩
 case S=>
  intro w H a ns hl hO hS;refine K41.b4R a6n ?nl hl hO hS
  (case nl=>kernel_rfl)
 case C=>exact fun w H s e s' z=>z)
