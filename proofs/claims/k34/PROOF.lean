import PyProof.Rows.All
import Wide.All
import OpenK.AllK
import Wide.FinOn
import PyProof.EqAt
import PyProof.EqKinds
import PyProof.TupleCall
import OpenK.KOwn
import PyProof.CompUse
import PyProof.NeKinds
import PyProof.StrOps2
import KE.KDictOf
import PyProof.AttrMissHeap
import PyProof.ListRange
import PyProof.TupleOfGen
import PyProof.CollectStr
import KE.KRevIter
import PyProof.StrLawsTight
import PyProof.StrLawsChain
import PyProof.StrLawsIn
import PyProof.StrLawsIdx
import PyProof.Rows.CatFin
import PyProof.Rows.StrItems
import KE.IntTextLaws
import PyProof.Rows.ReprOcc
import PyProof.FitsInt
import KE.KIntText
import Lean
import PySem.Challenge.RW_glyphhall_k34_rings_walked
set_option Elab.async false
set_option linter.all false
set_option maxRecDepth 100000
set_option maxHeartbeats 0
def aa:=@List.length_map
def ac:=@List.getElem?_eq_some_iff
def ae:=@Bool.and_eq_true
def af:=@List.getElem?_eq_getElem
def ai:=@Nat.le_refl
def aj:=@List.getElem?_map
def ak:=@List.mem_map
def al:=@List.map_append
def am:=@List.length_append
def ao:=@List.getElem?_append_right
def ap:=@List.getElem?_append_left
def aq:=@of_decide_eq_true
def au:=@Option.some.inj
def av:=@if_pos
def aw:=@if_neg
def ax:=@List.append_assoc
def ay:=@Nat.zero_add
def az:=@Nat.lt_of_lt_of_le
def aA:=@List.mem_cons_of_mem
def aB:=@List.mem_cons
def aC:=@List.mem_of_getElem?
def aD:=@List.map_map
def aE:=@List.length_range
def aF:=@List.mem_append
def aG:=@List.length_take
def aH:=@List.mem_range
def aI:=@List.mem_singleton
def aJ:=@Nat.lt_irrefl
def aK:=@Nat.le_trans
def aL:=@Nat.lt_succ_self
def aM:=@Nat.le_of_not_lt
def aN:=@List.nodup_cons
def aO:=@List.getElem?_eq_none
def aP:=@List.mem_cons_self
def aQ:=@List.append_nil
def aR:=@decide_eq_true
def aS:=@List.take_length
def aU:=@List.take_of_length_le
def aV:=@List.mem_filter
def aW:=@List.length_replicate
def aX:=@List.all_eq_true
def aY:=@List.any_eq_true
def aZ:=@Bool.or_eq_true
def ba:=@Bool.false_ne_true
def bc:=@List.getElem_mem
def bf:=@decide_eq_false
def bg:=@List.length_drop
def bh:=@List.getElem?_take_of_lt
def bj:=@List.getElem?_replicate
open List (mem_append_left getElem_inj mem_append_right size_toArray length_cons map_cons of_mem_zip length_set all_cons any_cons reverse_cons replicate_succ flatten_cons foldl_cons length_reverse nil_append length_nil map_nil lookup_cons all_map not_mem_nil drop_eq_getElem_cons drop_zero take_succ_eq_append_getElem countP_cons mem_iff_getElem? nodup_append ext_getElem? length_eq_zero_iff nodup_nil isEmpty_iff drop_length cons_ne_nil cons_append map_id filter_map all_nil drop_succ_cons mem_of_mem_drop nil_sublist map_drop map_reverse)
noncomputable section
set_option compiler.extract_closed false
namespace L2
open PySem PySem.Spec PyProof.Rows
abbrev Key:=Sum Int Str
noncomputable def a3X:Key->Value->Bool
 |.inl k,v=>Value.isInt k v
 |.inr x,v=>Value.isStrOf x v
noncomputable def c0o(w:World):Key->Int
 |.inl k=>hashInt k
 |.inr x=>hashStr w x
theorem z4:∀{k:Key} {v:Value},a3X k v=true->(∃i t,k=Sum.inl i/\v=Value.int i t)∨(∃x t,k=Sum.inr x/\v=Value.str x t)
 |.inl i,v,h=>by
  obtain⟨t,e⟩:=Value.isInt_shape (k:=i) (v:=v) h;exact .inl ⟨i,t,rfl,e⟩
 |.inr x,v,h=>by
  obtain⟨t,e⟩:=Value.isStrOf_shape (x:=x) (v:=v) h;exact .inr ⟨x,t,rfl,e⟩
theorem a8Y(i:Int)(t:Tok):a3X (.inl i) (.int i t)=true:=by simp[a3X,Value.isInt]
theorem a8X(x:Str)(t:Tok):a3X (.inr x) (.str x t)=true:=by simp[a3X,Value.isStrOf]
theorem b5Q(a b:Int):decide ((Sum.inl a:Key)=Sum.inl b)=(a==b):=by
 by_cases e:a=b
 · subst e;simp
 · have h:¬(Sum.inl a:Key)=Sum.inl b:=fun q=>e (Sum.inl.inj q)
   rw[bf h];exact(beq_eq_false_iff_ne.mpr e).symm
theorem b5N(a b:Str):decide ((Sum.inr a:Key)=Sum.inr b)=decide (a=b):=by
 by_cases e:a=b
 · subst e;simp
 · have h:¬(Sum.inr a:Key)=Sum.inr b:=fun q=>e (Sum.inr.inj q)
   rw[bf h,bf e]
theorem b5P(a:Int)(b:Str):decide ((Sum.inl a:Key)=Sum.inr b)=false:=bf (fun q=>nomatch q)
theorem b5O(a:Str)(b:Int):decide ((Sum.inr a:Key)=Sum.inl b)=false:=bf (fun q=>nomatch q)
def u6 (prog:Program) (w:World):PySem.KeyKind prog w Key where
 is:=a3X
 hash:=c0o w
 inj:=fun v a b ha hb=>by
  rcases z4 ha with⟨i,t,rfl,rfl⟩|⟨x,t,rfl,rfl⟩
  · rcases z4 hb with⟨j,u,rfl,e⟩|⟨y,u,rfl,e⟩
    · injection e with e1 _;rw[e1]
    · exact nomatch e
  · rcases z4 hb with⟨j,u,rfl,e⟩|⟨y,u,rfl,e⟩
    · exact nomatch e
    · injection e with e1 _;rw[e1]
 byValue:=fun k v h=>by
  rcases z4 h with⟨i,t,rfl,rfl⟩|⟨x,t,rfl,rfl⟩<;>rfl
 pyHash:=fun hv h=>by
  rcases z4 hv with⟨i,t,rfl,rfl⟩|⟨x,t,rfl,rfl⟩
  · exact wpAny_pyHash_int h
  · exact wpAny_pyHash_str h
 eqBool:=fun hu hv h=>by
  rcases z4 hu with⟨i,t,rfl,rfl⟩|⟨x,t,rfl,rfl⟩
  · rcases z4 hv with⟨j,u,rfl,rfl⟩|⟨y,u,rfl,rfl⟩
    · rw[b5Q] at h;exact wpAny_eqBool_int h
    · rw[b5P] at h;exact SeqAt.EqAt.int_str i t y u _ _ _ _ h
  · rcases z4 hv with⟨j,u,rfl,rfl⟩|⟨y,u,rfl,rfl⟩
    · rw[b5O] at h;exact SeqAt.EqAt.str_int x t j u _ _ _ _ h
    · rw[b5N] at h;exact wpAny_eqBool_str h
 «strs»:=fun k x t v h=>by
  rcases z4 h with⟨i,u,rfl,e⟩|⟨y,u,rfl,e⟩
  · exact nomatch e
  · injection e with e1 _
    subst e1
    cases v<;>rfl
theorem a5X(prog:Program)(w:World)(i:Int)(t:Tok):(u6 prog w).is (.inl i) (.int i t)=true:=a8Y i t
theorem a5W(prog:Program)(w:World)(x:Str)(t:Tok):(u6 prog w).is (.inr x) (.str x t)=true:=a8X x t
inductive V where
 |non|bl (b:Bool)|int (i:Int)|str (x:Str)|byt (b:Array UInt8)|flt (b:UInt64)|ref (a:Addr)|ty (n:String)
 deriving DecidableEq
def n0:V->Value->Prop
 |.non,u=>u=Value.none
 |.bl b,u=>u=Value.bool b
 |.int i,u=>∃t,u=Value.int i t
 |.str x,u=>∃t,u=Value.str x t
 |.byt b,u=>∃t,u=Value.bytes b t
 |.flt b,u=>∃t,u=Value.float b t
 |.ref a,u=>u=Value.ref a
 |.ty n,u=>u=Value.type n
abbrev k8:List V->List Value->Prop:=Paired n0
variable{us:List Value}
theorem k8.length{xs:List V}(r:k8 xs us):xs.length=us.length:=Paired.length r
theorem k8.get:∀{xs:List V} {us:List Value} {i:Nat} {x:V},k8 xs us->xs[i]? =some x->∃u,us[i]? =some u/\n0 x u
 |_,_,_,_,.nil,e=>by simp at e
 |_,_,0,_,.cons r _,e=>by simp at e;subst e;exact⟨_,rfl,r⟩
 |_,_,i+1,x,.cons _ t,e=>by
  obtain⟨u,h1,h2⟩:=k8.get (i:=i) (x:=x) t (by simpa using e)
  exact⟨u,by simpa using h1,h2⟩
theorem k8.set{x:V}{u:Value}(r:n0 x u):∀{xs:List V} {us:List Value} (i:Nat),k8 xs us->k8 (xs.set i x) (us.set i u)
 |_,_,_,.nil=>.nil
 |_,_,0,.cons _ t=>.cons r t
 |_,_,i+1,.cons q t=>.cons q (k8.set r i t)
theorem k8.append:∀{xs ys:List V} {us ws:List Value},k8 xs us->k8 ys ws->k8 (xs++ys) (us++ws)
 |_,_,_,_,.nil,s=>s
 |_,_,_,_,.cons r t,s=>.cons r (k8.append t s)
theorem k8.take:∀{xs:List V} {us:List Value} (n:Nat),k8 xs us->k8 (xs.take n) (us.take n)
 |_,_,0,_=>.nil
 |_,_,_+1,.nil=>.nil
 |_,_,n+1,.cons r t=>.cons r (k8.take n t)
theorem k8.drop:∀{xs:List V} {us:List Value} (n:Nat),k8 xs us->k8 (xs.drop n) (us.drop n)
 |_,_,0,r=>r
 |_,_,_+1,.nil=>.nil
 |_,_,n+1,.cons _ t=>k8.drop n t
def a0G:Option V->Option Value->Prop
 |some v,some u=>n0 v u
 |none,none=>True
 |_,_=>False
def KV{κ:Type}:List (κ×V)->List (κ×Value)->Prop:=Paired fun(p:κ×V) (q:κ×Value)=>p.1=q.1/\n0 p.2 q.2
noncomputable def kV:Key->V
 |.inl i=>.int i
 |.inr x=>.str x
inductive HO where
 /-- a list -/
 |lst (xs:List V)
 /-- a tuple (never changes) -/
 |tup (xs:List V)
 /-- a dict whose keys are ints and texts; one whose keys are tuples of ints and texts (the empty one is both) -/
 |dK (kvs:List (Key×V))|dT (kvs:List (List Key×V))
 /-- a set of ints: its members, its size -/
 |set (S:Int->Bool) (n:Nat)
 /-- an instance of the class at C, its dict at dx, its attributes -/
 |ins (C dx:Addr) (fs:List (Str×V))
 /-- the dict of the instance at x -/
 |own (x:Addr)
 /-- the dict of an exception -/
 |xd (fs:List (Str×V))
 /-- a bound method, f of x -/
 |met (f x:Addr)
 /-- a range object lo, lo + 1, .. below hi -/
 |rng (lo hi:Int)
 /-- a thing that is known to the object (the script; a dict while a loop walks it): read, never written while it is so -/
 |frz (o:Obj) (u:HO)
 /-- a code object's table -/
 |tbl (ps:Array Value)
 /-- any other thing, by what is true of its one object (a def of one's own: SetO a S n := HO.ext fun h => ..) -/
 |ext (φ:Heap->Prop)
abbrev Hp:=Addr->Option HO
noncomputable def upd(H:Hp)(a:Addr)(o:HO):Hp:=fun b=>if b=a then some o else H b
variable{H:Hp}{a:Addr}
theorem d0{o:HO}:upd H a o a=some o:=by unfold upd;rw[av rfl]
variable{b:Addr}
theorem l8{o:HO}(h:b≠a):upd H a o b=H b:=by unfold upd;rw[aw h]
theorem b8b{o u:HO}(h:H a=some o)(h':H b=some u)(d:o≠u):a≠b:=by
 intro e;subst e;rw[h] at h';exact d (au h')
theorem u0{o:HO}(h:H a=some o)(h':H b=none):a≠b:=by
 intro e;subst e;rw[h] at h';cases h'
def a0q(h:Heap)(a:Addr)(items:Array Value):Prop:=∃o,h.get? a=some o/\o.cls=.type "tuple"/\o.dict=none/\∃n,o.data=.seq items n
theorem a0q.tup{h:Heap}{a:Addr}{items:Array Value}(x:a0q h a items):IsTup h a items:=let⟨o,e,c,_,n⟩:=x;⟨o,e,c,n⟩
theorem a0q.new(h:Heap)(items:Array Value):a0q (h.push {cls:=.type "tuple",data:=.seq items}) h.objs.size items:=⟨_,Heap.get?_push_size _ rfl,rfl,rfl,_,rfl⟩
section
variable(P:Program)(w:World)
def B0(H:Hp)(h:Heap)(a:Addr):HO->Prop
 |.lst xs=>xs.length<=sizeLine/\∃(its:List Value) (n:Nat),k8 xs its/\h.get? a=some {cls:=.type "list",data:=.seq its.toArray n}
 |.tup xs=>xs.length<=sizeLine/\∃its:List Value,k8 xs its/\a0q h a its.toArray
 |.dK kvs=>kvs.length<=sizeLine/\(a==sysModules)=false/\∃vs,KV kvs vs/\h.DictOf (u6 P w) a vs
 |.dT kvs=>kvs.length<=sizeLine/\(a==sysModules)=false/\∃xs:List (List Key×Addr×Value),
  Paired (fun(p:List Key×V) (q:List Key×Addr×Value)=>p.1=q.1/\H q.2.1=some (.tup (p.1.map kV))/\n0 p.2 q.2.2) kvs xs∧
  ∃o es ep,h.get? a=some o/\o.ExactDict/\o.data=.dict es ep/\es.toList=xs.map (entryOfKey (tupleKind (u6 P w)))/\(xs.map (·.1)).Nodup
 |.set S n=>h.SetOf (intKind P w) a S n
 |.ins C dx fs=>H dx=some (.own a)/\fs.length<=1000/\dx≠a/\h.get? a=some (PySem.W.instObj C dx)∧
  ∃mA,h.Ns1 dx mA/\(∀f,a0G (fs.lookup f) (mA f))/\PySem.Within mA (fs.map (·.1))
 |.own _=>∃o,h.get? a=some o
 |.xd fs=>∃mA,h.Ns1 a mA/\∀f,a0G (fs.lookup f) (mA f)
 |.rng lo hi=>∃t u v,h.get? a=some {cls:=.type "range",data:=.fields #[.int lo t,.int hi u,.int 1 v]}
 |.frz o u=>h.get? a=some o/\B0 H h a u
 |.tbl ps=>h.get? a=some {cls:=.none,data:=.fields ps}
 |.met f x=>h.get? a=some (PySem.W.methodObj (.ref f) (.ref x))
 |.ext φ=>φ h/\(∃o,h.get? a=some o)/\∀h1 h2:Heap,φ h1->(∀o,h1.get? a=some o->h2.get? a=some o)->φ h2
def HOk(H:Hp)(h:Heap):Prop:=∀a o,H a=some o->B0 P w H h a o
end
variable{α:Type}
section
variable{P:Program}{w:World}{H':Hp}{h h':Heap}{o:HO}
theorem B0.lt(x:B0 P w H h a o):a<h.objs.size:=by
 cases o with
 |lst xs=>obtain⟨_,_,_,_,e⟩:=x;exact Heap.lt_size e
 |tup xs=>obtain⟨_,_,_,p⟩:=x;exact p.tup.lt
 |dK kvs=>obtain⟨_,_,_,_,o,_,_,e,_⟩:=x;exact Heap.lt_size e
 |dT kvs=>obtain⟨_,_,_,_,o,_,_,e,_⟩:=x;exact Heap.lt_size e
 |set S n=>obtain⟨o,_,_,_,e,_⟩:=x;exact Heap.lt_size e
 |ins C dx fs=>obtain⟨_,_,_,e,_⟩:=x;exact Heap.lt_size e
 |own y=>obtain⟨_,e⟩:=x;exact Heap.lt_size e
 |xd fs=>obtain⟨_,⟨_,_,_,e,_⟩,_⟩:=x;exact Heap.lt_size e
 |rng lo hi=>obtain⟨_,_,_,e⟩:=x;exact Heap.lt_size e
 |frz ob u=>obtain⟨e,_⟩:=x;exact Heap.lt_size e
 |tbl ps=>exact Heap.lt_size (show h.get? a=some _ from x)
 |met f y=>exact Heap.lt_size (show h.get? a=some _ from x)
 |ext φ=>obtain⟨_,⟨_,e⟩,_⟩:=x;exact Heap.lt_size e
theorem Paired.mapP{α β:Type}{F G:α->β->Prop}:∀{l₁:List α} {l₂:List β},Paired F l₁ l₂->(∀a b,F a b->G a b)->Paired G l₁ l₂
 |_,_,.nil,_=>.nil
 |_,_,.cons r t,f=>.cons (f _ _ r) (Paired.mapP t f)
theorem B0.stay(x:B0 P w H h a o)(k:∀b u,(b=a∨H b=some (.own a))->h.get? b=some u->h'.get? b=some u)
 (ho:∀b,H b=some (.own a)->H' b=some (.own a)) (ht:∀b xs,H b=some (.tup xs)->H' b=some (.tup xs)):B0 P w H' h' a o:=by
 induction o with
 |lst xs=>obtain⟨z,its,n,r,e⟩:=x;exact⟨z,its,n,r,k _ _ (.inl rfl) e⟩
 |tup xs=>obtain⟨z,its,r,ob,e,c⟩:=x;exact⟨z,its,r,ob,k _ _ (.inl rfl) e,c⟩
 |dK kvs=>obtain⟨z,y,vs,r,ob,es,ep,e,c⟩:=x;exact⟨z,y,vs,r,ob,es,ep,k _ _ (.inl rfl) e,c⟩
 |dT kvs=>
  obtain⟨z,y,xs,r,ob,es,ep,e,c⟩:=x;exact⟨z,y,xs,Paired.mapP r fun p q z=>⟨z.1,ht _ _ z.2.1,z.2.2⟩,ob,es,ep,k _ _ (.inl rfl) e,c⟩
 |set S n=>obtain⟨ob,es,ep,t,e,c⟩:=x;exact⟨ob,es,ep,t,k _ _ (.inl rfl) e,c⟩
 |ins C dx fs=>
  obtain⟨d,z,ne,e,mA,⟨od,es,ep,e2,c⟩,r⟩:=x;exact⟨ho _ d,z,ne,k _ _ (.inl rfl) e,mA,⟨od,es,ep,k _ _ (.inr d) e2,c⟩,r⟩
 |own y=>obtain⟨ob,e⟩:=x;exact⟨ob,k _ _ (.inl rfl) e⟩
 |xd fs=>obtain⟨mA,⟨od,es,ep,e,c⟩,r⟩:=x;exact⟨mA,⟨od,es,ep,k _ _ (.inl rfl) e,c⟩,r⟩
 |rng lo hi=>obtain⟨t,u,v,e⟩:=x;exact⟨t,u,v,k _ _ (.inl rfl) e⟩
 |frz ob u ih=>obtain⟨e,q⟩:=x;exact⟨k _ _ (.inl rfl) e,ih q⟩
 |tbl ps=>
  have e:h.get? a=some {cls:=.none,data:=.fields ps}:=x
  show h'.get? a=some {cls:=.none,data:=.fields ps}
  exact k a _ (.inl rfl) e
 |met f y=>
  have e:h.get? a=some (PySem.W.methodObj (.ref f) (.ref y)):=x
  show h'.get? a=some (PySem.W.methodObj (.ref f) (.ref y))
  exact k a _ (.inl rfl) e
 |ext φ=>obtain⟨p,⟨o,e⟩,st⟩:=x;exact⟨st _ _ p fun o q=>k _ _ (.inl rfl) q,⟨o,k _ _ (.inl rfl) e⟩,st⟩
theorem HOk.lt(x:HOk P w H h)(e:H a=some o):a<h.objs.size:=(x a o e).lt
theorem HOk.fresh(x:HOk P w H h)(e:h.objs.size<=a):H a=none:=by
 cases q:H a with
 |none=>rfl
 |some u=>exact absurd (az (x.lt q) e) (aJ _)
theorem HOk.kept(x:HOk P w H h)(k:∀b u,h.get? b=some u->h'.get? b=some u):HOk P w H h':=fun a o e=>
 (x a o e).stay (fun b u _ q=>k b u q) (fun _ q=>q) fun _ _ q=>q
theorem HOk.laid(x:HOk P w H h)(k:∀b u,h.get? b=some u->h'.get? b=some u)(hp:h.objs.size<=a)(new:B0 P w (upd H a o) h' a o):HOk P w (upd H a o) h':=fun b u e=>by
 have hn:=x.fresh hp
 by_cases hb:b=a
 · subst hb;rw[d0] at e;cases e;exact new
 · rw[l8 hb] at e;exact(x b u e).stay (fun c v _ q=>k c v q) (fun c q=>by rw[l8 (u0 q hn)];exact q) fun c xs q=>by rw[l8 (u0 q hn)];exact q
end
def Rd(H:Hp)(a:Addr)(u:HO):Prop:=H a=some u∨∃o,H a=some (.frz o u)
variable{P:Program}{w:World}{h:Heap}
theorem Rd.ok{u:HO}(r:Rd H a u)(x:HOk P w H h):B0 P w H h a u:=by
 rcases r with r|⟨o,r⟩
 · exact x a u r
 · obtain⟨_,q⟩:=x a _ r;exact q
def Mut:Option HO->Prop
 |some (.lst _)=>True
 |some (.dK _)=>True
 |some (.dT _)=>True
 |some (.set _ _)=>True
 |some (.ins _ _ _)=>True
 |some (.ext _)=>True
 |_=>False
section
variable{h':Heap}{x e:Addr}{o':HO}
theorem HOk.write(ok:HOk P w H h)(mu:Mut (H x))(he:e=x∨H e=some (.own x))(k:∀b u,b≠e->h.get? b=some u->h'.get? b=some u)(heo:∃u,h'.get? e=some u)
 (new:B0 P w (upd H x o') h' x o'):HOk P w (upd H x o') h':=fun b u q=>by
 have nown:∀c y,H c=some (.own y)->c≠x:=fun c y r z=>by subst z;rw[r] at mu;exact mu
 have ntup:∀c xs,H c=some (.tup xs)->c≠x:=fun c xs r z=>by subst z;rw[r] at mu;exact mu
 by_cases hb:b=x
 · subst hb;rw[d0] at q;cases q;exact new
 · rw [l8 hb] at q
   by_cases hbe:b=e
   · have q':H b=some (.own x):=by
      rcases he with z|z
      · exact absurd (hbe.trans z) hb
      · rw[hbe];exact z
     rw[q] at q';cases q'
     obtain⟨v,hv⟩:=heo;exact⟨v,by rw[hbe];exact hv⟩
   · refine(ok b u q).stay (fun c v hc r=>k c v ?_ r) (fun c r=>by rw[l8 (nown c b r)];exact r) fun c xs r=>by rw[l8 (ntup c xs r)];exact r
     rcases hc with rfl|hc
     · exact hbe
     · rintro rfl
       rcases he with z|z
       · exact nown c b hc z
       · rw[hc] at z;cases z;exact hb rfl
end
structure Un(fs ex:List Addr)(H H':Hp)(h h':Heap):Prop where
 keep:∀b o,h.get? b=some o->H b=none->b∉fs->b∉ex->h'.get? b=some o
 slot:∀b o,h.get? b=some o->H b=none->b∈fs->b∉ex->∃sl,h'.get? b=some {o with slots:=sl}
 free:∀b o,h.get? b=some o->H b=none->b∉ex->H' b=none
 there:∀b o,h.get? b=some o->b∉ex->∃o',h'.get? b=some o'
 tups:∀b xs,H b=some (.tup xs)->H' b=some (.tup xs)
 frzs:∀b o u,H b=some (.frz o u)->H' b=some (.frz o u)
 tbls:∀b ps,H b=some (.tbl ps)->∃more,H' b=some (.tbl (ps++more))
section
variable{fs fs' ex ex':List Addr}{H1 H2:Hp}{h1 h2 h':Heap}{x e:Addr}{o:HO}
theorem Un.any(u:Un fs ex H H1 h h1){ob:Obj}(q:h.get? b=some ob)(n:H b=none)(hx:b∉ex):∃sl,h1.get? b=some {ob with slots:=sl}:=by
 by_cases hb:b∈fs
 · exact u.slot b ob q n hb hx
 · exact⟨ob.slots,u.keep b ob q n hb hx⟩
theorem Un.kept(k:∀b u,h.get? b=some u->h'.get? b=some u):Un fs ex H H h h':=
 ⟨fun b ob q _ _ _=>k b ob q,fun b ob q _ _ _=>⟨ob.slots,k b ob q⟩,fun _ _ _ n _=>n,fun b ob q _=>⟨ob,k b ob q⟩,fun _ _ q=>q,fun _ _ _ q=>q,fun _ ps q=>⟨#[],by rw[q];simp⟩⟩
theorem Un.refl:Un fs ex H H h h:=Un.kept fun _ _ q=>q
theorem Un.laid(k:∀b u,h.get? b=some u->h'.get? b=some u)(hp:h.objs.size<=a)(hn:H a=none):Un fs ex H (upd H a o) h h' where
 keep:=fun b u q _ _ _=>k b u q
 slot:=fun b u q _ _ _=>⟨u.slots,k b u q⟩
 free:=fun b u q n _=>by rw[l8 (Nat.ne_of_lt (az (Heap.lt_size q) hp))];exact n
 there:=fun b u q _=>⟨u,k b u q⟩
 tups:=fun b xs q=>by rw[l8 (u0 q hn)];exact q
 frzs:=fun b u xs q=>by rw[l8 (u0 q hn)];exact q
 tbls:=fun b ps q=>⟨#[],by rw[l8 (u0 q hn),q];simp⟩
theorem Un.write(mu:Mut (H x))(he:e=x∨H e=some (.own x))(k:∀b u,b≠e->h.get? b=some u->h'.get? b=some u)(heo:∃u,h'.get? e=some u):Un fs ex H (upd H x o) h h':=by
 have hx:∀b,H b=none->b≠x:=fun b n z=>by subst z;rw[n] at mu;exact mu
 have hb:∀b,H b=none->b≠e:=fun b n z=>by
  subst z
  rcases he with r|r
  · exact hx b n r
  · rw[n] at r;cases r
 have hm:∀b u,H b=some u->¬Mut (some u)->b≠x:=fun b u q nm z=>by subst z;rw[q] at mu;exact nm mu
 refine⟨fun b u q n _ _=>k b u (hb b n) q,fun b u q n _ _=>⟨u.slots,k b u (hb b n) q⟩,fun b u q n _=>by rw[l8 (hx b n)];exact n,fun b u q _=>?_,
  fun b xs q=>by rw[l8 (hm b _ q fun z=>z)];exact q,fun b u xs q=>by rw[l8 (hm b _ q fun z=>z)];exact q,fun b ps q=>⟨#[],by rw[l8 (hm b _ q fun z=>z),q];simp⟩⟩
 by_cases hbe:b=e
 · subst hbe;exact heo
 · exact⟨u,k b u hbe q⟩
end
noncomputable def trk(h:Heap)(H:Hp):List Addr:=(List.range h.objs.size).filter fun a=>(H a).isSome
def a4Z(h:Heap)(H:Hp):Heap:=PySem.W.hideAll h (trk h H)
theorem a9c(h:Heap)(H:Hp):(a4Z h H).objs.size=h.objs.size:=PySem.W.hideAll_size _ _
variable{o:Obj}
theorem b0Z(e:h.get? b=some o)(n:H b=none):(a4Z h H).get? b=some o:=
 PySem.W.hideAll_get _ e fun hm=>by
  have q:(H b).isSome=true:=(aV.mp hm).2
  rw[n] at q;simp at q
theorem b2X(e:(a4Z h H).get? b=some o):h.get? b=some o/\H b=none:=by
 have e':h.get? b=some o:=PySem.W.of_hideAll (trk h H) e
 refine⟨e',?_⟩
 cases q:H b with
 |none=>rfl
 |some x=>
  have hm:b∈trk h H:=aV.mpr ⟨aH.mpr (Heap.lt_size e'),by simp[q]⟩
  have z:(a4Z h H).get? b=none:=PySem.W.hideAll_none (trk h H) hm
  rw[z] at e;cases e
noncomputable def b4h(g h:Heap)(L:Addr):List (Addr×Obj):=(List.range h.objs.size).filterMap fun a=>if a=L∨(g.get? a).isSome=true then none else(h.get? a).map fun o=>(a,o)
variable{g:Heap}{L:Addr}
def c9(g h:Heap)(L d:Addr):List (Addr×Obj):=(b4h g h L).filter fun p=>decide (p.1≠d)
variable{d:Addr}{h':Heap}{m:Str->Option Value}
structure Mod(K:PySem.W.Frag)(mg:Str->Option Value)(base:Heap):Prop where
 kin:K.In base
 glob:base.Ns mainGlobals mg
 blt:∃mb,base.Ns builtinsNs mb/\∀x:Str,x≠"__name__"->mb x=bootBuiltins x
 nolimit:base.NoLimit
structure Cx where
 prog:Program
 w:World
 K:PySem.W.Frag
 mg:Str->Option Value
 base:Heap
 A:Around
 N:List Str
 s₀:Shared
 H₀:Hp
 env:Env
 outer:List Env
 stack:List Env
 ex:List Addr
 fn:Str->Bool
 calm:Bool
 pn:List (Addr×Obj)
 xe:Value->Shared->Prop
noncomputable def frs(l:List Env):List Addr:=l.filterMap (·.frame)
abbrev Cx.fs(X:Cx):List Addr:=frs X.outer
def Vis(sc:Scope)(x:Str):Prop:=sc.names.lookup x=some .local∨sc.names.lookup x=some .cell∨sc.names.lookup x=some .free
def Loc(sc:Scope)(x:Str):Prop:=sc.names.lookup x=some .local∨sc.names.lookup x=some .cell
def c1m(env:Env)(h:Heap)(m:Str->Option Value)(x:Str)(u:Value):Prop:=
 (env.kindOf x=some .local/\m x=some u)∨((env.kindOf x=some .cell∨env.kindOf x=some .free)/\∃c,env.cells.lookup x=some c/\h.IsCell c (some u))
structure Cx.Ok(X:Cx):Prop where
 mod:Mod X.K X.mg X.base
 kind:X.env.scope.kind=.function
 glob:X.env.globals=mainGlobals
 blt:X.env.builtins=builtinsNs
 above:X.s₀.heap.objs.size<=X.env.locals
 inj:∀x y c,X.env.cells.lookup x=some c->X.env.cells.lookup y=some c->x=y
 has:∀x,(X.env.kindOf x=some .cell∨X.env.kindOf x=some .free)->∃c,X.env.cells.lookup x=some c
 cab:∀x c,X.fn x=true->X.env.cells.lookup x=some c->X.s₀.heap.objs.size<=c
 hd:X.calm=true->X.A.handled=none
 frames:X.A.frames=some X.stack
 stk:X.stack=X.outer∨(X.stack=X.env::X.outer/\X.env.frame=some X.env.locals)
 exf:∀b∈X.ex,b≠X.env.locals/\∀x c,X.env.cells.lookup x=some c->c≠b
 bs:∀b o,X.base.get? b=some o->X.s₀.heap.get? b=some o/\X.H₀ b=none
 bsz:X.base.objs.size<=X.s₀.heap.objs.size
 noex:∀b o,X.base.get? b=some o->b∉X.ex
 exfs:∀b∈X.ex,b∉X.fs
 funs:X.s₀.heap.FunFrames X.base X.outer
 frf:∀b∈X.fs,X.H₀ b=none
structure Inv(X:Cx)(pins:List (Addr×Obj))(σ:List (Option V))(H:Hp)(s:Shared):Prop where
 ok:X.Ok
 os:s.os=X.s₀.os
 bare:AllBare s.gens
 base:Un X.fs X.ex X.H₀ H X.s₀.heap s.heap
 loc:∃m,s.heap.Ns X.env.locals m/\∀(i:Nat) (x:Str) (v:V),X.N[i]? =some x->σ[i]? =some (some v)->Vis X.env.scope x->∃u,n0 v u/\c1m X.env s.heap m x u
 cell:∀x c,X.env.cells.lookup x=some c->∃v,s.heap.IsCell c v
 free:H X.env.locals=none
 freeC:∀x c,X.env.cells.lookup x=some c->H c=none
 pin:∀p∈X.pn++pins,s.heap.get? p.1=some p.2/\H p.1=none/\p.1≠X.env.locals/\p.1∉X.fs/\∀v,p.2.data≠.cell v
 hok:HOk X.prog X.w H s.heap
 len:σ.length=X.N.length
variable{g':Array GenState}{ch:List Addr}{it:Addr}{N:List Str}{i:Nat}{j:Nat}{x:Str}{M:Model}{A:Around}{v:V}{u:Value}{s':Shared}
section
variable{X:Cx}{pins:List (Addr×Obj)}{σ:List (Option V)}{H':Hp}{s:Shared}
theorem Cx.Ok.nofr(ok:X.Ok)(e:X.base.get? b=some o):b∉X.fs:=fun hb=>by
 have:=(ok.funs.mem hb).1
 rw[e] at this;cases this
theorem Inv.bs(I:Inv X pins σ H s):∀b o,X.base.get? b=some o->s.heap.get? b=some o/\H b=none:=fun b o e=>
 ⟨I.base.keep b o (I.ok.bs b o e).1 (I.ok.bs b o e).2 (I.ok.nofr e) (I.ok.noex b o e),I.base.free b o (I.ok.bs b o e).1 (I.ok.bs b o e).2 (I.ok.noex b o e)⟩
theorem Inv.bk(I:Inv X pins σ H s):∀b o,X.base.get? b=some o->s.heap.get? b=some o:=fun b o e=>(I.bs b o e).1
theorem Inv.mod(I:Inv X pins σ H s):Mod X.K X.mg X.base:=I.ok.mod
theorem Inv.kIn(I:Inv X pins σ H s):X.K.In s.heap:=I.ok.mod.kin.keeps I.bk
theorem Inv.lt(I:Inv X pins σ H s):X.env.locals<s.heap.objs.size:=let⟨_,hn,_⟩:=I.loc;hn.lt
theorem Inv.sz(I:Inv X pins σ H s):X.s₀.heap.objs.size<=s.heap.objs.size:=aK I.ok.above (Nat.le_of_lt I.lt)
theorem Inv.nofs(I:Inv X pins σ H s)(h:s.heap.objs.size<=a):a∉X.fs:=fun hb=>by
 obtain⟨_,o,ho,_⟩:=I.ok.funs.mem hb;exact absurd (az (Heap.lt_size ho) (aK I.sz h)) (aJ _)
theorem Inv.cne(I:Inv X pins σ H s):∀x c,X.env.cells.lookup x=some c->c≠X.env.locals:=fun x c e z=>by
 obtain⟨v,o,ho,hd⟩:=I.cell x c e;obtain⟨m,⟨o',es,ep,ho',hd',_⟩,_⟩:=I.loc;rw[z,ho'] at ho;cases ho;rw[hd'] at hd;cases hd
theorem Inv.funs(I:Inv X pins σ H s):s.heap.FunFrames X.base X.outer:=by
 have all:∀(l:List Env),(∀b∈frs l,b∈X.fs)->X.s₀.heap.FunFrames X.base l->s.heap.FunFrames X.base l:=by
  intro l
  induction l with
  |nil=>intro _ _;trivial
  |cons env r ih=>
   intro hs hl;obtain⟨hk,⟨L,o,hf,hn,ho,hd⟩,hr⟩:=hl
   have hL:L∈X.fs:=hs L (by unfold frs;rw[List.filterMap_cons,hf];exact aP)
   obtain⟨sl,e⟩:=I.base.slot L o ho (I.ok.frf L hL) hL fun z=>I.ok.exfs L z hL
   exact⟨hk,⟨L,_,hf,hn,e,hd⟩,ih (fun b hb=>hs b (by unfold frs;rw[List.filterMap_cons,hf];exact aA _ hb)) hr⟩
 exact all X.outer (fun _ hb=>hb) I.ok.funs
theorem Inv.stack(I:Inv X pins σ H s):s.heap.FunFrames X.base X.stack:=by
 rcases I.ok.stk with e|⟨e,hf⟩
 · rw[e];exact I.funs
 · rw[e];obtain⟨m,hn,_⟩:=I.loc;refine .cons (by rw[I.ok.kind];decide) hf hn ?_ I.funs
   exact Heap.get?_none_of_le (aK I.ok.bsz I.ok.above)
theorem Inv.stkSub(I:Inv X pins σ H s):∀b∈frs X.stack,b∈X.env.locals::X.fs:=fun b hb=>by
 rcases I.ok.stk with e|⟨e,hf⟩
 · rw[e] at hb;exact aA _ hb
 · rw[e] at hb;unfold frs at hb;rw[List.filterMap_cons,hf] at hb;exact hb
theorem Inv.stkFree(I:Inv X pins σ H s):∀b∈frs X.stack,H b=none:=fun b hb=>by
 rcases aB.mp (I.stkSub b hb) with e|hb
 · rw[e];exact I.free
 · obtain⟨_,o,ho,_⟩:=I.ok.funs.mem hb;exact I.base.free b o ho (I.ok.frf b hb) fun z=>I.ok.exfs b z hb
theorem Inv.step{t':Nat}{d':Drawn}(I:Inv X pins σ H s)
 (hch:∀b∈ch,(b∈X.ex∨X.s₀.heap.objs.size<=b)/\b≠X.env.locals/\(∀x c,X.env.cells.lookup x=some c->c≠b)/\∀p∈X.pn++pins,p.1≠b)
 (keep:∀b o,b≠X.env.locals->b∉X.fs->b∉ch->s.heap.get? b=some o->H b=none->h'.get? b=some o)
 (slot:∀b o,b≠X.env.locals->b∈X.fs->b∉ch->s.heap.get? b=some o->H b=none->∃sl,h'.get? b=some {o with slots:=sl}) (free:∀b o,b∉ch->s.heap.get? b=some o->H b=none->H' b=none)
 (there:∀b o,b∉ch->s.heap.get? b=some o->∃o',h'.get? b=some o')
 (tups:∀b xs,H b=some (.tup xs)->H' b=some (.tup xs)) (frzs:∀b o u,H b=some (.frz o u)->H' b=some (.frz o u)) (tbls:∀b ps,H b=some (.tbl ps)->∃more,H' b=some (.tbl (ps++more)))
 (ns:∀m,s.heap.Ns X.env.locals m->h'.Ns X.env.locals m) (hok:HOk X.prog X.w H' h') (hg:AllBare g'):
 Inv X pins σ H' {s with heap:=h',gens:=g',drawn:=d',toks:=t'}:=by
 have neL:∀b o,X.s₀.heap.get? b=some o->b≠X.env.locals:=fun b o e=>Nat.ne_of_lt (az (Heap.lt_size e) I.ok.above)
 have neC:∀b o,X.s₀.heap.get? b=some o->b∉X.ex->b∉ch:=fun b o e hx hb=>by
  rcases(hch b hb).1 with z|z
  · exact hx z
  · exact absurd (az (Heap.lt_size e) z) (aJ _)
 have cellK:∀x c,X.env.cells.lookup x=some c->∀v,s.heap.IsCell c v->h'.IsCell c v:=fun x c e v ⟨o,ho,hd⟩=>by
  have nch:c∉ch:=fun z=>(hch c z).2.2.1 x c e rfl
  by_cases hc:c∈X.fs
  · obtain⟨sl,q⟩:=slot c o (I.cne x c e) hc nch ho (I.freeC x c e);exact⟨_,q,hd⟩
  · exact⟨o,keep c o (I.cne x c e) hc nch ho (I.freeC x c e),hd⟩
 refine⟨I.ok,I.os,hg,⟨fun b o e n hb hx=>?_,fun b o e n hb hx=>?_,fun b o e n hx=>?_,fun b o e hx=>?_,fun b xs e=>tups b xs (I.base.tups b xs e),fun b o xs e=>frzs b o xs (I.base.frzs b o xs e),fun b ps e=>?_⟩,?_,fun x c e=>?_,?_,fun x c e=>?_,fun p hp=>?_,hok,I.len⟩
 · exact keep b o (neL b o e) hb (neC b o e hx) (I.base.keep b o e n hb hx) (I.base.free b o e n hx)
 · obtain⟨sl,e1⟩:=I.base.slot b o e n hb hx;obtain⟨sl',e2⟩:=slot b _ (neL b o e) hb (neC b o e hx) e1 (I.base.free b o e n hx);exact⟨sl',e2⟩
 · obtain⟨o',e1⟩:=I.base.there b o e hx;exact free b o' (neC b o e hx) e1 (I.base.free b o e n hx)
 · obtain⟨o',e1⟩:=I.base.there b o e hx;exact there b o' (neC b o e hx) e1
 · obtain⟨m1,e1⟩:=I.base.tbls b ps e;obtain⟨m2,e2⟩:=tbls b _ e1;exact⟨m1++m2,by rw[e2,Array.append_assoc]⟩
 · obtain⟨m,hn,hl⟩:=I.loc;refine⟨m,ns m hn,fun i x v e1 e2 e3=>?_⟩
   obtain⟨u,r,l⟩:=hl i x v e1 e2 e3;refine⟨u,r,?_⟩
   rcases l with l|⟨k,c,e,z⟩
   · exact .inl l
   · exact .inr ⟨k,c,e,cellK x c e _ z⟩
 · obtain⟨v,z⟩:=I.cell x c e;exact⟨v,cellK x c e v z⟩
 · obtain⟨m,⟨o,_,_,ho,_⟩,_⟩:=I.loc;exact free _ o (fun z=>(hch _ z).2.1 rfl) ho I.free
 · obtain⟨v,o,ho,hd⟩:=I.cell x c e;exact free c o (fun z=>(hch c z).2.2.1 x c e rfl) ho (I.freeC x c e)
 · obtain⟨e,n,ne,nf,d⟩:=I.pin p hp
   have nch:p.1∉ch:=fun z=>(hch p.1 z).2.2.2 p hp rfl
   exact⟨keep p.1 p.2 ne nf nch e n,free p.1 p.2 nch e n,ne,nf,d⟩
theorem Inv.un{t':Nat}(I:Inv X pins σ H s)(u:Un X.fs [] H H' s.heap h')(hok:HOk X.prog X.w H' h'):Inv X pins σ H' {s with heap:=h',toks:=t'}:=by
 obtain⟨m,⟨o,es,ep,ho,r⟩,_⟩:=id I.loc;obtain⟨sl,hL⟩:=u.any ho I.free (by simp)
 exact I.step (g':=s.gens) (d':=s.drawn) (ch:=[]) (fun _ z=>nomatch z) (fun b o _ hb _ e n=>u.keep b o e n hb (by simp)) (fun b o _ hb _ e n=>u.slot b o e n hb (by simp)) (fun b o _ e n=>u.free b o e n (by simp)) (fun b o _ e=>u.there b o e (by simp)) u.tups u.frzs u.tbls (fun m' hm=>by
  obtain⟨o',es',ep',ho',r'⟩:=hm;rw[ho] at ho';cases ho'
  exact⟨_,es',ep',hL,r'⟩) hok I.bare
theorem Inv.call{t':Nat}{d':Drawn}(I:Inv X pins σ H s)(u:Un (frs X.stack) ch H H' s.heap h')(hok:HOk X.prog X.w H' h')(hg:AllBare g')
 (hch:∀b∈ch,(b∈X.ex∨X.s₀.heap.objs.size<=b)/\b≠X.env.locals/\(∀x c,X.env.cells.lookup x=some c->c≠b)/\∀p∈X.pn++pins,p.1≠b):
 Inv X pins σ H' {s with heap:=h',gens:=g',drawn:=d',toks:=t'}:=by
 obtain⟨m,⟨o,es,ep,ho,r⟩,_⟩:=id I.loc;obtain⟨sl,hL⟩:=u.any ho I.free fun z=>(hch _ z).2.1 rfl
 exact I.step (ch:=ch) hch (fun b o hL hb hc e n=>u.keep b o e n (fun z=>(aB.mp (I.stkSub b z)).elim hL hb) hc) (fun b o _ _ hc e n=>u.any e n hc) (fun b o hc e n=>u.free b o e n hc) (fun b o hc e=>u.there b o e hc) u.tups u.frzs u.tbls (fun m' hm=>by
  obtain⟨o',es',ep',ho',r'⟩:=hm;rw[ho] at ho';cases ho'
  exact⟨_,es',ep',hL,r'⟩) hok hg
theorem Inv.turned{t':Nat}(I:Inv X pins σ H s)(k:∀b o,b≠it->s.heap.get? b=some o->h'.get? b=some o)(hn:H it=none)(hL:it≠X.env.locals)
 (h1:it∈X.ex∨X.s₀.heap.objs.size<=it) (h2:∀x c,X.env.cells.lookup x=some c->c≠it) (h3:∀p∈X.pn++pins,p.1≠it):Inv X pins σ H {s with heap:=h',toks:=t'}:=by
 have nit:∀b u,H b=some u->b≠it:=fun b u e z=>by rw[z,hn] at e;cases e
 refine I.step (g':=s.gens) (d':=s.drawn) (ch:=[it]) (fun b hb=>?_) (fun b o _ _ hc e _=>k b o (fun z=>hc (by simp[z])) e) (fun b o _ _ hc e _=>⟨o.slots,k b o (fun z=>hc (by simp[z])) e⟩) (fun _ _ _ _ n=>n)
  (fun b o hc e=>⟨o,k b o (fun z=>hc (by simp[z])) e⟩) (fun _ _ e=>e) (fun _ _ _ e=>e) (fun b ps e=>⟨#[],by rw[e];simp⟩) (fun m hm=>?_) (fun b u e=>?_) I.bare
 · have e:b=it:=by simpa using hb
   subst e;exact⟨h1,hL,h2,h3⟩
 · obtain⟨o,es,ep,ho,r⟩:=hm;exact⟨o,es,ep,k _ o (Ne.symm hL) ho,r⟩
 · refine(I.hok b u e).stay (fun c v hc q=>k c v ?_ q) (fun _ q=>q) fun _ _ q=>q
   rcases hc with z|z
   · rw[z];exact nit b u e
   · exact nit c _ z
theorem Inv.tok(I:Inv X pins σ H s)(t:Nat):Inv X pins σ H {s with toks:=t}:=I.un (h':=s.heap) (t':=t) Un.refl I.hok
theorem Inv.kept{t':Nat}(I:Inv X pins σ H s)(k:∀b u,s.heap.get? b=some u->h'.get? b=some u):Inv X pins σ H {s with heap:=h',toks:=t'}:=I.un (Un.kept k) (I.hok.kept k)
theorem Inv.laid{o:HO}{t':Nat}(I:Inv X pins σ H s)(k:∀b u,s.heap.get? b=some u->h'.get? b=some u)(hp:s.heap.objs.size<=a)(new:B0 X.prog X.w (upd H a o) h' a o):
 Inv X pins σ (upd H a o) {s with heap:=h',toks:=t'}:=I.un (Un.laid k hp (I.hok.fresh hp)) (I.hok.laid k hp new)
theorem Inv.write{x e:Addr}{o:HO}{t':Nat}(I:Inv X pins σ H s)(mu:Mut (H x))(he:e=x∨H e=some (.own x))(k:∀b u,b≠e->s.heap.get? b=some u->h'.get? b=some u)(heo:∃u,h'.get? e=some u)
 (new:B0 X.prog X.w (upd H x o) h' x o):Inv X pins σ (upd H x o) {s with heap:=h',toks:=t'}:=I.un (Un.write mu he k heo) (I.hok.write mu he k heo new)
theorem Inv.weak{σ':List (Option V)}(I:Inv X pins σ H s)(hl:σ'.length=σ.length)(w:∀(i:Nat) v,σ'[i]? =some (some v)->σ[i]? =some (some v)):Inv X pins σ' H s:=
 ⟨I.ok,I.os,I.bare,I.base,let⟨m,hn,hl'⟩:=I.loc;⟨m,hn,fun i x v e1 e2 e3=>hl' i x v e1 (w i v e2) e3⟩,I.cell,I.free,I.freeC,I.pin,I.hok,hl.trans I.len⟩
theorem Inv.pins_of{pins':List (Addr×Obj)}(I:Inv X pins σ H s)(h:∀p∈pins',s.heap.get? p.1=some p.2/\H p.1=none/\p.1≠X.env.locals/\p.1∉X.fs/\∀v,p.2.data≠.cell v):Inv X pins' σ H s:=
 ⟨I.ok,I.os,I.bare,I.base,I.loc,I.cell,I.free,I.freeC,fun p hp=>(aF.mp hp).elim (fun z=>I.pin p (mem_append_left _ z)) (h p),I.hok,I.len⟩
theorem a5U(hN:N.Nodup)(a:N[i]? =some x)(b:N[j]? =some x):i=j:=by
 obtain⟨h1,e1⟩:=ac.mp a
 obtain⟨h2,e2⟩:=ac.mp b
 exact(getElem_inj hN).mp (e1.trans e2.symm)
theorem a3J{E:Value->Shared->Prop}{Q:Unit->Shared->Prop}(I:Inv X pins σ H s)(hN:X.N.Nodup)(hi:X.N[i]? =some x)(hx:Loc X.env.scope x)(r:n0 v u)
 (h:∀s',Inv X pins (σ.set i (some v)) H s'->(∃a,Heap.SameBut a s.heap s'.heap/\(a=X.env.locals∨X.env.cells.lookup x=some a))->Q () s') (hf:X.fn x=true∨X.env.scope.names.lookup x=some .local:=by first|exact .inl rfl|exact .inr rfl|assumption):wpAny M A (storeName X.env x u) Q E s:=by
 obtain⟨m,hn,hl⟩:=id I.loc
 have hcls:(X.env.scope.kind==.class||(X.env.scope.kind==.module&&X.env.locals !=X.env.globals))=false:=by rw[I.ok.kind];rfl
 have hiσ:i<σ.length:=by rw[I.len];exact(ac.mp hi).1
 have cne:=I.cne
 have tracked:∀{a:Addr} {h':Heap},(∃o,s.heap.get? a=some o/\H a=none)->Heap.SameBut a s.heap h'->HOk X.prog X.w H h':=fun{a h'} ha hs b ob e=>by
  obtain⟨_,_,hfree⟩:=ha;refine(I.hok b ob e).stay (fun c w' hc q=>(hs.2 c ?_).trans q) (fun _ q=>q) fun _ _ q=>q
  rintro rfl
  rcases hc with rfl|hc
  · rw[hfree] at e;cases e
  · rw[hfree] at hc;cases hc
 rcases hx with hk|hk
 · refine wpAny_storeName_local hk hn (fun h' hn' hs=>?_) hcls
   obtain⟨oL,_,_,hoL,_⟩:=id hn;refine h _ ⟨I.ok,I.os,I.bare,⟨fun b o e n hb hx=>?_,fun b o e n hb hx=>?_,I.base.free,fun b o e hx=>?_,I.base.tups,I.base.frzs,I.base.tbls⟩,⟨_,hn',fun j y v' e1 e2 e3=>?_⟩,fun y c e=>?_,I.free,I.freeC,fun p hp=>?_,tracked ⟨oL,hoL,I.free⟩ hs,by simpa using I.len⟩ ⟨_,hs,.inl rfl⟩
   · exact(hs.2 b (Nat.ne_of_lt (az (Heap.lt_size e) I.ok.above))).trans (I.base.keep b o e n hb hx)
   · obtain⟨sl,e1⟩:=I.base.slot b o e n hb hx;exact⟨sl,(hs.2 b (Nat.ne_of_lt (az (Heap.lt_size e) I.ok.above))).trans e1⟩
   · obtain⟨o',e1⟩:=I.base.there b o e hx;exact⟨o',(hs.2 b (Nat.ne_of_lt (az (Heap.lt_size e) I.ok.above))).trans e1⟩
   · by_cases hj:j=i
     · subst hj;rw[hi] at e1;cases e1
       rw[List.getElem?_set_self hiσ] at e2
       cases e2;exact⟨u,r,.inl ⟨hk,by simp⟩⟩
     · rw[List.getElem?_set_ne (Ne.symm hj)] at e2
       obtain⟨u',r',q⟩:=hl j y v' e1 e2 e3;refine⟨u',r',?_⟩
       rcases q with⟨k,e⟩|⟨k,c,e,z⟩
       · refine .inl ⟨k,?_⟩
         have:y≠x:=fun e=>hj (a5U hN e1 (e▸hi))
         simp[this,e]
       · exact .inr ⟨k,c,e,z.sameBut hs (cne y c e)⟩
   · obtain⟨w',z⟩:=I.cell y c e;exact⟨w',z.sameBut hs (cne y c e)⟩
   · obtain⟨e,n,ne,nf,d⟩:=I.pin p hp;exact⟨(hs.2 p.1 ne).trans e,n,ne,nf,d⟩
 · have hfn:X.fn x=true:=by
    rcases hf with z|z
    · exact z
    · rw[z] at hk;cases hk
   obtain⟨c,hc⟩:=I.ok.has x (.inl hk);obtain⟨w',z⟩:=I.cell x c hc;refine wpAny_storeName_cell I.ok.kind hk hc z (fun h' hc' hs=>?_)
   obtain⟨oc,hoc,hocd⟩:=id z;refine h {s with heap:=h'} ⟨I.ok,I.os,I.bare,⟨fun b o e n hb hx=>?_,fun b o e n hb hx=>?_,I.base.free,fun b o e hx=>?_,I.base.tups,I.base.frzs,I.base.tbls⟩,⟨m,hn.sameBut hs (Ne.symm (cne x c hc)),fun j y v' e1 e2 e3=>?_⟩,fun y c' e=>?_,I.free,I.freeC,fun p hp=>?_,tracked ⟨oc,hoc,I.freeC x c hc⟩ hs,by simpa using I.len⟩ ⟨c,hs,.inr hc⟩
   · exact(hs.2 b (Nat.ne_of_lt (az (Heap.lt_size e) (I.ok.cab x c hfn hc)))).trans (I.base.keep b o e n hb hx)
   · obtain⟨sl,e1⟩:=I.base.slot b o e n hb hx;exact⟨sl,(hs.2 b (Nat.ne_of_lt (az (Heap.lt_size e) (I.ok.cab x c hfn hc)))).trans e1⟩
   · obtain⟨o',e1⟩:=I.base.there b o e hx;exact⟨o',(hs.2 b (Nat.ne_of_lt (az (Heap.lt_size e) (I.ok.cab x c hfn hc)))).trans e1⟩
   · by_cases hj:j=i
     · subst hj;rw[hi] at e1;cases e1
       rw[List.getElem?_set_self hiσ] at e2
       cases e2;exact⟨u,r,.inr ⟨.inl hk,c,hc,hc'⟩⟩
     · rw[List.getElem?_set_ne (Ne.symm hj)] at e2
       obtain⟨u',r',q⟩:=hl j y v' e1 e2 e3;refine⟨u',r',?_⟩
       rcases q with q|⟨k,c',e,z'⟩
       · exact .inl q
       · refine .inr ⟨k,c',e,z'.sameBut hs ?_⟩
         rintro rfl;exact hj (a5U hN e1 (I.ok.inj _ _ _ e hc▸hi))
   · by_cases hcc:c'=c
     · subst hcc;exact⟨_,hc'⟩
     · obtain⟨w2,z2⟩:=I.cell y c' e;exact⟨w2,z2.sameBut hs hcc⟩
   · obtain⟨e,n,ne,nf,d⟩:=I.pin p hp;refine⟨(hs.2 p.1 ?_).trans e,n,ne,nf,d⟩
     intro q;rw[q,hoc] at e
     have q':oc=p.2:=au e
     exact d w' (by rw[←q'];exact hocd)
theorem a5G{E:Value->Shared->Prop}{Q:Unit->Shared->Prop}(I:Inv X pins σ H s)(hN:X.N.Nodup)(hi:X.N[i]? =some x)(hx:Loc X.env.scope x)(r:n0 v u)
 (h:∀s',Inv X pins (σ.set i (some v)) H s'->Q () s') (hf:X.fn x=true∨X.env.scope.names.lookup x=some .local:=by first|exact .inl rfl|exact .inr rfl|assumption):wpAny M A (storeName X.env x u) Q E s:=
 a3J I hN hi hx r (fun s' I' _=>h s' I') hf
theorem Inv.call'(I:Inv X pins σ H s)(ho:s'.os=s.os)(u:Un (frs X.stack) ch H H' s.heap s'.heap)(hok:HOk X.prog X.w H' s'.heap)(hg:AllBare s'.gens)
 (hch:∀b∈ch,(b∈X.ex∨X.s₀.heap.objs.size<=b)/\b≠X.env.locals/\(∀x c,X.env.cells.lookup x=some c->c≠b)/\∀p∈X.pn++pins,p.1≠b):Inv X pins σ H' s':=by
 obtain⟨h',g',d',t',o'⟩:=s'
 have e:o'=s.os:=ho
 subst e;exact I.call (g':=g') (t':=t') (d':=d') u hok hg hch
end
abbrev XK:=Value->Option Addr->Hp->Prop
abbrev St:=List (Option V)
abbrev VK:=V->Hp->Prop
abbrev TE:=St->Hp->VK->Prop
abbrev TT:=St->Hp->(Bool->Hp->Prop)->Prop
abbrev TA:=St->Hp->(List V->Hp->Prop)->Prop
structure Ends where
 nx:St->Hp->Prop
 rt:VK
 bk:St->Hp->Prop:=fun _ _=>False
 ct:St->Hp->Prop:=fun _ _=>False
abbrev TS:=Ends->St->Hp->Prop
def EP(X:Cx)(pins:List (Addr×Obj))(σ:St)(Q:VK)(u:Value)(s':Shared):Prop:=∃v H',Inv X pins σ H' s'/\n0 v u/\Q v H'
def TP(X:Cx)(pins:List (Addr×Obj))(σ:St)(Q:Bool->Hp->Prop)(b:Bool)(s':Shared):Prop:=∃H',Inv X pins σ H' s'/\Q b H'
def AP(X:Cx)(pins:List (Addr×Obj))(σ:St)(Q:List V->Hp->Prop)(us:List Value)(s':Shared):Prop:=∃vs H',Inv X pins σ H' s'/\k8 vs us/\Q vs H'
def SP(X:Cx)(pins:List (Addr×Obj))(D:Ends)(f:Flow)(s':Shared):Prop:=
 match f with
 |.next=>∃σ' H',Inv X pins σ' H' s'/\D.nx σ' H'
 |.brk=>∃σ' H',Inv X pins σ' H' s'/\D.bk σ' H'
 |.cont=>∃σ' H',Inv X pins σ' H' s'/\D.ct σ' H'
 |.ret u=>∃v σ' H',Inv X pins σ' H' s'/\n0 v u/\D.rt v H'
def PE(X:Cx)(e:Expr)(t:TE):Prop:=
 ∀(pins:List (Addr×Obj)) (s:Shared) (σ:St) (H:Hp) (Q:VK),Inv X pins σ H s->t σ H Q->wpAny (model X.prog X.w) X.A (eval e X.env) (EP X pins σ Q) X.xe s
def PT(X:Cx)(e:Expr)(t:TT):Prop:=
 ∀(pins:List (Addr×Obj)) (s:Shared) (σ:St) (H:Hp) (Q:Bool->Hp->Prop),Inv X pins σ H s->t σ H Q->wpAny (model X.prog X.w) X.A (isTrue e X.env (eval e X.env)) (TP X pins σ Q) X.xe s
def PW(X:Cx)(e:Expr)(t:TT):Prop:=
 ∀(whole:Sem Value) (pins:List (Addr×Obj)) (s:Shared) (σ:St) (H:Hp) (Q:Bool->Hp->Prop),Inv X pins σ H s->t σ H Q->wpAny (model X.prog X.w) X.A (isTrue e X.env whole) (TP X pins σ Q) X.xe s
variable{X:Cx}{e:Expr}
theorem PW.pt{t:TT}(h:PW X e t):PT X e t:=h _
def PA(X:Cx)(es:List Expr)(t:TA):Prop:=
 ∀(pos:Pos) (pins:List (Addr×Obj)) (s:Shared) (σ:St) (H:Hp) (Q:List V->Hp->Prop),Inv X pins σ H s->t σ H Q->wpAny (model X.prog X.w) X.A (spliced (backTo pos (starEach es X.env))) (AP X pins σ Q) X.xe s
def PS(X:Cx)(st:Stmt)(t:TS):Prop:=
 ∀(pins:List (Addr×Obj)) (s:Shared) (σ:St) (H:Hp) (D:Ends),Inv X pins σ H s->t D σ H->wpAny (model X.prog X.w) X.A (exec st X.env) (SP X pins D) X.xe s
def PSs(X:Cx)(st:List Stmt)(t:TS):Prop:=
 ∀(pins:List (Addr×Obj)) (s:Shared) (σ:St) (H:Hp) (D:Ends),Inv X pins σ H s->t D σ H->wpAny (model X.prog X.w) X.A (execs st X.env) (SP X pins D) X.xe s
variable{s:Shared}
theorem thn{t:Sem α}{Q Q':α->Shared->Prop}{E:Value->Shared->Prop}(h:wpAny M A t Q E s)(hQ:∀a s,Q a s->Q' a s):wpAny M A t Q' E s:=wpAny_mono h hQ fun _ _ x=>x
variable{pins:List (Addr×Obj)}{σ:St}{pos:Pos}{Q:Value->Shared->Prop}{op:CmpOp}{c:Expr}
section
theorem bin{a b:Expr}{ta tb:TE}(ha:PE X a ta)(hb:PE X b tb){R:V->V->Hp->Prop}(I:Inv X pins σ H s)(h:ta σ H fun x H1=>tb σ H1 fun y H2=>R x y H2)
 {Q :α->Shared->Prop} {f:Value->Value->Sem α}
    (hf:∀v u s2 x y H2,Inv X pins σ H2 s2->n0 x v->n0 y u->R x y H2->wpAny (model X.prog X.w) X.A (f v u) Q X.xe s2):
    wpAny (model X.prog X.w) X.A (eval a X.env) (fun v s₁=>wpAny (model X.prog X.w) X.A (eval b X.env) (fun u s₂=>wpAny (model X.prog X.w) X.A (f v u) Q X.xe s₂) X.xe s₁) X.xe s:=by
  refine thn (ha pins s σ H _ I h) fun v s1 ⟨x,H1,I1,r1,q1⟩=>?_
  refine thn (hb pins s1 σ H1 _ I1 q1) fun u s2 ⟨y,H2,I2,r2,q2⟩=>?_
  exact hf v u s2 x y H2 I2 r1 r2 q2
noncomputable def b9L(i:Nat):TE:=fun σ H Q=>∃v,σ[i]? =some (some v)/\Q v H
def tC(v:V):TE:=fun _ H Q=>Q v H
theorem b5h(hN:X.N[i]? =some x)(hv:Vis X.env.scope x)(hd:(x==("__debug__":Str))=false:=by decide)(hcd:(x==("__classdict__":Str))=false:=by decide):PE X (.Name x pos) (b9L i):=by
 intro pins s σ H Q I h;obtain⟨v,e,h⟩:=h;obtain⟨m,hn,hl⟩:=I.loc;obtain⟨u,r,l⟩:=hl i x v hN e hv
 have fin:EP X pins σ Q u s:=⟨v,H,I,r,h⟩
 rcases l with⟨hk,hm⟩|⟨hk,c,hc,hcell⟩
 · exact wpAny_Name (wpAny_loadName_local I.ok.kind hk hn hm fin) hd
 · rcases hk with hk|hk
   · exact wpAny_Name (wpAny_loadName_cell I.ok.kind hk hc hcell fin) hd
   · exact wpAny_Name (wpAny_loadName_free I.ok.kind hk hc hcell fin hcd) hd
theorem b0u{i j pos}:PE X (.Constant (.int i) j pos) (tC (.int i)):=fun _ _ _ H _ I h=>wpAny_Constant_int ⟨.int i,H,I.tok _,⟨_,rfl⟩,h⟩
theorem b7S{b j pos}:PE X (.Constant (.bool b) j pos) (tC (.bl b)):=fun _ _ _ H _ I h=>Constant_bool ⟨.bl b,H,I,rfl,h⟩
theorem b5m{j pos}:PE X (.Constant .none j pos) (tC .non):=fun _ _ _ H _ I h=>Constant_none ⟨.non,H,I,rfl,h⟩
theorem b0r{x j pos}:PE X (.Constant (.str x) j pos) (tC (.str x)):=fun _ _ _ H _ I h=>Calls.Constant_str ⟨.str x,H,I.tok _,⟨_,rfl⟩,h⟩
def Gl(X:Cx)(x:Str):Prop:=X.env.kindOf x=some .globalImplicit
theorem a4R{E:Value->Shared->Prop}(I:Inv X pins σ H s)(hg:Gl X x)(hm:X.mg x=some u)(h:Q u s)
 (hd:(x==("__debug__":Str))=false:=by decide):wpAny (model X.prog X.w) X.A (eval (.Name x pos) X.env) Q E s:=
 Calls.Name_function_global I.ok.kind hg (Calls.loadGlobal_global (by rw[I.ok.glob];exact I.mod.glob.keeps I.bk) hm h) hd
theorem Z7{E:Value->Shared->Prop}(I:Inv X pins σ H s)(hg:Gl X x)(hm:X.mg x=none)(hv:bootBuiltins x=some u)(h:Q u s)
 (hn:x≠"__name__":=by decide) (hd:(x==("__debug__":Str))=false:=by decide):wpAny (model X.prog X.w) X.A (eval (.Name x pos) X.env) Q E s:=by
 obtain⟨mb,h1,h2⟩:=I.mod.blt;exact Calls.Name_function_global I.ok.kind hg (Calls.loadGlobal_builtin (by rw[I.ok.glob];exact I.mod.glob.keeps I.bk) hm (by rw[I.ok.blt];exact h1.keeps I.bk) ((h2 x hn).trans hv) h) hd
theorem a2i(hg:Gl X x)(hm:X.mg x=some u)(r:n0 v u)(hd:(x==("__debug__":Str))=false:=by decide):PE X (.Name x pos) (tC v):=
 fun _ _ _ H _ I h=>a4R I hg hm ⟨v,H,I,r,h⟩ hd
theorem a4I(hg:Gl X x)(hm:X.mg x=none)(hv:bootBuiltins x=some u)(r:n0 v u)(hn:x≠"__name__":=by decide)(hd:(x==("__debug__":Str))=false:=by decide):PE X (.Name x pos) (tC v):=
 fun _ _ _ H _ I h=>Z7 I hg hm hv ⟨v,H,I,r,h⟩ hn hd
variable{a b:Expr}{ta tb:TE}
def PC(X:Cx)(op:CmpOp)(a b:Expr)(t:TE):Prop:=
 ∀(pins:List (Addr×Obj)) (s:Shared) (σ:St) (H:Hp) (Q:VK),Inv X pins σ H s->t σ H Q→
  wpAny (model X.prog X.w) X.A (eval a X.env) (fun v s₁=>wpAny (model X.prog X.w) X.A (eval b X.env) (fun u s₂=>wpAny (model X.prog X.w) X.A (compareOp op v u) (EP X pins σ Q) X.xe s₂) X.xe s₁) X.xe s
theorem a5V(b:Expr)(h:op≠.In)(h2:op≠.NotIn):behindInMarks op b=false:=by
 have e1:(op==CmpOp.In)=false:=by cases op<;>first|rfl|exact absurd rfl h
 have e2:(op==CmpOp.NotIn)=false:=by cases op<;>first|rfl|exact absurd rfl h2
 cases b<;>simp[behindInMarks,e1,e2]
noncomputable def b9T(ta:TE):TE:=fun σ H Q=>ta σ H fun x H1=>Q (.bl (decide (x=.non))) H1
noncomputable def b7q(ta:TE):TE:=fun σ H Q=>ta σ H fun x H1=>Q (.bl (!decide (x=.non))) H1
theorem n0.none_iff{x:V}{v:Value}(r:n0 x v):(v==Value.none)=decide (x=.non):=by
 cases x with
 |non=>cases r;rfl
 |bl _=>cases r;rfl
 |int _=>obtain⟨t,rfl⟩:=r;rfl
 |str _=>obtain⟨t,rfl⟩:=r;rfl
 |byt _=>obtain⟨t,rfl⟩:=r;rfl
 |flt _=>obtain⟨t,rfl⟩:=r;rfl
 |ref _=>cases r;rfl
 |ty _=>cases r;rfl
theorem b0z{j pos'}(ha:PE X a ta):PC X .Is a (.Constant .none j pos') (b9T ta):=by
 intro pins s σ H Q I h;refine thn (ha pins s σ H _ I h) fun v s1 ⟨x,H1,I1,r1,q1⟩=>?_
 exact Constant_none (is_none_gen ⟨.bl _,H1,I1,by rw[r1.none_iff];rfl,q1⟩)
theorem a7L{j pos'}(ha:PE X a ta):PC X .IsNot a (.Constant .none j pos') (b7q ta):=by
 intro pins s σ H Q I h;refine thn (ha pins s σ H _ I h) fun v s1 ⟨x,H1,I1,r1,q1⟩=>?_
 exact Constant_none (isnot_none_gen ⟨.bl _,H1,I1,by rw[r1.none_iff];rfl,q1⟩)
noncomputable def tB(t:TE):TT:=fun σ H Q=>t σ H fun x H1=>∃c,x=.bl c/\Q c H1
theorem b0x{t:TE}(h:PC X op a b t)(h1:behindInMarks op b=false:=by first|exact a5V _ (by decide) (by decide)|rfl):PE X (.Compare a [op] [b] pos) t:=fun pins s σ H Q I hw=>wpAny_Compare1 (h pins s σ H Q I hw) h1
theorem b0f{t:TE}(h:PC X op a b t)(h1:behindInMarks op b=false:=by first|exact a5V _ (by decide) (by decide)|rfl):PT X (.Compare a [op] [b] pos) (tB t):=by
 intro pins s σ H Q I hw;refine wpAny_isTrue_Compare1 (thn (h pins s σ H _ I hw) fun v s1 h1=>thn h1 fun u s2 h2=>thn h2 fun c s3 ⟨x,H1,I1,r1,q1⟩=>?_) h1
 obtain⟨d,rfl,q⟩:=q1;cases r1;exact wpAny_truthy_bool ⟨H1,I1,q⟩
variable{tA tB':TT}{c9:List Expr}
noncomputable def b9Y(t u:TT):TT:=fun σ H Q=>t σ H fun c H1=>if c=true then u σ H1 Q else Q false H1
noncomputable def tOr(t u:TT):TT:=fun σ H Q=>t σ H fun c H1=>if c=true then Q true H1 else u σ H1 Q
noncomputable def b9R(t:TT):TT:=fun σ H Q=>t σ H fun c H1=>Q (!c) H1
theorem b2C(ha:PT X a tA):PW X (.BoolOp .And [a] pos) tA:=by
 intro wh pins s σ H Q I h;refine isTrue_and (thn (ha pins s σ H Q I h) fun c s1 e=>?_)
 cases c with
 |true=>exact isTrue_and_nil e
 |false=>exact e
theorem b4S(ha:PT X a tA):PW X (.BoolOp .Or [a] pos) tA:=by
 intro wh pins s σ H Q I h;refine isTrue_or (thn (ha pins s σ H Q I h) fun c s1 e=>?_)
 cases c with
 |false=>exact isTrue_or_nil e
 |true=>exact e
theorem b4T(ha:PT X a tA)(hb:PW X (.BoolOp .And (b::c9) pos) tB'):PW X (.BoolOp .And (a::b::c9) pos) (b9Y tA tB'):=by
 intro wh pins s σ H Q I h;refine isTrue_and (thn (ha pins s σ H _ I h) fun c s1 ⟨H1,I1,q1⟩=>?_)
 cases c with
 |true=>exact hb wh pins s1 σ H1 Q I1 q1
 |false=>exact⟨H1,I1,q1⟩
theorem b7N(ha:PT X a tA)(hb:PW X (.BoolOp .Or (b::c9) pos) tB'):PW X (.BoolOp .Or (a::b::c9) pos) (tOr tA tB'):=by
 intro wh pins s σ H Q I h;refine isTrue_or (thn (ha pins s σ H _ I h) fun c s1 ⟨H1,I1,q1⟩=>?_)
 cases c with
 |true=>exact⟨H1,I1,q1⟩
 |false=>exact hb wh pins s1 σ H1 Q I1 q1
theorem b4V(ha:PT X a tA):PT X (.UnaryOp .Not a pos) (b9R tA):=by
 intro pins s σ H Q I h;exact isTrue_not (ha pins s σ H (fun c H1=>Q (!c) H1) I h)
noncomputable def b7w(ta tb:TE):TE:=fun σ H Q=>ta σ H fun x H1=>∃c,x=.bl c/\if c=true then tb σ H1 Q else Q (.bl false) H1
noncomputable def b9Q(ta tb:TE):TE:=fun σ H Q=>ta σ H fun x H1=>∃c,x=.bl c/\if c=true then Q (.bl true) H1 else tb σ H1 Q
noncomputable def b7p(ta:TE):TE:=fun σ H Q=>ta σ H fun x H1=>∃c,x=.bl c/\Q (.bl (!c)) H1
theorem b5k{op}{t:TE}(h:PE X a t):PE X (.BoolOp op [a] pos) t:=fun pins s σ H Q I hw=>BoolOp_one (h pins s σ H Q I hw)
theorem b5q(ha:PE X a ta)(hb:PE X (.BoolOp .And (b::c9) pos) tb):PE X (.BoolOp .And (a::b::c9) pos) (b7w ta tb):=by
 intro pins s σ H Q I h;refine BoolOp_and (thn (ha pins s σ H _ I h) fun v s1 ⟨x,H1,I1,r1,q1⟩=>?_)
 obtain⟨c,rfl,q1⟩:=q1;cases r1;refine wpAny_truthy_bool ?_
 cases c with
 |true=>exact hb pins s1 σ H1 Q I1 q1
 |false=>exact⟨.bl false,H1,I1,rfl,q1⟩
theorem b7Q(ha:PE X a ta)(hb:PE X (.BoolOp .Or (b::c9) pos) tb):PE X (.BoolOp .Or (a::b::c9) pos) (b9Q ta tb):=by
 intro pins s σ H Q I h;refine BoolOp_or (thn (ha pins s σ H _ I h) fun v s1 ⟨x,H1,I1,r1,q1⟩=>?_)
 obtain⟨c,rfl,q1⟩:=q1;cases r1;refine wpAny_truthy_bool ?_
 cases c with
 |false=>exact hb pins s1 σ H1 Q I1 q1
 |true=>exact⟨.bl true,H1,I1,rfl,q1⟩
theorem b5l(ha:PE X a ta):PE X (.UnaryOp .Not a pos) (b7p ta):=by
 intro pins s σ H Q I h;refine UnaryOp_ (thn (ha pins s σ H _ I h) fun v s1 ⟨x,H1,I1,r1,q1⟩=>?_)
 obtain⟨c,rfl,q1⟩:=q1;cases r1;exact not_of (wpAny_truthy_bool ⟨.bl (!c),H1,I1,rfl,q1⟩)
end
def SqL(K:PySem.W.Frag)(H:Hp)(a:Addr)(xs:List V):Prop:=
 Rd H a (.lst xs)∨
  ∃(o:Obj) (its:Array Value) (n:Nat),K.lookup a=some o/\o.cls=.type "list"/\o.dict=none/\o.data=.seq its n/\its.size<=sizeLine/\k8 xs its.toList
def SqT(K:PySem.W.Frag)(H:Hp)(a:Addr)(xs:List V):Prop:=
 Rd H a (.tup xs)∨
  ∃(o:Obj) (its:Array Value) (n:Nat),K.lookup a=some o/\o.cls=.type "tuple"/\o.data=.seq its n/\its.size<=sizeLine/\k8 xs its.toList
noncomputable def c0G:Value->Option V
 |.none=>some .non
 |.bool b=>some (.bl b)
 |.int i _=>some (.int i)
 |.str x _=>some (.str x)
 |.bytes b _=>some (.byt b)
 |.float b _=>some (.flt b)
 |.ref a=>some (.ref a)
 |.type n=>some (.ty n)
 |_=>none
theorem n0.abs{x:V}(r:n0 x u):c0G u=some x:=by
 cases x with
 |non=>cases r;rfl
 |bl _=>cases r;rfl
 |int _=>obtain⟨t,rfl⟩:=r;rfl
 |str _=>obtain⟨t,rfl⟩:=r;rfl
 |byt _=>obtain⟨t,rfl⟩:=r;rfl
 |flt _=>obtain⟨t,rfl⟩:=r;rfl
 |ref _=>cases r;rfl
 |ty _=>cases r;rfl
variable{y:V}
theorem n0.inj{x:V}(r:n0 x u)(q:n0 y u):x=y:=au (r.abs.symm.trans q.abs)
theorem k8.inj:∀{xs ys:List V} {us:List Value},k8 xs us->k8 ys us->xs=ys
 |_,_,_,.nil,.nil=>rfl
 |_,_,_,.cons r t,.cons r' t'=>by rw[r.inj r',k8.inj t t']
variable{K:PySem.W.Frag}
section
variable{xs ys:List V}
theorem Inv.list(I:Inv X pins σ H s)(h:SqL X.K H a xs):∃its:List Value,k8 xs its/\PlainL s.heap a its.toArray/\xs.length<=sizeLine:=by
 rcases h with h|⟨o,its,n,hk,hc,hd,hs,hz,r⟩
 · obtain⟨z,its,n,r,e⟩:=h.ok I.hok;exact⟨its,r,⟨_,n,e,rfl,rfl,rfl⟩,z⟩
 · refine⟨its.toList,r,⟨o,n,I.kIn a o hk,hc,hd,by simpa using hs⟩,?_⟩
   have e:=r.length;simp only[Array.length_toList] at e;omega
theorem Inv.tuple(I:Inv X pins σ H s)(h:SqT X.K H a xs):∃its:List Value,k8 xs its/\IsTup s.heap a its.toArray/\xs.length<=sizeLine:=by
 rcases h with h|⟨o,its,n,hk,hc,hs,hz,r⟩
 · obtain⟨z,its,r,p⟩:=h.ok I.hok;exact⟨its,r,p.tup,z⟩
 · refine⟨its.toList,r,⟨o,I.kIn a o hk,hc,n,by simpa using hs⟩,?_⟩
   have e:=r.length;simp only[Array.length_toList] at e;omega
theorem Inv.list_inj(I:Inv X pins σ H s)(h:SqL X.K H a xs)(h':SqL X.K H a ys):xs=ys:=by
 obtain⟨its,r,⟨o,n,e,_,_,d⟩,_⟩:=I.list h;obtain⟨its',r',⟨o',n',e',_,_,d'⟩,_⟩:=I.list h';rw[e] at e';cases e'
 rw[d] at d'
 injection d' with d1 _
 have:its=its':=by simpa using congrArg Array.toList d1
 subst this;exact r.inj r'
theorem Inv.tuple_inj(I:Inv X pins σ H s)(h:SqT X.K H a xs)(h':SqT X.K H a ys):xs=ys:=by
 obtain⟨its,r,⟨o,e,_,n,d⟩,_⟩:=I.tuple h;obtain⟨its',r',⟨o',e',_,n',d'⟩,_⟩:=I.tuple h';rw[e] at e';cases e'
 rw[d] at d'
 injection d' with d1 _
 have:its=its':=by simpa using congrArg Array.toList d1
 subst this;exact r.inj r'
end
variable{tc:TT}
section
variable{st:Stmt}{c9:List Stmt}{t u:TS}{te:TE}
def b7r:TS:=fun D σ H=>D.nx σ H
noncomputable def b9N(t u:TS):TS:=fun D σ H=>t {D with nx:=u D} σ H
theorem b2D:PSs X [] b7r:=fun _ _ σ H _ I h=>wpAny_execs_nil ⟨σ,H,I,h⟩
theorem b0i(h1:PS X st t)(h2:PSs X c9 u):PSs X (st::c9) (b9N t u):=by
 intro pins s σ H D I h;refine wpAny_execs_cons (thn (h1 pins s σ H {D with nx:=u D} I h) fun f s1 q=>?_)
 cases f with
 |next=>
  obtain⟨σ',H',I',q⟩:=q;exact h2 pins s1 σ' H' D I' q
 |ret v=>exact q
 |brk=>exact q
 |cont=>exact q
theorem Inv.quiet(I:Inv X pins σ H s):interactive X.env=false:=by simp[interactive,I.ok.kind]
noncomputable def b7t(te:TE):TS:=fun D σ H=>te σ H fun _ H1=>D.nx σ H1
theorem b2E(he:PE X e te)(hs:swapsWith e none pos.line X.env=pure false:=by rfl):PS X (.Expr e pos) (b7t te):=by
 intro pins s σ H D I h;exact wpAny_Expr_any (thn (he pins s σ H _ I h) fun v s1 ⟨x,H1,I1,r1,q1⟩=>⟨σ,H1,I1,q1⟩) I.quiet hs
noncomputable def b9P(te:TE):TS:=fun D σ H=>te σ H D.rt
theorem b4W(he:PE X e te):PS X (.Return (some e) pos) (b9P te):=by
 intro pins s σ H D I h;exact wpAny_Return_some (thn (he pins s σ H _ I h) fun v s1 ⟨x,H1,I1,r1,q1⟩=>⟨x,σ,H1,I1,r1,q1⟩)
noncomputable def b9U(c:TT)(t u:TS):TS:=fun D σ H=>c σ H fun b H1=>if b=true then t D σ H1 else u D σ H1
theorem b7O{a b:List Stmt}(hc:PT X c tc)(ha:PSs X a t)(hb:PSs X b u):PS X (.If c a b pos) (b9U tc t u):=by
 intro pins s σ H D I h;refine wpAny_If (thn (hc pins s σ H _ I h) fun d s1 ⟨H1,I1,q1⟩=>?_)
 cases d with
 |true=>exact ha pins s1 σ H1 D I1 q1
 |false=>exact hb pins s1 σ H1 D I1 q1
end
abbrev TG:=V->St->Hp->(St->Hp->Prop)->Prop
abbrev TGs:=List V->St->Hp->(St->Hp->Prop)->Prop
def PG(X:Cx)(target:Expr)(t:TG):Prop:=
 ∀(pins:List (Addr×Obj)) (s:Shared) (σ:St) (H:Hp) (v:V) (u:Value) (Q:St->Hp->Prop),Inv X pins σ H s->n0 v u->t v σ H Q→
  wpAny (model X.prog X.w) X.A (assign target X.env u) (fun _ s'=>∃σ' H',Inv X pins σ' H' s'/\Q σ' H') X.xe s
def PGs(X:Cx)(ts:List Expr)(t:TGs):Prop:=
 ∀(pins:List (Addr×Obj)) (s:Shared) (σ:St) (H:Hp) (vs:List V) (us:List Value) (Q:St->Hp->Prop),Inv X pins σ H s->k8 vs us->t vs σ H Q→
  wpAny (model X.prog X.w) X.A (assignInOrder ((assignEach ts X.env).map (·.2)) us) (fun _ s'=>∃σ' H',Inv X pins σ' H' s'/\Q σ' H') X.xe s
abbrev b7e:=V->V->V->Hp->(Hp->Prop)->Prop
def b7f(X:Cx)(t:b7e):Prop:=
 ∀(pins:List (Addr×Obj)) (s:Shared) (σ:St) (H:Hp) (o i v:V) (ov iv u:Value) (Q:Hp->Prop),Inv X pins σ H s->n0 o ov->n0 i iv->n0 v u->t o i v H Q→
  wpAny (model X.prog X.w) X.A (setItem ov iv u) (fun _ s'=>∃H',Inv X pins σ H' s'/\Q H') X.xe s
variable{es:List Expr}{n:Nat}{to:TE}{ti:TE}{tg:Expr}{te:TE}{pos':Pos}{ta:TA}
section
noncomputable def b1j(i:Nat):TG:=fun v σ H Q=>Q (σ.set i (some v)) H
theorem b2O(hN:X.N.Nodup)(hi:X.N[i]? =some x)(hx:Loc X.env.scope x)(hf:X.fn x=true∨X.env.scope.names.lookup x=some .local:=by first|exact .inl rfl|exact .inr rfl|assumption):PG X (.Name x pos) (b1j i):=by
 intro pins s σ H v u Q I r h;exact wpAny_assign_Name (a5G I hN hi hx r (fun s' I'=>⟨_,H,I',h⟩) hf)
def c0w:TGs:=fun vs σ H Q=>vs=[]/\Q σ H
noncomputable def b8v(t:TG)(u:TGs):TGs:=fun vs σ H Q=>∃v r,vs=v::r/\t v σ H fun σ' H'=>u r σ' H' Q
theorem b2N:PGs X [] c0w:=by
 intro pins s σ H vs us Q I r h;obtain⟨e,h⟩:=h;subst e;cases r;exact assignInOrder_nil ⟨σ,H,I,h⟩
theorem b0q{t:TG}{u:TGs}(h1:PG X e t)(h2:PGs X es u)
 (hs:(assignEach (e::es) X.env).map (·.2)=assign e X.env::(assignEach es X.env).map (·.2):=by rfl):PGs X (e::es) (b8v t u):=by
 intro pins s σ H vs us Q I r h;obtain⟨v,vr,e1,h⟩:=h;subst e1
 cases r with
 |cons r rr=>
  rw[hs];refine assignInOrder_cons (thn (h1 pins s σ H _ _ _ I r h) fun _ s1 ⟨σ1,H1,I1,q1⟩=>?_)
  exact h2 pins s1 σ1 H1 _ _ Q I1 rr q1
noncomputable def c0u(K:PySem.W.Frag)(n:Nat)(t:TGs):TG:=fun v σ H Q=>∃a xs,v=.ref a/\SqT K H a xs/\xs.length=n/\t xs σ H Q
theorem b5f{k:Nat}{t:TGs}(hc:X.calm=true)(h:PGs X es t)
 (hn:(assignEach es X.env).length=n:=by rfl) (hst:(assignEach es X.env).findIdx? (·.1)=none:=by rfl):PG X (.Tuple es k pos) (c0u X.K n t):=by
 intro pins s σ H v u Q I r hw;obtain⟨a,xs,e1,hq,hl,hw⟩:=hw;subst e1;cases r;obtain⟨its,rv,ht,hz⟩:=I.tuple hq;refine assign_Tuple_tuple (I.ok.hd hc) ht (by simp[hn,←hl,rv.length]) hst fun h' hx=>?_
 have I1:Inv X pins σ H {s with heap:=h'}:=I.kept (t':=s.toks) fun b o e=>hx b o (Nat.ne_of_lt (Heap.lt_size e)) e
 exact h pins _ σ H xs _ Q I1 (by simpa using rv) hw
noncomputable def b8u(to ti:TE)(t:b7e):TG:=fun v σ H Q=>to σ H fun o H1=>ti σ H1 fun i H2=>t o i v H2 fun H3=>Q σ H3
theorem b5g{o i:Expr}{t:b7e}(ho:PE X o to)(hi:PE X i ti)(hs:b7f X t)
 (ha:∀v,assign (.Subscript o i pos) X.env v=(do
  let ov←holding [v] (eval o X.env)
  let iv←holding [v,ov] (eval i X.env)
  standAt pos
  holding [v,ov,iv] (setItem ov iv v)
  release [v,ov,iv] []):=by intro _;rfl):PG X (.Subscript o i pos) (b8u to ti t):=by
 intro pins s σ H v u Q I r h;rw[ha];refine wpAny_bind (wpAny_holding (thn (ho pins s σ H _ I h) fun ov s1 ⟨x,H1,I1,r1,q1⟩=>?_))
 refine wpAny_bind (wpAny_holding (thn (hi pins s1 σ H1 _ I1 q1) fun iv s2 ⟨y,H2,I2,r2,q2⟩=>?_))
 refine wpAny_bind (wpAny_standAt (wpAny_bind (wpAny_holding (thn (hs pins s2 σ H2 x y v ov iv u _ I2 r1 r2 r q2) fun _ s3 ⟨H3,I3,q3⟩=>?_))))
 exact wpAny_release ⟨σ,H3,I3,q3⟩
noncomputable def b4E(te:TE)(g:TG):TS:=fun D σ H=>te σ H fun x H1=>g x σ H1 D.nx
theorem b4Z{g:TG}(he:PE X e te)(hg:PG X tg g)(hs:swapsWithSole [tg] e pos.line X.env=pure false:=by rfl)(hw:swappedStores [tg] e X.env=pure none:=by rfl)
 (h1:(assignEach [tg] X.env).map (·.2)=[assign tg X.env]:=by rfl):PS X (.Assign [tg] e pos) (b4E te g):=by
 intro pins s σ H D I h;refine wpAny_Assign_stores (thn (he pins s σ H _ I h) fun v s1 ⟨x,H1,I1,r1,q1⟩=>?_) hs hw
 rw[h1];exact thn (hg pins s1 σ H1 x v _ I1 r1 q1) fun _ s2 q=>q
theorem b0k(hN:X.N.Nodup)(hi:X.N[i]? =some x)(hx:Loc X.env.scope x)(he:PE X e te)(hs:swapsWith e (some (.Name x pos')) pos.line X.env=pure false:=by rfl)(hf:X.fn x=true∨X.env.scope.names.lookup x=some .local:=by first|exact .inl rfl|exact .inr rfl|assumption):
 PS X (.Assign [.Name x pos'] e pos) (b4E te (b1j i)):=by
 intro pins s σ H D I h;refine wpAny_Assign_Name (thn (he pins s σ H _ I h) fun v s1 ⟨y,H1,I1,r1,q1⟩=>?_) hs
 exact a5G I1 hN hi hx r1 (fun s2 I2=>⟨_,H1,I2,q1⟩) hf
end
variable{body:List Stmt}{tb:TS}
section
noncomputable def b4B(c:TT)(tb:TS):TS:=fun D σ H=>∃W:Nat->St->Hp->Prop,(∃m,W m σ H)/\∀m σ H,W m σ H→
 c σ H fun b H1=>if b=true then∃N:St->Hp->Prop,(∀σ' H',N σ' H'->∃m',m'<m/\W m' σ' H')/\tb {D with nx:=N,ct:=N,bk:=D.nx} σ H1 else D.nx σ H1
theorem b0j(hp:PassesOwn (model X.prog X.w) X.A X.env X.xe)(hc:PT X c tc)(hb:PSs X body tb):PS X (.While c body [] pos) (b4B tc tb):=by
 intro pins s σ H D I h;obtain⟨W,⟨m0,w0⟩,turn⟩:=h;refine wpAny_While (codeAny_whileLoop (fun n s'=>∃σ' H',Inv X pins σ' H' s'/\W n σ' H') ?_ m0 ⟨σ,H,I,w0⟩)
 rintro n s1 ⟨σ1,H1,I1,w1⟩;refine wpAny_passesOwn hp (thn (hc pins s1 σ1 H1 _ I1 (turn n σ1 H1 w1)) fun b s2 ⟨H2,I2,q2⟩=>?_)
 cases b with
 | true=>
  obtain⟨N,hN,q2⟩:=q2;rw[av rfl];refine wpAny_passesOwn hp (thn (hb pins s2 σ1 H2 _ I2 q2) fun f s3 q3=>?_)
  cases f with
  |next=>
   obtain⟨σ3,H3,I3,n3⟩:=q3;obtain⟨m',hm,w3⟩:=hN σ3 H3 n3;exact⟨m',hm,σ3,H3,I3,w3⟩
  |cont=>
   obtain⟨σ3,H3,I3,n3⟩:=q3;obtain⟨m',hm,w3⟩:=hN σ3 H3 n3;exact⟨m',hm,σ3,H3,I3,w3⟩
  |brk=>exact q3
  |ret v=>exact q3
 |false=>
  rw[aw ba];exact wpAny_execs_nil ⟨σ1,H2,I2,q2⟩
end
structure It where
 go:Nat->Hp->Prop
 yld:Nat->Hp->V->Hp->Prop
 stop:Nat->Hp->Prop
def a2c(X:Cx)(pins:List (Addr×Obj))(H:Hp)(b:Addr):Prop:=
 H b=none/\b≠X.env.locals/\b∉X.fs/\(b∈X.ex∨X.s₀.heap.objs.size<=b)/\(∀x c,X.env.cells.lookup x=some c->c≠b)/\∀p∈X.pn++pins,p.1≠b
variable{H':Hp}
theorem Inv.fpOk(I:Inv X pins σ H s)(hb:s.heap.objs.size<=b)(hn:H' b=none):a2c X pins H' b:=by
 refine⟨hn,Nat.ne_of_gt (az I.lt hb),I.nofs hb,.inr (aK I.sz hb),fun x c e z=>?_,fun p hp z=>?_⟩
 · obtain⟨v,q⟩:=I.cell x c e;exact absurd (az q.lt (by rw[z];exact hb)) (aJ _)
 · exact absurd (az (Heap.lt_size (I.pin p hp).1) (by rw[z];exact hb)) (aJ _)
structure Turn(P:Program)(w:World)(K:PySem.W.Frag)(tg:Expr)(J:It)(fp:List Addr)(it:Addr)(tn:Nat->Heap->Prop):Prop where
 mem:it∈fp
 obj:∀i h,tn i h->∀b∈fp,∃o,h.get? b=some o/\∀v,o.data≠.cell v
 keep:∀i h h',tn i h->(∀b∈fp,∀o,h.get? b=some o->h'.get? b=some o)->tn i h'
 item:∀(X:Cx),X.prog=P->X.w=w->X.K=K->X.calm=true->∀(i:Nat) (pins:List (Addr×Obj)) (s:Shared) (σ:St) (H:Hp) (E:Value->Shared->Prop),Inv X pins σ H s->(∀b∈fp,a2c X pins H b)->tn i s.heap->J.go i H→
  wpAny (model P w) X.A (pyNext (.ref it)) (fun r s1=>∃u,r=some u∧
   wpAny (model P w) X.A (letOwnedTupleGo tg (.ref it) u) (fun _ s2=>∃x H',Inv X pins σ H' s2/\n0 x u/\J.yld i H x H'/\tn (i+1) s2.heap/\∀b∈fp,H' b=none) E s1) E s
 done:∀(X:Cx),X.prog=P->X.w=w->X.K=K->X.calm=true->∀(i:Nat) (pins:List (Addr×Obj)) (s:Shared) (σ:St) (H:Hp) (E:Value->Shared->Prop),Inv X pins σ H s->(∀b∈fp,a2c X pins H b)->tn i s.heap->J.stop i H→
  wpAny (model P w) X.A (pyNext (.ref it)) (fun r s1=>r=none/\Inv X pins σ H s1) E s
 self:∀(A:Around) (i:Nat) (s:Shared) (Q:Value->Shared->Prop) (E:Value->Shared->Prop),tn i s.heap->Q (.ref it) s->wpAny (model P w) A (pyIter (.ref it)) Q E s
abbrev TI:=St->Hp->(It->Hp->Prop)->Prop
def PIE(X:Cx)(pins:List (Addr×Obj))(σ:St)(tg:Expr)(R:It->Hp->Prop)(itv:Value)(s2:Shared):Prop:=
 ∃(it:Addr) (fp:List Addr) (tn:Nat->Heap->Prop) (J:It) (H':Hp),itv=.ref it/\Inv X pins σ H' s2/\Turn X.prog X.w X.K tg J fp it tn/\tn 0 s2.heap/\(∀b∈fp,a2c X pins H' b)/\R J H'
def PI(X:Cx)(tg iter:Expr)(wi:TI):Prop:=
 ∀(pins:List (Addr×Obj)) (s:Shared) (σ:St) (H:Hp) (R:It->Hp->Prop),Inv X pins σ H s->wi σ H R→
  wpAny (model X.prog X.w) X.A (eval iter X.env) (fun v s1=>wpAny (model X.prog X.w) X.A (pyIter v) (PIE X pins σ tg R) X.xe s1) X.xe s
theorem a8c{E:Value->Shared->Prop}{n:String}{vs:Array Value}{Q:Unit->Shared->Prop}(ho:s.heap.get? it=some o)(hc:o.cls=.type n)(hd:o.data=.fields vs)
   (hn:["enumerate","zip","dict_itemiterator","dict_reverseitemiterator","odict_iterator","itertools.zip_longest","itertools.pairwise"].contains n=false) (hQ:Q () s):wpAny M A (letOwnedTupleGo tg (.ref it) u) Q E s:=by
 unfold letOwnedTupleGo
 cases tg <;>first
   |exact wpAny_pure hQ
   |(cases u<;>first
       |exact wpAny_pure hQ
       | (refine wpAny_bind (wpAny_load ho ?_)
          rw[hc,hd]
          show wpAny M A (if(["enumerate","zip","dict_itemiterator","dict_reverseitemiterator","odict_iterator","itertools.zip_longest","itertools.pairwise"].contains n&&vs[0]? ==some (rawInt _))=true then _ else _) Q E s
          rw[aw (by intro h;rw[hn,Bool.false_and] at h;cases h)]
          exact wpAny_pure hQ))
noncomputable def Itl(K:PySem.W.Frag)(a:Addr):It:=
 ⟨fun i H=>∃xs x,SqL K H a xs/\xs[i]? =some x,fun i H x H'=>H'=H/\∀xs,SqL K H a xs->xs[i]? =some x,fun i H=>∃xs,SqL K H a xs/\xs.length<=i⟩
noncomputable def Itt(K:PySem.W.Frag)(a:Addr):It:=
 ⟨fun i H=>∃xs x,SqT K H a xs/\xs[i]? =some x,fun i H x H'=>H'=H/\∀xs,SqT K H a xs->xs[i]? =some x,fun i H=>∃xs,SqT K H a xs/\xs.length<=i⟩
noncomputable def Itr(lo:Int)(n:Nat):It:=⟨fun i _=>i<n,fun i H x H'=>H'=H/\x=.int (lo+i),fun i _=>n<=i⟩
theorem a8w(a it:Addr):Turn P w K tg (Itl K a) [it] it (fun i h=>h.IsListIter it a i) where
 mem:=by simp
 obj:=fun i h st b hb=>by
  have e:b=it:=by simpa using hb
  subst e;obtain⟨o,e,c,d⟩:=st;exact⟨o,e,fun v z=>by rw[d] at z;cases z⟩
 keep:=fun i h h' st k=>st.at fun o e=>k it (by simp) o e
 item:=by
  intro X hP hw hK hc i pins s σ H E I hf st hg;subst hP hw hK;obtain⟨xs,x,hq,hx⟩:=hg;obtain⟨its,rv,p,hz⟩:=I.list hq;obtain⟨u,hu,ru⟩:=rv.get hx;obtain⟨f0,f1,f2,f3,f4,f5⟩:=hf it (by simp)
  refine wpAny_pyNext_list_item st p.isList (x:=u) (by simpa using hu) fun h' st' sb=>?_
  have I1:Inv X pins σ H {s with heap:=h'}:=I.turned (t':=s.toks) (fun b o hb e=>(sb.2 b hb).trans e) f0 f1 f3 f4 f5
  obtain⟨o,e,c,d⟩:=id st';exact⟨u,rfl,a8c (s:={s with heap:=h'}) e c d (by decide) ⟨x,H,I1,ru,⟨rfl,fun ys hy=>by rw[I.list_inj hy hq];exact hx⟩,st',fun b hb=>(hf b hb).1⟩⟩
 done:=by
  intro X hP hw hK hc i pins s σ H E I hf st hg;subst hP hw hK;obtain⟨xs,hq,hx⟩:=hg;obtain⟨its,rv,p,hz⟩:=I.list hq;obtain⟨f0,f1,f2,f3,f4,f5⟩:=hf it (by simp)
  have hl:=rv.length;exact wpAny_pyNext_list_end (I.ok.hd hc) st p.isList (by simp;omega) fun h' eb=>⟨rfl,I.turned (t':=s.toks) (fun b o hb e=>eb b o hb e) f0 f1 f3 f4 f5⟩
 self:=fun _ _ _ _ _ st h=>wpAny_pyIter_listiter st h
theorem a6B(a it:Addr):Turn P w K tg (Itt K a) [it] it (fun i h=>h.IsTupleIter it a i) where
 mem:=by simp
 obj:=fun i h st b hb=>by
  have e:b=it:=by simpa using hb
  subst e;obtain⟨o,e,c,d⟩:=st;exact⟨o,e,fun v z=>by rw[d] at z;cases z⟩
 keep:=fun i h h' st k=>st.at fun o e=>k it (by simp) o e
 item:=by
  intro X hP hw hK hc i pins s σ H E I hf st hg;subst hP hw hK;obtain⟨xs,x,hq,hx⟩:=hg;obtain⟨its,rv,p,hz⟩:=I.tuple hq;obtain⟨u,hu,ru⟩:=rv.get hx;obtain⟨f0,f1,f2,f3,f4,f5⟩:=hf it (by simp)
  refine wpAny_pyNext_tuple_item st (show s.heap.IsTuple a its.toArray from p) (x:=u) (by simpa using hu) fun h' st' sb=>?_
  have I1:Inv X pins σ H {s with heap:=h'}:=I.turned (t':=s.toks) (fun b o hb e=>(sb.2 b hb).trans e) f0 f1 f3 f4 f5
  obtain⟨o,e,c,d⟩:=id st';exact⟨u,rfl,a8c (s:={s with heap:=h'}) e c d (by decide) ⟨x,H,I1,ru,⟨rfl,fun ys hy=>by rw[I.tuple_inj hy hq];exact hx⟩,st',fun b hb=>(hf b hb).1⟩⟩
 done:=by
  intro X hP hw hK hc i pins s σ H E I hf st hg;subst hP hw hK;obtain⟨xs,hq,hx⟩:=hg;obtain⟨its,rv,p,hz⟩:=I.tuple hq;obtain⟨f0,f1,f2,f3,f4,f5⟩:=hf it (by simp)
  have hl:=rv.length;exact wpAny_pyNext_tuple_end (I.ok.hd hc) st (show s.heap.IsTuple a its.toArray from p) (by simp;omega) fun h' eb=>⟨rfl,I.turned (t':=s.toks) (fun b o hb e=>eb b o hb e) f0 f1 f3 f4 f5⟩
 self:=fun _ _ _ _ _ st h=>wpAny_pyIter_tupleiter st h
theorem a6C(it:Addr)(lo:Int)(n:Nat):Turn P w K tg (Itr lo n) [it] it (fun i h=>IsRangeIter h it (lo+(i:Nat)*1) ((n:Int)-(i:Nat)) 1) where
 mem:=by simp
 obj:=fun i h st b hb=>by
  have e:b=it:=by simpa using hb
  subst e
  exact⟨_,st,fun v z=>by
   have z':Data.fields _=Data.cell v:=z
   cases z'⟩
 keep:=fun i h h' st k=>k it (by simp) _ st
 item:=by
  intro X hP hw hK hc i pins s σ H E I hf st hg;subst hP hw hK;obtain⟨f0,f1,f2,f3,f4,f5⟩:=hf it (by simp)
  have W:=Walks.range (prog:=X.prog) (w:=X.w) (I.ok.hd hc) it lo 1 n;refine W.item i s _ _ hg st fun v h' tk hv st' kk=>?_
  obtain⟨t,rfl⟩:=hv
  have I1:Inv X pins σ H {s with heap:=h',toks:=tk}:=I.turned (fun b o hb e=>kk b o (by simpa using hb) e) f0 f1 f3 f4 f5
  refine⟨_,rfl,a8c (s:={s with heap:=h',toks:=tk}) (n:="range_iterator") st' rfl rfl (by decide) ⟨.int (lo+i),H,I1,⟨t,?_⟩,⟨rfl,rfl⟩,st',fun b hb=>(hf b hb).1⟩⟩
  rw[Int.mul_one]
 done:=by
  intro X hP hw hK hc i pins s σ H E I hf st hg;subst hP hw hK;obtain⟨f0,f1,f2,f3,f4,f5⟩:=hf it (by simp)
  exact wpAny_pyNext_range_end (I.ok.hd hc) st (by have:n<=i:=hg;omega) fun h' eb=>⟨rfl,I.turned (t':=s.toks) (fun b o hb e=>eb b o hb e) f0 f1 f3 f4 f5⟩
 self:=fun _ _ _ _ _ st h=>wpAny_pyIter_rangeiter st h
variable{lo:Int}{p:Pos}{fp:List Addr}{iter:Expr}
section
def b8j(K:PySem.W.Frag)(tl:TE):TI:=fun σ H R=>tl σ H fun x H1=>∃a,x=.ref a/\(∃xs,SqL K H1 a xs)/\R (Itl K a) H1
def c0s(K:PySem.W.Frag)(tl:TE):TI:=fun σ H R=>tl σ H fun x H1=>∃a,x=.ref a/\(∃xs,SqT K H1 a xs)/\R (Itt K a) H1
theorem b2L{l:Expr}{tl:TE}(hl:PE X l tl):PI X tg l (b8j X.K tl):=by
 intro pins s σ H R I h;refine thn (hl pins s σ H _ I h) fun v s1 ⟨x,H1,I1,r1,q1⟩=>?_
 obtain⟨a,e,⟨xs,hq⟩,q⟩:=q1;subst e;cases r1;obtain⟨its,rv,p,hz⟩:=I1.list hq;refine wpAny_pyIter_list p.isList ?_
 refine⟨s1.heap.objs.size,[s1.heap.objs.size],_,_,H1,rfl,I1.kept (t':=s1.toks) fun b o e=>Heap.get?_push_of_some _ e,a8w a _,⟨_,Heap.get?_push_size _ rfl,rfl,rfl⟩,fun b hb=>?_,q⟩
 have e:b=s1.heap.objs.size:=by simpa using hb
 subst e;exact I1.fpOk (ai _) (I1.hok.fresh (ai _))
theorem b5d{l:Expr}{tl:TE}(hl:PE X l tl):PI X tg l (c0s X.K tl):=by
 intro pins s σ H R I h;refine thn (hl pins s σ H _ I h) fun v s1 ⟨x,H1,I1,r1,q1⟩=>?_
 obtain⟨a,e,⟨xs,hq⟩,q⟩:=q1;subst e;cases r1;obtain⟨its,rv,p,hz⟩:=I1.tuple hq;refine wpAny_pyIter_tuple (show s1.heap.IsTuple a its.toArray from p) ?_
 refine⟨s1.heap.objs.size,[s1.heap.objs.size],_,_,H1,rfl,I1.kept (t':=s1.toks) fun b o e=>Heap.get?_push_of_some _ e,a6B a _,⟨_,Heap.get?_push_size _ rfl,rfl,rfl⟩,fun b hb=>?_,q⟩
 have e:b=s1.heap.objs.size:=by simpa using hb
 subst e;exact I1.fpOk (ai _) (I1.hok.fresh (ai _))
theorem b0b{R:It->Hp->Prop}{E:Value->Shared->Prop}{hi:Int}{t u v:Tok}{tk:Nat}(I:Inv X pins σ H s)(h1: -(2^62)<=lo)(h2:lo<2^62)(h3: -(2^62)<=hi)(h4:hi<2^62)
 (q:R (Itr lo (hi-lo).toNat) H):wpAny (model X.prog X.w) X.A (pyIter (.ref s.heap.objs.size)) (PIE X pins σ tg R) E {s with heap:=s.heap.push {cls:=.type "range",data:=.fields #[.int lo t,.int hi u,.int 1 v]},toks:=tk}:=by
 refine wpAny_pyIter_range (IsRange.new ..) (small_one h1 h2 h3 h4) ?_
 have I1:Inv X pins σ H {s with heap:=s.heap.push {cls:=.type "range",data:=.fields #[.int lo t,.int hi u,.int 1 v]},toks:=tk}:=I.kept fun b o e=>Heap.get?_push_of_some _ e
 refine⟨(s.heap.push {cls:=.type "range",data:=.fields #[.int lo t,.int hi u,.int 1 v]}).objs.size,[(s.heap.push {cls:=.type "range",data:=.fields #[.int lo t,.int hi u,.int 1 v]}).objs.size],_,_,H,rfl,
  I1.kept (t':=tk) fun b o e=>Heap.get?_push_of_some _ e,a6C _ lo (hi-lo).toNat,?_,fun b hb=>?_,q⟩
 · have e1:lo+((0:Nat):Int)*1=lo:=by simp
   have e2:(((hi-lo).toNat:Nat):Int)-((0:Nat):Int)=Builtin.Range.rangeSize lo hi 1:=by rw[rangeSize_one];split<;>omega
   show IsRangeIter _ _ (lo+((0:Nat):Int)*1) ((((hi-lo).toNat:Nat):Int)-((0:Nat):Int)) 1
   rw[e1,e2];exact Heap.get?_push_size _ rfl
 · have e:b=(s.heap.push {cls:=.type "range",data:=.fields #[.int lo t,.int hi u,.int 1 v]}).objs.size:=by simpa using hb
   subst e;exact I1.fpOk (ai _) (I1.hok.fresh (ai _))
def b8i(ta:TA):TI:=fun σ H R=>ta σ H fun vs H1=>∃j:Int,vs=[.int j]/\ -(2^62)<=j/\j<2^62/\R (Itr 0 j.toNat) H1
theorem a8L{a:Expr}(hg:Gl X "range")(hm:X.mg "range"=none)(ha:PA X [a] ta)(hs:starEach [a] X.env=[(false,eval a X.env)]:=by rfl):PI X tg (.Call (.Name "range" p) [a] [] pos) (b8i ta):=by
 intro pins s σ H R I h;refine Call_ (Z7 I hg hm boot_range (PyProof.Rows.callWith_type1 (thn (ha pos pins s σ H _ I h) fun us s1 ⟨vs,H1,I1,r1,q1⟩=>?_) hs rfl))
 obtain⟨j,e,q1,q2,q⟩:=q1;subst e
 cases r1 with
 |cons r rr=>
  cases rr;obtain⟨t,rfl⟩:=r;exact call_range_1 (b0b I1 (by omega) (by omega) q1 q2 (by simpa using q))
noncomputable def b9V(wi:TI)(g:TG)(tb:TS):TS:=fun D σ H=>wi σ H fun J H1=>∃W:Nat->Nat->St->Hp->Prop,(∃m,W 0 m σ H1)/\∀i m σ H,W i m σ H→
 (J.stop i H/\D.nx σ H)∨(J.go i H/\∃N:St->Hp->Prop,(∀σ' H',N σ' H'->∃m',m'<m/\W (i+1) m' σ' H')/\∀x H',J.yld i H x H'->g x σ H' fun σ2 H2=>tb {D with nx:=N,ct:=N,bk:=D.nx} σ2 H2)
noncomputable def a2J(fp:List Addr)(h:Heap):List (Addr×Obj):=fp.filterMap fun b=>(h.get? b).map fun o=>(b,o)
theorem W8(hb:b∈fp)(e:h.get? b=some o):(b,o)∈a2J fp h:=List.mem_filterMap.mpr ⟨b,hb,by rw[e];rfl⟩
theorem a8Q{p:Addr×Obj}(hp:p∈a2J fp h):p.1∈fp/\h.get? p.1=some p.2:=by
 obtain⟨b,hb,e⟩:=List.mem_filterMap.mp hp
 cases q:h.get? b with
 |none=>rw[q] at e;cases e
 |some o=>
  rw[q] at e
  have e':(b,o)=p:=au e
  subst e';exact⟨hb,q⟩
theorem Inv.pinned(I:Inv X pins σ H s)(hf:∀b∈fp,a2c X pins H b)(ho:∀b∈fp,∃o,s.heap.get? b=some o/\∀v,o.data≠.cell v):Inv X (pins++a2J fp s.heap) σ H s:=
 I.pins_of fun p hp=>(aF.mp hp).elim (fun z=>I.pin p (mem_append_right _ z)) fun z=>by
  obtain⟨hb,e⟩:=a8Q z;obtain⟨f0,f1,f2,_⟩:=hf p.1 hb;obtain⟨o,e',d⟩:=ho p.1 hb;rw[e] at e';cases e'
  exact⟨e,f0,f1,f2,d⟩
theorem Inv.unpinned{pl:List (Addr×Obj)}(I:Inv X (pins++pl) σ H s):Inv X pins σ H s:=I.pins_of fun p hp=>I.pin p (mem_append_right _ (mem_append_left _ hp))
theorem b4X{wi:TI}{g:TG}(hp:PassesOwn (model X.prog X.w) X.A X.env X.xe)(hc:X.calm=true)(hi:PI X tg iter wi)(hg:PG X tg g)(hb:PSs X body tb)
 (hs:∀x,foldedSetIterable iter X.env x=pure x:=by intro _;rfl):PS X (.For tg iter body [] pos) (b9V wi g tb):=by
 intro pins s σ H D I h;refine wpAny_For (thn (hi pins s σ H _ I h) fun v s1 h1=>thn h1 fun itv s2 h2=>?_) hs
 obtain⟨it,fp,tn,J,H2,e,I2,T,st2,f2,W,⟨m0,w0⟩,turn⟩:=h2;subst e
 -- what stays true of the iterator's objects through the loop
 have stat:∀{H':Hp},(∀b∈fp,H' b=none)->∀b∈fp,a2c X pins H' b:=fun hn b hb=>⟨hn b hb,(f2 b hb).2⟩
 refine codeAny_forLoop_any (fun n s'=>∃i σ' H',Inv X pins σ' H' s'/\tn i s'.heap/\(∀b∈fp,H' b=none)/\W i n σ' H') ?_ m0 ⟨0,σ,H2,I2,st2,fun b hb=>(f2 b hb).1,w0⟩
 rintro n s3 ⟨i,σ3,H3,I3,st3,fr3,w3⟩
 rcases turn i n σ3 H3 w3 with⟨stop,qn⟩|⟨go,N,hN,step⟩
 · refine wpAny_passesOwn hp (thn (T.done X rfl rfl rfl hc i pins s3 σ3 H3 X.xe I3 (stat fr3) st3 stop) fun r s4 ⟨hr,I4⟩=>?_)
   subst hr;exact wpAny_execs_nil ⟨σ3,H3,I4,qn⟩
 · refine wpAny_passesOwn hp (thn (T.item X rfl rfl rfl hc i pins s3 σ3 H3 X.xe I3 (stat fr3) st3 go) fun r s4 ⟨u,hr,h4⟩=>?_)
   subst hr;refine wpAny_passesOwn hp (thn h4 fun _ s5 ⟨x,H5,I5,r5,y5,st5,fr5⟩=>?_)
   have I5':=I5.pinned (stat fr5) (T.obj _ _ st5)
   refine wpAny_passesOwn hp (thn (hg _ s5 σ3 H5 x u _ I5' r5 (step x H5 y5)) fun _ s6 ⟨σ6,H6,I6,q6⟩=>?_)
   refine wpAny_passesOwn hp (thn (hb _ s6 σ6 H6 _ I6 q6) fun f s7 q7=>?_)
   have again:∀{σ7:St} {H7:Hp},Inv X (pins++a2J fp s5.heap) σ7 H7 s7->N σ7 H7->∃m,m<n/\∃i σ' H',Inv X pins σ' H' s7/\tn i s7.heap/\(∀b∈fp,H' b=none)/\W i m σ' H':=fun{σ7 H7} I7 n7=>by
    obtain⟨m',hm,w7⟩:=hN σ7 H7 n7;refine⟨m',hm,i+1,σ7,H7,I7.unpinned,T.keep _ _ _ st5 fun b hb o e=>(I7.pin (b,o) (mem_append_right _ (mem_append_right _ (W8 hb e)))).1,fun b hb=>?_,w7⟩
    obtain⟨o,e,d⟩:=T.obj _ _ st5 b hb;exact(I7.pin (b,o) (mem_append_right _ (mem_append_right _ (W8 hb e)))).2.1
   cases f with
   |next=>obtain⟨σ7,H7,I7,n7⟩:=q7;exact again I7 n7
   |cont=>obtain⟨σ7,H7,I7,n7⟩:=q7;exact again I7 n7
   |brk=>obtain⟨σ7,H7,I7,q7⟩:=q7;exact⟨σ7,H7,I7.unpinned,q7⟩
   |ret v=>obtain⟨x7,σ7,H7,I7,r7,q7⟩:=q7;exact⟨x7,σ7,H7,I7.unpinned,r7,q7⟩
end
abbrev R2:=V->V->Hp->VK->Prop
def OpR(X:Cx)(f:Value->Value->Sem Value)(r:R2):Prop:=
 ∀(pins:List (Addr×Obj)) (s:Shared) (σ:St) (H:Hp) (x y:V) (v u:Value) (Q:VK),Inv X pins σ H s->n0 x v->n0 y u->r x y H Q→
  wpAny (model X.prog X.w) X.A (f v u) (EP X pins σ Q) X.xe s
def UnR(X:Cx)(f:Value->Sem Value)(r:V->Hp->VK->Prop):Prop:=
 ∀(pins:List (Addr×Obj)) (s:Shared) (σ:St) (H:Hp) (x:V) (v:Value) (Q:VK),Inv X pins σ H s->n0 x v->r x H Q→
  wpAny (model X.prog X.w) X.A (f v) (EP X pins σ Q) X.xe s
def G8(X:Cx)(f:Value)(r:List V->Hp->VK->Prop):Prop:=
 ∀(pins:List (Addr×Obj)) (s:Shared) (σ:St) (H:Hp) (xs:List V) (us:List Value) (Q:VK),Inv X pins σ H s->k8 xs us->r xs H Q→
  wpAny (model X.prog X.w) X.A (call f us) (EP X pins σ Q) X.xe s
def c0Q(X:Cx)(r:V->Hp->(Bool->Hp->Prop)->Prop):Prop:=
 ∀(pins:List (Addr×Obj)) (s:Shared) (σ:St) (H:Hp) (x:V) (v:Value) (Q:Bool->Hp->Prop),Inv X pins σ H s->n0 x v->r x H Q→
  wpAny (model X.prog X.w) X.A (truthy v) (TP X pins σ Q) X.xe s
noncomputable def tOp(r:R2)(ta tb:TE):TE:=fun σ H Q=>ta σ H fun x H1=>tb σ H1 fun y H2=>r x y H2 Q
def tUn(r:V->Hp->VK->Prop)(ta:TE):TE:=fun σ H Q=>ta σ H fun x H1=>r x H1 Q
def rI(C:Int->Int->Prop)(g:Int->Int->V):R2:=fun x y H Q=>∃i j,x=.int i/\y=.int j/\C i j/\Q (g i j) H
noncomputable def rI0(g:Int->Int->V):R2:=fun x y H Q=>∃i j,x=.int i/\y=.int j/\Q (g i j) H
def rU(g:Int->V):V->Hp->VK->Prop:=fun x H Q=>∃i,x=.int i/\Q (g i) H
variable{f:Value->Value->Sem Value}
section
variable{a b:Expr}{ta tb tc:TE}
theorem b6L(ha:PE X a ta)(hb:PE X b tb){R:V->V->Hp->Prop}(I:Inv X pins σ H s)
 (h:ta σ H fun x H1=>tb σ H1 fun y H2=>R x y H2)
 (hf:∀v u s2 x y H2,Inv X pins σ H2 s2->n0 x v->n0 y u->R x y H2->wpAny (model X.prog X.w) X.A (f v u) Q X.xe s2):
 wpAny (model X.prog X.w) X.A (eval a X.env) (fun v s₁=>wpAny (model X.prog X.w) X.A (eval b X.env) (fun u s₂=>wpAny (model X.prog X.w) X.A (f v u) Q X.xe s₂) X.xe s₁) X.xe s:=by
 refine thn (ha pins s σ H _ I h) fun v s1 ⟨x,H1,I1,r1,q1⟩=>?_
 refine thn (hb pins s1 σ H1 _ I1 q1) fun u s2 ⟨y,H2,I2,r2,q2⟩=>?_
 exact hf v u s2 x y H2 I2 r1 r2 q2
theorem b7R{op:Operator}{r:R2}(ho:OpR X (binaryOp op) r)(ha:PE X a ta)(hb:PE X b tb):PE X (.BinOp a op b pos) (tOp r ta tb):=by
 intro pins s σ H Q I h;exact wpAny_BinOp (b6L ha hb I h fun v u s2 x y H2 I2 rx ry q=>ho pins s2 σ H2 x y v u Q I2 rx ry q)
theorem b7P{op:UnaryOp}{r:V->Hp->VK->Prop}(ho:UnR X (unaryOp op) r)(ha:PE X a ta):PE X (.UnaryOp op a pos) (tUn r ta):=by
 intro pins s σ H Q I h;exact UnaryOp_ (thn (ha pins s σ H _ I h) fun v s1 ⟨x,H1,I1,r1,q1⟩=>ho pins s1 σ H1 x v Q I1 r1 q1)
theorem opI{C:Int->Int->Prop}{g:Int->Int->Int}
 (rule:∀(i j:Int) (t u:Tok) (s:Shared) (Q:Value->Shared->Prop) (E:Value->Shared->Prop),C i j->Q (.int (g i j) s.toks) {s with toks:=s.toks+1}->wpAny (model X.prog X.w) X.A (f (.int i t) (.int j u)) Q E s):
 OpR X f (rI C fun i j=>.int (g i j)):=by
 intro pins s σ H x y v u Q I rx ry h;obtain⟨i,j,rfl,rfl,hc,q⟩:=h;obtain⟨t,rfl⟩:=rx;obtain⟨t',rfl⟩:=ry;exact rule i j t t' s _ _ hc ⟨.int (g i j),H,I.tok _,⟨_,rfl⟩,q⟩
theorem b8a{g:Int->Int->Int}
 (rule:∀(i j:Int) (t u:Tok) (s:Shared) (Q:Value->Shared->Prop) (E:Value->Shared->Prop),Q (.int (g i j) s.toks) {s with toks:=s.toks+1}->wpAny (model X.prog X.w) X.A (f (.int i t) (.int j u)) Q E s):
 OpR X f (rI0 fun i j=>.int (g i j)):=by
 intro pins s σ H x y v u Q I rx ry h;obtain⟨i,j,rfl,rfl,q⟩:=h;obtain⟨t,rfl⟩:=rx;obtain⟨t',rfl⟩:=ry;exact rule i j t t' s _ _ ⟨.int (g i j),H,I.tok _,⟨_,rfl⟩,q⟩
theorem b2W{g:Int->Int->Bool}
 (rule:∀(i j:Int) (t u:Tok) (s:Shared) (Q:Value->Shared->Prop) (E:Value->Shared->Prop),Q (.bool (g i j)) s->wpAny (model X.prog X.w) X.A (f (.int i t) (.int j u)) Q E s):
 OpR X f (rI0 fun i j=>.bl (g i j)):=by
 intro pins s σ H x y v u Q I rx ry h;obtain⟨i,j,rfl,rfl,q⟩:=h;obtain⟨t,rfl⟩:=rx;obtain⟨t',rfl⟩:=ry;exact rule i j t t' s _ _ ⟨.bl (g i j),H,I,rfl,q⟩
def c1o(i j:Int):Prop:=0<j/\j<1073741824
def b7g(i j:Int):Prop:=(-(2^64)<i/\i<2^64)∨(-(2^64)<j/\j<2^64)
theorem b7g.ok{i j:Int}(h:b7g i j):IntMulOk i j:=by
 rcases h with⟨h1,h2⟩|⟨h1,h2⟩
 · exact .of_left (intBits_le_64 h1 h2)
 · exact .of_right (intBits_le_64 h1 h2)
theorem b5z:OpR X (binaryOp .Add) (rI0 fun i j=>.int (i+j)):=b8a fun _ _ _ _ _ _ _ q=>add_int q
theorem b5r:OpR X (binaryOp .Sub) (rI0 fun i j=>.int (i-j)):=b8a fun _ _ _ _ _ _ _ q=>sub_int q
theorem b5u:OpR X (binaryOp .Mult) (rI b7g fun i j=>.int (i*j)):=opI fun _ _ _ _ _ _ _ hc q=>mul_int q hc.ok
theorem b2U:OpR X (binaryOp .FloorDiv) (rI c1o fun i j=>.int (i/j)):=opI fun i j _ _ _ _ _ hc q=>by
 have h1:(0:Int)<j:=hc.1
 have h2:j<1073741824:=hc.2
 exact floordiv_int (by omega) (by rw[Int.fdiv_eq_ediv_of_nonneg i (by omega)];exact q) (.inl (PyProof.noPylong_small (by omega)))
theorem b5v:OpR X (binaryOp .Mod) (rI (fun _ j=>0<j) fun i j=>.int (i%j)):=opI fun i j _ _ _ _ _ hc q=>by
 have h1:(0:Int)<j:=hc
 exact mod_int' (by omega) (by rw[Int.fmod_eq_emod_of_nonneg i (by omega)];exact q)
theorem unI{f:Value->Sem Value}{g:Int->Int}
 (rule:∀(i:Int) (t:Tok) (s:Shared) (Q:Value->Shared->Prop) (E:Value->Shared->Prop),Q (.int (g i) s.toks) {s with toks:=s.toks+1}->wpAny (model X.prog X.w) X.A (f (.int i t)) Q E s):
 UnR X f (rU fun i=>.int (g i)):=by
 intro pins s σ H x v Q I rx h;obtain⟨i,rfl,q⟩:=h;obtain⟨t,rfl⟩:=rx;exact rule i t s _ _ ⟨.int (g i),H,I.tok _,⟨_,rfl⟩,q⟩
theorem b4v:UnR X (unaryOp .USub) (rU fun i=>.int (-i)):=unI fun _ _ _ _ _ q=>neg_int q
end
noncomputable def scal:V->V->Bool
 |.non,.non=>true|.non,.int _=>true|.int _,.non=>true|.non,.bl _=>true|.bl _,.non=>true|.non,.str _=>true|.str _,.non=>true
 |.int _,.int _=>true|.bl _,.bl _=>true|.str _,.str _=>true|.byt _,.byt _=>true
 |.int _,.str _=>true|.str _,.int _=>true|.bl _,.str _=>true|.str _,.bl _=>true
 |_,_=>false
def rEq:R2:=fun x y H Q=>scal x y=true/\Q (.bl (decide (x=y))) H
def rNe:R2:=fun x y H Q=>scal x y=true/\Q (.bl (!decide (x=y))) H
theorem a8o{i j:Int}:decide (V.int i=V.int j)=(i==j):=by
 rw[Bool.eq_iff_iff];simp
theorem b1H{i j:Bool}:decide (V.bl i=V.bl j)=(i==j):=by
 rw[Bool.eq_iff_iff];simp
theorem a8n{i j:Str}:decide (V.str i=V.str j)=(i==j):=by
 rw[Bool.eq_iff_iff];simp
theorem a8p{i j:Array UInt8}:decide (V.byt i=V.byt j)=(i.toList==j.toList):=by
 rw[Bool.eq_iff_iff];cases i;cases j;simp
variable{op':CmpOp}{its:List Value}
section
variable{a b:Expr}{ta tb tc:TE}
theorem o7{Q:VK}{k k':Bool}(I:Inv X pins σ H s)(q:Q (.bl k) H)(e:k=k'):EP X pins σ Q (.bool k') s:=by
 subst e;exact⟨.bl k,H,I,rfl,q⟩
theorem b7Z:OpR X (compareOp .Eq) rEq:=by
 intro pins s σ H x y v u Q I rx ry h;obtain⟨hs,q⟩:=h
 cases x with
 |non=>
  cases rx
  cases y with
  |non=>cases ry;exact PySem.EqNone.eq_none_none (o7 I q (by simp))
  |bl j=>cases ry;exact PySem.EqNone.eq_none_bool (o7 I q (by simp))
  |int j=>obtain⟨t',rfl⟩:=ry;exact PySem.EqNone.eq_none_int (o7 I q (by simp))
  |str j=>obtain⟨t',rfl⟩:=ry;exact PySem.EqNone.eq_none_str (o7 I q (by simp))
  |_=>exact absurd (show false=true from hs) ba
 |bl i=>
  cases rx
  cases y with
  |non=>cases ry;exact PySem.EqNone.eq_bool_none (o7 I q (by simp))
  |bl j=>cases ry;exact eq_bool (o7 I q b1H)
  |str j=>obtain⟨t',rfl⟩:=ry;exact PySem.EqMixed.eq_bool_str (o7 I q (by simp))
  |_=>exact absurd (show false=true from hs) ba
 |int i=>
  obtain⟨t,rfl⟩:=rx
  cases y with
  |non=>cases ry;exact PySem.EqNone.eq_int_none (o7 I q (by simp))
  |int j=>obtain⟨t',rfl⟩:=ry;exact eq_int (o7 I q a8o)
  |str j=>obtain⟨t',rfl⟩:=ry;exact PySem.EqMixed.eq_int_str (o7 I q (by simp))
  |_=>exact absurd (show false=true from hs) ba
 |str i=>
  obtain⟨t,rfl⟩:=rx
  cases y with
  |non=>cases ry;exact PySem.EqNone.eq_str_none (o7 I q (by simp))
  |bl j=>cases ry;exact PySem.EqMixed.eq_str_bool (o7 I q (by simp))
  |int j=>obtain⟨t',rfl⟩:=ry;exact PySem.EqMixed.eq_str_int (o7 I q (by simp))
  |str j=>obtain⟨t',rfl⟩:=ry;exact eq_str (o7 I q a8n)
  |_=>exact absurd (show false=true from hs) ba
 |byt i=>
  obtain⟨t,rfl⟩:=rx
  cases y with
  |byt j=>obtain⟨t',rfl⟩:=ry;exact PySem.W.eq_bytes (o7 I q a8p)
  |_=>exact absurd (show false=true from hs) ba
 |_=>cases y<;>exact absurd (show false=true from hs) ba
theorem b7U:OpR X (compareOp .NotEq) rNe:=by
 intro pins s σ H x y v u Q I rx ry h;obtain⟨hs,q⟩:=h
 cases x with
 |non=>
  cases rx
  cases y with
  |non=>cases ry;exact PySem.EqNone.ne_none_none (o7 I q (by simp))
  |bl j=>cases ry;exact PySem.EqNone.ne_none_bool (o7 I q (by simp))
  |int j=>obtain⟨t',rfl⟩:=ry;exact PySem.EqNone.ne_none_int (o7 I q (by simp))
  |str j=>obtain⟨t',rfl⟩:=ry;exact PySem.EqNone.ne_none_str (o7 I q (by simp))
  |_=>exact absurd (show false=true from hs) ba
 |bl i=>
  cases rx
  cases y with
  |non=>cases ry;exact PySem.EqNone.ne_bool_none (o7 I q (by simp))
  |bl j=>cases ry;exact ne_bool (o7 I q (congrArg not b1H))
  |str j=>obtain⟨t',rfl⟩:=ry;exact PySem.EqMixed.ne_bool_str (o7 I q (by simp))
  |_=>exact absurd (show false=true from hs) ba
 |int i=>
  obtain⟨t,rfl⟩:=rx
  cases y with
  |non=>cases ry;exact PySem.EqNone.ne_int_none (o7 I q (by simp))
  |int j=>obtain⟨t',rfl⟩:=ry;exact ne_int (o7 I q (congrArg not a8o))
  |str j=>obtain⟨t',rfl⟩:=ry;exact PySem.EqMixed.ne_int_str (o7 I q (by simp))
  |_=>exact absurd (show false=true from hs) ba
 |str i=>
  obtain⟨t,rfl⟩:=rx
  cases y with
  |non=>cases ry;exact PySem.EqNone.ne_str_none (o7 I q (by simp))
  |bl j=>cases ry;exact PySem.EqMixed.ne_str_bool (o7 I q (by simp))
  |int j=>obtain⟨t',rfl⟩:=ry;exact PySem.EqMixed.ne_str_int (o7 I q (by simp))
  |str j=>obtain⟨t',rfl⟩:=ry;exact ne_str (o7 I q (congrArg not a8n))
  |_=>exact absurd (show false=true from hs) ba
 |byt i=>
  obtain⟨t,rfl⟩:=rx
  cases y with
  |byt j=>obtain⟨t',rfl⟩:=ry;exact PySem.W.ne_bytes (o7 I q (congrArg not a8p))
  |_=>exact absurd (show false=true from hs) ba
 |_=>cases y<;>exact absurd (show false=true from hs) ba
theorem b7V:OpR X (compareOp .Lt) (rI0 fun i j=>.bl (decide (i<j))):=b2W fun _ _ _ _ _ _ _ q=>lt_int q
theorem b7W:OpR X (compareOp .LtE) (rI0 fun i j=>.bl (decide (i<=j))):=b2W fun _ _ _ _ _ _ _ q=>le_int q
theorem b7X:OpR X (compareOp .Gt) (rI0 fun i j=>.bl (decide (j<i))):=b2W fun _ _ _ _ _ _ _ q=>gt_int q
theorem b7Y:OpR X (compareOp .GtE) (rI0 fun i j=>.bl (decide (j<=i))):=b2W fun _ _ _ _ _ _ _ q=>ge_int q
theorem a8N:OpR X (compareOp .In) (fun x y H Q=>∃i j,x=.str i/\y=.str j/\Q (.bl (!(Builtin.Str.occurrences j i 0 j.length 1).isEmpty)) H):=by
 intro pins s σ H x y v u Q I rx ry h;obtain⟨i,j,rfl,rfl,q⟩:=h;obtain⟨t,rfl⟩:=rx;obtain⟨t',rfl⟩:=ry;exact in_str (o7 I q rfl)
theorem OpR.or{r r':R2}(h:OpR X f r)(h':OpR X f r'):OpR X f (fun x y H Q=>r x y H Q∨r' x y H Q):=by
 intro pins s σ H x y v u Q I rx ry q
 rcases q with q|q
 · exact h pins s σ H x y v u Q I rx ry q
 · exact h' pins s σ H x y v u Q I rx ry q
theorem a4H{r:R2}(ho:OpR X (compareOp op) r)(ha:PE X a ta)(hb:PE X b tb)(hm:behindInMarks op b=false):PE X (.Compare a [op] [b] pos) (tOp r ta tb):=by
 intro pins s σ H Q I h;exact wpAny_Compare1 (b6L ha hb I h fun v u s2 x y H2 I2 rx ry q=>ho pins s2 σ H2 x y v u Q I2 rx ry q) hm
noncomputable def a9D(t:TE):TT:=fun σ H Q=>t σ H fun x H'=>∃k,x=.bl k/\Q k H'
theorem a4G{r:R2}(ho:OpR X (compareOp op) r)(ha:PE X a ta)(hb:PE X b tb)(hm:behindInMarks op b=false):PT X (.Compare a [op] [b] pos) (a9D (tOp r ta tb)):=by
 intro pins s σ H Q I h
 refine wpAny_isTrue_Compare1 (thn (ha pins s σ H _ I h) fun v s1 ⟨x,H1,I1,r1,q1⟩=>thn (hb pins s1 σ H1 _ I1 q1) fun u s2 ⟨y,H2,I2,r2,q2⟩=>
  thn (ho pins s2 σ H2 x y v u _ I2 r1 r2 q2) fun c s3 ⟨z,H3,I3,r3,k,e,q3⟩=>?_) hm
 subst e;cases r3;exact wpAny_truthy_bool ⟨H3,I3,q3⟩
noncomputable def a6H(r r':R2)(ta tb tc:TE):TE:=fun σ H Q=>ta σ H fun x H1=>tb σ H1 fun y H2=>r x y H2 fun z H3=>∃k,z=.bl k∧
 (if k=true then tc σ H3 fun w' H4=>r' y w' H4 Q else Q (.bl false) H3)
theorem b0y{r r':R2}(ho:OpR X (compareOp op) r)(ho':OpR X (compareOp op') r')(ha:PE X a ta)(hb:PE X b tb)(hc:PE X c tc)
 (hm:lastMarks [op,op'] [b,c]=false:=by with_unfolding_all rfl):PE X (.Compare a [op,op'] [b,c] pos) (a6H r r' ta tb tc):=by
 intro pins s σ H Q I h
 refine Compare_chain (thn (ha pins s σ H _ I h) fun v s1 ⟨x,H1,I1,r1,q1⟩=>chain_link (thn (hb pins s1 σ H1 _ I1 q1) fun u s2 ⟨y,H2,I2,r2,q2⟩=>
  thn (ho pins s2 σ H2 x y v u _ I2 r1 r2 q2) fun d s3 ⟨z,H3,I3,r3,k,e,q3⟩=>?_)) hm
 subst e;cases r3;refine wpAny_truthy_bool ?_
 cases k with
 |false=>exact ite_ff ⟨.bl false,H3,I3,rfl,q3⟩
 |true=>exact ite_tt (chain_last (thn (hc pins s3 σ H3 _ I3 q3) fun w' s4 ⟨z',H4,I4,r4,q4⟩=>ho' pins s4 σ H4 y z' u w' Q I4 r2 r4 q4))
theorem b0g{r r':R2}(ho:OpR X (compareOp op) r)(ho':OpR X (compareOp op') r')(ha:PE X a ta)(hb:PE X b tb)(hc:PE X c tc)
 (hm:lastMarks [op,op'] [b,c]=false:=by with_unfolding_all rfl):PT X (.Compare a [op,op'] [b,c] pos) (a9D (a6H r r' ta tb tc)):=by
 intro pins s σ H Q I h
 refine isTrue_chain (thn (ha pins s σ H _ I h) fun v s1 ⟨x,H1,I1,r1,q1⟩=>test_link (thn (hb pins s1 σ H1 _ I1 q1) fun u s2 ⟨y,H2,I2,r2,q2⟩=>
  thn (ho pins s2 σ H2 x y v u _ I2 r1 r2 q2) fun d s3 ⟨z,H3,I3,r3,k,e,q3⟩=>?_)) hm
 subst e;cases r3;refine wpAny_truthy_bool ?_
 cases k with
 |false=>
  obtain⟨k',e',q'⟩:=q3;cases e';exact ite_ff ⟨H3,I3,q'⟩
 |true=>
  refine ite_tt (test_last (thn (hc pins s3 σ H3 _ I3 q3) fun w' s4 ⟨z',H4,I4,r4,q4⟩=>thn (ho' pins s4 σ H4 y z' u w' _ I4 r2 r4 q4) fun d' s5 ⟨z2,H5,I5,r5,k2,e2,q5⟩=>?_))
  subst e2;cases r5;exact wpAny_truthy_bool ⟨H5,I5,q5⟩
def b9J(K:PySem.W.Frag)(x:V)(H:Hp)(k:Bool):Prop:=
 match x with
 |.non=>k=false
 |.bl b=>k=b
 |.int i=>k=(i !=0)
 |.str y=>y.length<=sizeLine/\k=((y.length:Int) !=0)
 |.byt y=>y.size<=sizeLine/\k=((y.size:Int) !=0)
 |.ref p=>(∃xs,SqL K H p xs/\k=!xs.isEmpty)∨(∃xs,SqT K H p xs/\k=!xs.isEmpty)∨∃kvs,H p=some (.dK kvs)/\k=!kvs.isEmpty
 |_=>False
theorem a7c{κ:Type}{kvs:List (κ×V)}{vs:List (κ×Value)}(r:KV kvs vs):(!vs.isEmpty)=!kvs.isEmpty:=by
 cases r<;>rfl
theorem a2Z{xs:List V}(r:k8 xs its):(!its.toArray.isEmpty)=!xs.isEmpty:=by
 cases r<;>simp
theorem a0S:(sizeLine:Nat)<2^63:=by rw[sizeLine_eq];decide
theorem b4y:c0Q X (fun x H Q=>∃k,b9J X.K x H k/\Q k H):=by
 intro pins s σ H x v Q I rx h;obtain⟨k,e,q⟩:=h;have hl:=a0S
 have hs:sizeLine=16777216:=sizeLine_eq
 cases x with
 |non=>
  cases rx
  have e':k=false:=e
  subst e';exact truthy_none ⟨H,I,q⟩
 |bl b=>
  cases rx
  have e':k=b:=e
  subst e';exact wpAny_truthy_bool ⟨H,I,q⟩
 |int i=>
  obtain⟨t,rfl⟩:=rx
  have e':k=(i !=0):=e
  subst e';exact PySem.P.truthy_int ⟨H,I,q⟩
 |str y=>
  obtain⟨t,rfl⟩:=rx;obtain⟨hy,e'⟩:y.length<=sizeLine/\k=((y.length:Int) !=0):=e;subst e';exact PySem.P.truthy_str (by omega) ⟨H,I.tok _,q⟩
 |byt y=>
  obtain⟨t,rfl⟩:=rx;obtain⟨hy,e'⟩:y.size<=sizeLine/\k=((y.size:Int) !=0):=e;subst e';exact PySem.W.truthy_bytes (by omega) ⟨H,I.tok _,q⟩
 |ref p=>
  cases rx
  have e':(∃xs,SqL X.K H p xs/\k=!xs.isEmpty)∨(∃xs,SqT X.K H p xs/\k=!xs.isEmpty)∨∃kvs,H p=some (.dK kvs)/\k=!kvs.isEmpty:=e
  rcases e' with⟨xs,hx,e'⟩|⟨xs,hx,e'⟩|⟨kvs,hx,e'⟩
  · subst e';obtain⟨its,r,pl,hz⟩:=I.list hx;have hlen:=r.length;exact wpAny_truthy_list pl.isList (by simp only[size_toArray];omega) ⟨H,I.tok _,by rw[a2Z r];exact q⟩
  · subst e';obtain⟨its,r,pl,hz⟩:=I.tuple hx;have hlen:=r.length;exact truthy_tuple pl (by simp only[size_toArray];omega) ⟨H,I.tok _,by rw[a2Z r];exact q⟩
  · subst e';obtain⟨hz,hS,vs,r,m⟩:kvs.length<=sizeLine/\(p==sysModules)=false/\∃vs,KV kvs vs/\s.heap.DictOf (u6 X.prog X.w) p vs:=I.hok p _ hx
    have hlen:kvs.length=vs.length:=Paired.length r
    exact wpAny_truthy_dict hS m (by omega) ⟨H,I.tok _,by rw[a7c r];exact q⟩
 |_=>exact(show False from e).elim
theorem b0d(ha:PE X a ta)(he:∀whole,isTrue a X.env whole=(do let v←whole;standAt a.pos;holding [v] (truthy v))):
 PT X a (fun σ H Q=>ta σ H fun x H'=>∃k,b9J X.K x H' k/\Q k H'):=by
 intro pins s σ H Q I h;exact isTrue_plain (thn (ha pins s σ H _ I h) fun v s1 ⟨x,H1,I1,r1,q1⟩=>b4y pins s1 σ H1 x v Q I1 r1 q1) (he _)
theorem a6Q:OpR X (binaryOp .Add) (fun x y H Q=>∃i j,x=.str i/\y=.str j/\i.length+j.length<=sizeLine/\Q (.str (i++j)) H):=by
 intro pins s σ H x y v u Q I rx ry h;obtain⟨i,j,rfl,rfl,hz,q⟩:=h;obtain⟨t,rfl⟩:=rx;obtain⟨t',rfl⟩:=ry;exact add_str (fun t' tk=>⟨.str (i++j),H,I.tok _,⟨_,rfl⟩,q⟩) hz
theorem V2{x:V}(r:k8 [x] us):∃u,us=[u]/\n0 x u:=by
 cases r with
 |cons r1 r2=>cases r2;exact⟨_,rfl,r1⟩
theorem a9s{x:V}(r:k8 [x,y] us):∃u w',us=[u,w']/\n0 x u/\n0 y w':=by
 cases r with
 |cons r1 r2=>
  cases r2 with
  |cons r3 r4=>cases r4;exact⟨_,_,rfl,r1,r3⟩
theorem a4j:G8 X (.type "int") (fun xs H Q=>(∃i,xs=[.int i]/\Q (.int i) H)∨∃k,xs=[.bl k]/\Q (.int (if k then 1 else 0)) H):=by
 intro pins s σ H xs us Q I r h
 rcases h with⟨i,rfl,q⟩|⟨k,rfl,q⟩
 · obtain⟨u,rfl,t,rfl⟩:=V2 r;exact call_int_int ⟨.int i,H,I,⟨_,rfl⟩,q⟩
 · obtain⟨u,rfl,r1⟩:=V2 r;cases r1;exact call_int_bool ⟨.int (if k then 1 else 0),H,I.tok _,⟨_,rfl⟩,q⟩
theorem a5n:G8 X (.type "str") (fun xs H Q=>∃i,xs=[.int i]/\i.natAbs.log2<1920/\Q (.str (toString i)) H):=by
 intro pins s σ H xs us Q I r h;obtain⟨i,rfl,hz,q⟩:=h;obtain⟨u,rfl,t,rfl⟩:=V2 r;exact PySem.P.str_of_int hz ⟨.str _,H,I.tok _,⟨_,rfl⟩,q⟩
end
structure ObjM(h:Heap)(x dx C:Addr)(mA:Str->Option Value):Prop where
 obj:h.get? x=some (PySem.W.instObj C dx)
 ns:h.Ns1 dx mA
 ne:dx≠x
variable{dx:Addr}{mA:Str->Option Value}
theorem a8V(n:h.Ns1 dx mA):∃od,h.get? dx=some od/\∀name,PySem.W.lookIn name od=some (mA name):=by
 obtain⟨o,es,ep,ho,hd,hk,_,hm⟩:=n;refine⟨o,ho,fun name=>?_⟩
 have e:=hm name;unfold nsFind findBy at e;rw[←Array.find?_toList] at e
 unfold PySem.W.lookIn;rw[hd]
 dsimp only
 split
 · rename_i y q;rw[q] at e;exact congrArg some e
 · rename_i q;rw[q] at e
   have a:es.toList.any (·.refKey)=false:=by
    rw[List.any_eq_false];intro y hy;obtain⟨z,t,hkey⟩:=hk y (Array.mem_toList_iff.mp hy);simp[DictEntry.refKey,hkey]
   have a':¬es.toList.any (·.refKey)=true:=by rw[a];exact ba
   rw[aw a'];exact congrArg some e
variable{C:Addr}
theorem ObjM.look{x:Addr}(I:ObjM h x dx C mA):∃od,PySem.W.InstAt h x (PySem.W.instObj C dx) C (some od)/\∀name,PySem.W.lookIn name od=some (mA name):=
 let⟨od,ho,hl⟩:=a8V I.ns
 ⟨od,⟨I.obj,rfl,rfl,ho⟩,hl⟩
variable{expr:Bool}{vs:List Value}{kw:List (Str×Value)}
section
variable{prog:Program}{E:Value->Shared->Prop}{x f:Addr}{name:Str}{v:Value}
theorem b3v(X:K.In s.heap)(I:ObjM s.heap x dx C mA)(hg:PySem.W.plainGet K C name=true)(hh:PySem.W.hasDictIn K C=true)
 (ha:PySem.W.findIn K (.ref C) name=some none) (hv:mA name=some v) (hv':PySem.W.handedIn v=true) (h:Q v {s with toks:=s.toks+1}):
 wpAny (model prog w) A (getAttr (.ref x) name expr) Q E s:=by
 obtain⟨od,J,hl⟩:=I.look;exact PySem.W.get_value X J (PySem.W.plainGet_of hg).1 (PySem.W.findObj_own hh ha rfl (by rw[hl,hv])) hv' h
theorem b2u{ns:List Str}{Q:Unit->Shared->Prop}(X:K.In s.heap)(I:ObjM s.heap x dx C mA)
 (hs:PySem.W.findIn K (.ref C) "__setattr__"=some (some (.builtin "object.__setattr__"))) (hp:PySem.W.plainOver K C=true) (ht:PySem.W.takerIn K C name=some none) (hh:PySem.W.hasDictIn K C=true)
 (hw:PySem.Within mA ns) (hsz:ns.length<=sizeLine)
 (h:∀h',ObjM h' x dx C (fun y=>if y=name then some v else mA y)->Heap.SameBut dx s.heap h'->Q () {s with heap:=h',toks:=s.toks+2}):
 wpAny (model prog w) A (setAttr (.ref x) name v) Q E s:=by
 obtain⟨od,J,hl⟩:=I.look;refine PySem.W.set_plain X J hs (PySem.W.osa_open (s:={s with toks:=s.toks+1}) (r:=none) X J hp ht fun b=>?_)
 obtain⟨cd,hc,hd'⟩:=PySem.W.any_some hh
 have hx:s.heap.get? x=some ⟨.ref C,some dx,.plain,#[]⟩:=I.obj
 refine wpAny_bind (wpAny_pure (wpAny_bind (wpAny_bind (wpAny_loadPart hx (wpAny_bind (PySem.W.Looks.here (s:={s with toks:=s.toks+1}) (PySem.W.looks_clsIn X hc) ?_))))))
 rw[hd'];refine wpAny_pure (a:=some dx) (wpAny_bind (wpAny_pure (wpAny_bind ?_)))
 refine wpAny_nsSet1 (s:={s with toks:=s.toks+1}) I.ns fun h' hn2 hs2=>?_
 obtain⟨oD,esD,epD,hoD,hdD,hcD⟩:=hn2.count (PySem.Within.cons name v hw);refine wpAny_bind (wpAny_lookBehind hoD (by rw[hdD];exact pastItsLine_dict (aK hcD (by rw[length_cons];omega))) ?_)
 exact wpAny_pure (h _ ⟨(hs2.2 _ (Ne.symm I.ne)).trans I.obj,hn2,I.ne⟩ hs2)
theorem b0G{R:Result->Shared->Prop}(X:K.In s.heap)(hm:PySem.W.makesIn K C=true)
 (hi:PySem.W.findIn K (.ref C) "__init__"=some (some (.ref f))) (hf:PySem.W.typeIn K (.ref f)=some (.type "function"))
 (h:codeAny (model prog w) (A.under (.builtin "type.__call__" ⟨.ref C::vs,kw⟩)) (.call (.ref f) ⟨.ref (s.heap.objs.size+1)::vs,kw⟩) (PySem.W.InitBack (s.heap.objs.size+1) R)
  {s with heap:=(s.heap.push PySem.W.emptyDict).push (PySem.W.instObj C s.heap.objs.size)}):
 codeAny (model prog w) A (.call (.ref C) ⟨vs,kw⟩) R s:=by
 obtain⟨hh,g,d,t,os⟩:=s;exact PySem.W.make_core (PySem.W.makes_of X hm) (PySem.W.looks_findIn X hi) (fun self=>PySem.W.bind_fn X self hf) (.inl rfl) h
end
noncomputable def W6(f:Str)(v:V):List (Str×V)->List (Str×V)
 |[]=>[(f,v)]
 |(g,x)::r=>if g=f then(g,v)::r else(g,x)::W6 f v r
theorem a1T(f g:Str)(v:V):∀fs:List (Str×V),(W6 f v fs).lookup g=if g=f then some v else fs.lookup g
 |[]=>by
  show List.lookup g [(f,v)]=_
  by_cases h:g=f
  · have hb:(g==f)=true:=beq_iff_eq.mpr h
    simp only[List.lookup,hb,av h]
  · have hb:(g==f)=false:=beq_eq_false_iff_ne.mpr h
    simp only[List.lookup,hb,aw h]
 | (k,x)::r=>by
  have ih:=a1T f g v r;rw[show W6 f v ((k,x)::r)=(if k=f then(k,v)::r else(k,x)::W6 f v r) from rfl]
  by_cases hk:k=f
  · rw[av hk]
    by_cases h:g=k
    · have hb:(g==k)=true:=beq_iff_eq.mpr h
      simp only[List.lookup,hb,av (h.trans hk)]
    · have hb:(g==k)=false:=beq_eq_false_iff_ne.mpr h
      simp only[List.lookup,hb,aw (fun e:g=f=>h (e.trans hk.symm))]
  · rw[aw hk]
    by_cases h:g=k
    · have hb:(g==k)=true:=beq_iff_eq.mpr h
      simp only[List.lookup,hb,aw (fun e:g=f=>hk (h.symm.trans e))]
    · have hb:(g==k)=false:=beq_eq_false_iff_ne.mpr h
      simp only[List.lookup,hb];exact ih
theorem a1G(f:Str)(v:V):∀fs:List (Str×V),f∈(W6 f v fs).map (·.1)/\∀g,g∈fs.map (·.1)->g∈(W6 f v fs).map (·.1)
 |[]=>⟨by simp[W6],fun g h=>by simp at h⟩
 | (k,x)::r=>by
  obtain⟨i1,i2⟩:=a1G f v r;rw[show W6 f v ((k,x)::r)=(if k=f then(k,v)::r else(k,x)::W6 f v r) from rfl]
  by_cases hk:k=f
  · rw[av hk];subst hk;exact⟨by simp,fun g h=>by simpa using h⟩
  · rw[aw hk];refine⟨?_,fun g h=>?_⟩
    · rw[map_cons];exact aA _ i1
    · rw[map_cons] at h⊢
      rcases aB.mp h with e|e
      · exact aB.mpr (.inl e)
      · exact aA _ (i2 g e)
theorem a1U(f:Str)(v:V):∀fs:List (Str×V),(W6 f v fs).length<=fs.length+1
 |[]=>by simp[W6]
 |(k,x)::r=>by
  have ih:=a1U f v r;rw[show W6 f v ((k,x)::r)=(if k=f then(k,v)::r else(k,x)::W6 f v r) from rfl]
  by_cases hk:k=f
  · rw[av hk,length_cons,length_cons];omega
  · rw[aw hk,length_cons,length_cons];omega
theorem a0G.some_of{o:Option Value}(r:a0G (some v) o):∃u,o=some u/\n0 v u:=by
 cases o with
 |none=>exact(show False from r).elim
 |some u=>exact⟨u,rfl,r⟩
theorem a9d(r:n0 v u):PySem.W.handedIn u=true:=by
 cases v with
 |non=>cases (show u=Value.none from r);rfl
 |bl b=>cases (show u=Value.bool b from r);rfl
 |int i=>obtain⟨t,e⟩:=(show∃t,u=Value.int i t from r);cases e;rfl
 |str x=>obtain⟨t,e⟩:=(show∃t,u=Value.str x t from r);cases e;rfl
 |byt b=>obtain⟨t,e⟩:=(show∃t,u=Value.bytes b t from r);cases e;rfl
 |flt b=>obtain⟨t,e⟩:=(show∃t,u=Value.float b t from r);cases e;rfl
 |ref a=>cases (show u=Value.ref a from r);rfl
 |ty n=>cases (show u=Value.type n from r);rfl
section
variable{fs fs':List (Str×V)}
theorem a4X(hok:HOk P w H h)(e:H a=some (.ins C dx fs)):∃mA,ObjM h a dx C mA/\(∀f,a0G (fs.lookup f) (mA f))/\PySem.Within mA (fs.map (·.1))/\fs.length<=1000/\H dx=some (.own a):=by
 obtain⟨d,z,ne,ob,mA,n,r,q⟩:=(show B0 P w H h a (.ins C dx fs) from hok a _ e);exact⟨mA,⟨ob,n,ne⟩,r,q,z,d⟩
end
structure Cls(K:PySem.W.Frag)(C:Addr):Prop where
 pg:PySem.W.plainGet K C Str.empty=true
 hd:PySem.W.hasDictIn K C=true
 po:PySem.W.plainOver K C=true
 sa:PySem.W.findIn K (.ref C) "__setattr__"=some (some (.builtin "object.__setattr__"))
theorem Cls.get(c:Cls K C)(f:Str):PySem.W.plainGet K C f=true:=c.pg
def a0o(K:PySem.W.Frag)(C:Addr)(f:Str):Prop:=PySem.W.findIn K (.ref C) f=some none
theorem a0o.taker{f:Str}(n:a0o K C f):PySem.W.takerIn K C f=some none:=by
 unfold PySem.W.takerIn;rw[show PySem.W.findIn K (.ref C) f=some none from n];rfl
variable{prog:Program}{env:Env}
section
variable{fs:List (Str×V)}{f:Str}{E:Value->Shared->Prop}
theorem a7f{b:Bool}(I:Inv X pins σ H s)(e:H a=some (.ins C dx fs))(c:Cls X.K C)(n:a0o X.K C f)(l:fs.lookup f=some v)
 (h:∀u s',Inv X pins σ H s'->n0 v u->Q u s'):wpAny (model X.prog X.w) A (getAttr (.ref a) f b) Q E s:=by
 obtain⟨mA,O,r,_,_,_⟩:=a4X I.hok e;obtain⟨u,hu,ru⟩:=a0G.some_of (v:=v) (o:=mA f) (by rw[←l];exact r f)
 exact b3v I.kIn O (c.get f) c.hd n hu (a9d ru) (h u _ (I.tok _) ru)
theorem a6M{Q:Unit->Shared->Prop}(I:Inv X pins σ H s)(e:H a=some (.ins C dx fs))(c:Cls X.K C)(n:a0o X.K C f)(hl:fs.length<1000)(ry:n0 y u)
 (h:∀s',Inv X pins σ (upd H a (.ins C dx (W6 f y fs))) s'->Q () s'):wpAny (model X.prog X.w) A (setAttr (.ref a) f u) Q E s:=by
 obtain⟨mA,O,r,wi,_,ho⟩:=a4X I.hok e
 have hz:(fs.map (·.1)).length<=sizeLine:=by rw[aa,sizeLine_eq];omega
 refine b2u I.kIn O c.sa c.po n.taker c.hd wi hz fun h' O' sb=>h _ ?_
 have hd:∃o,h'.get? dx=some o:=let⟨o,_,_,e',_⟩:=O'.ns;⟨o,e'⟩
 refine I.write (x:=a) (e:=dx) (by rw[e];exact True.intro) (.inr ho) (fun b q hb z=>(sb.2 b hb).trans z) hd ?_
 refine⟨by rw[l8 O.ne];exact ho,?_,O.ne,O'.obj,_,O'.ns,fun g=>?_,fun g hg=>?_⟩
 · have:=a1U f y fs;omega
 · show a0G ((W6 f y fs).lookup g) (if g=f then some u else mA g)
   rw[a1T]
   by_cases q:g=f
   · rw[av q,av q];exact ry
   · rw[aw q,aw q];exact r g
 · by_cases q:g=f
   · rw[q];exact(a1G f y fs).1
   · refine(a1G f y fs).2 g (wi g fun z=>hg ?_)
     show(if g=f then some u else mA g)=none
     rw[aw q];exact z
theorem Inv.made(I:Inv X pins σ H s):Inv X pins σ (upd (upd H s.heap.objs.size (.own (s.heap.objs.size+1))) (s.heap.objs.size+1) (.ins C s.heap.objs.size []))
 {s with heap:=(s.heap.push PySem.W.emptyDict).push (PySem.W.instObj C s.heap.objs.size)}:=by
 have e1:(s.heap.push PySem.W.emptyDict).get? s.heap.objs.size=some PySem.W.emptyDict:=Heap.get?_push_size s.heap rfl
 have e2:((s.heap.push PySem.W.emptyDict).push (PySem.W.instObj C s.heap.objs.size)).get? (s.heap.objs.size+1)=some (PySem.W.instObj C s.heap.objs.size):=by
  have:=Heap.get?_push_size (s.heap.push PySem.W.emptyDict) (o:=PySem.W.instObj C s.heap.objs.size) rfl
  rwa [Heap.size_push] at this
 have e3:(s.heap.push PySem.W.emptyDict).Ns s.heap.objs.size (fun _=>none):=⟨PySem.W.emptyDict,#[],_,e1,rfl,(fun e he=>absurd he (by simp)),fun _=>rfl⟩
 have I1:=I.laid (a:=s.heap.objs.size) (o:=.own (s.heap.objs.size+1)) (h':=s.heap.push PySem.W.emptyDict) (t':=s.toks) (fun b u q=>Heap.get?_push_of_some _ q) (ai _) ⟨_,e1⟩
 refine I1.laid (a:=s.heap.objs.size+1) (o:=.ins C s.heap.objs.size []) (t':=s.toks) (fun b u q=>Heap.get?_push_of_some _ q) (Nat.le_of_eq (Heap.size_push _ _)) ?_
 have ne:s.heap.objs.size≠s.heap.objs.size+1:=Nat.ne_of_lt (aL _)
 refine⟨by rw[l8 ne,d0],Nat.zero_le _,ne,e2,fun _=>none,(Heap.Ns1.of_empty e3).at fun o q=>Heap.get?_push_of_some _ q,fun _=>True.intro,fun y hy=>absurd rfl hy⟩
theorem b4f{f:Str}{s:Shared}(hb:attributeBase e f env (eval e env)=eval e env)
 (h:wpAny (model prog w) A (eval e env) (fun o s₁=>wpAny (model prog w) A (getAttr o f true) Q E s₁) E s):wpAny (model prog w) A (eval (.Attribute e f pos) env) Q E s:=
 Attribute_any_ h (by rw[arm_eval_Attribute,hb])
end
noncomputable def b9W(K:PySem.W.Frag)(ta:TE)(f:Str):TE:=fun σ H Q=>ta σ H fun x H1=>∃a C dx fs v,x=.ref a/\H1 a=some (.ins C dx fs)/\Cls K C/\a0o K C f/\fs.lookup f=some v/\Q v H1
def c0a(K:PySem.W.Frag)(ta tv:TE)(f:Str):TS:=fun D σ H=>tv σ H fun y H1=>ta σ H1 fun x H2=>∃a C dx fs,x=.ref a/\H2 a=some (.ins C dx fs)/\Cls K C/\a0o K C f/\fs.length<1000∧
 D.nx σ (upd H2 a (.ins C dx (W6 f y fs)))
section
variable{o value:Expr}{f:Str}{tpos:Pos}{ta tv:TE}
theorem b5o(he:PE X e ta)(hb:attributeBase e f X.env (eval e X.env)=eval e X.env):PE X (.Attribute e f pos) (b9W X.K ta f):=by
 intro pins s σ H Q I h;refine b4f hb (thn (he pins s σ H _ I h) fun u s1 ⟨x,H1,I1,rx,a,C,dx,fs,v,ex,ea,c,n,l,q⟩=>?_)
 subst ex;obtain rfl:u=Value.ref a:=rx;exact a7f I1 ea c n l fun u' s2 I2 ru=>⟨v,H1,I2,ru,q⟩
theorem b4Y(ha:PE X o ta)(hv:PE X value tv)(hs:swapsWith value (some (.Attribute o f pos')) pos.line X.env=pure false):PS X (.Assign [.Attribute o f pos'] value pos) (c0a X.K ta tv f):=by
 intro pins s σ H D I h;refine plainObj_wpAny_Assign_Attribute (thn (hv pins s σ H _ I h) fun u s1 ⟨y,H1,I1,ry,q⟩=>thn (ha pins s1 σ H1 _ I1 q) fun ov s2 ⟨x,H2,I2,rx,a,C,dx,fs,ex,ea,c,n,l,q2⟩=>?_) hs
 subst ex;obtain rfl:ov=Value.ref a:=rx;exact a6M I2 ea c n l ry fun s3 I3=>⟨σ,_,I3,q2⟩
end
section
variable{E:Value->Shared->Prop}{c:Value}{b:Bool}
inductive TyOf(K:PySem.W.Frag)(H:Hp):V->Value->Prop where
 |non:TyOf K H .non (.type "NoneType")
 |bl (x:Bool):TyOf K H (.bl x) (.type "bool")
 |int (i:Int):TyOf K H (.int i) (.type "int")
 |str (x:Str):TyOf K H (.str x) (.type "str")
 |flt (x:UInt64):TyOf K H (.flt x) (.type "float")
 |lst {a:Addr} {xs:List V} (e:H a=some (.lst xs)):TyOf K H (.ref a) (.type "list")
 |frz {a:Addr} {o:Obj} {xs:List V} (e:H a=some (.frz o (.lst xs))):TyOf K H (.ref a) (.type "list")
 |tup {a:Addr} {xs:List V} (e:H a=some (.tup xs)):TyOf K H (.ref a) (.type "tuple")
 |dK {a:Addr} {kvs:List (Key×V)} (e:H a=some (.dK kvs)):TyOf K H (.ref a) (.type "dict")
 |dT {a:Addr} {kvs:List (List Key×V)} (e:H a=some (.dT kvs)):TyOf K H (.ref a) (.type "dict")
 |ins {a C dx:Addr} {fs:List (Str×V)} (e:H a=some (.ins C dx fs)) (cl:Cls K C) (ha:PySem.W.findIn K (.ref C) "__class__"=some (some (.builtin "object.__class__")))
  (hn:PySem.W.specialIn K (.builtin "object.__class__") "__get__"=some (some (.builtin "getset_descriptor.__get__"))) (htk:PySem.W.takesIn K (.builtin "object.__class__")=some true)
  (hm:PySem.W.mroIn K C (.type "object")=some true):TyOf K H (.ref a) (.ref C)
theorem a9a{x:V}{t:Value}(I:Inv X pins σ H s)(rx:n0 x u)(ty:TyOf X.K H x t)(e:PySem.W.kitOne X.K t c=some b)(h:∀tk,Q (.bool b) {s with toks:=tk}):
 wpAny (model X.prog X.w) A (call (.builtin "isinstance") [u,c]) Q E s:=by
 cases ty with
 |non=>cases (show u=Value.none from rx);exact PySem.W.kia_one PySem.W.kitx_none I.kIn True.intro e (fun z=>nomatch z) h
 |bl y=>cases (show u=Value.bool y from rx);exact PySem.W.kia_one PySem.W.kitx_bool I.kIn True.intro e (fun z=>nomatch z) h
 |int i=>obtain⟨t,q⟩:=(show∃t,u=Value.int i t from rx);cases q;exact PySem.W.kia_one PySem.W.kitx_int I.kIn True.intro e (fun z=>nomatch z) h
 |str y=>obtain⟨t,q⟩:=(show∃t,u=Value.str y t from rx);cases q;exact PySem.W.kia_one PySem.W.kitx_str I.kIn True.intro e (fun z=>nomatch z) h
 |flt y=>obtain⟨t,q⟩:=(show∃t,u=Value.float y t from rx);cases q;exact PySem.W.kia_one PySem.W.kitx_float I.kIn True.intro e (fun z=>nomatch z) h
 | @lst a xs ea=>
  cases (show u=Value.ref a from rx)
  obtain⟨_,_,n,_,h1⟩:=(show B0 X.prog X.w H s.heap a (.lst xs) from I.hok a _ ea);exact PySem.W.kia_one PySem.W.kitx_list I.kIn ⟨_,h1,rfl⟩ e (fun z=>nomatch z) h
 | @frz a ob xs ea=>
  cases (show u=Value.ref a from rx)
  obtain⟨_,_,_,n,_,h1⟩:=(show B0 X.prog X.w H s.heap a (.frz ob (.lst xs)) from I.hok a _ ea);exact PySem.W.kia_one PySem.W.kitx_list I.kIn ⟨_,h1,rfl⟩ e (fun z=>nomatch z) h
 | @tup a xs ea=>
  cases (show u=Value.ref a from rx)
  obtain⟨_,_,_,p⟩:=(show B0 X.prog X.w H s.heap a (.tup xs) from I.hok a _ ea);obtain⟨o,h1,h2,_⟩:=p;exact PySem.W.kia_one PySem.W.kitx_tuple I.kIn ⟨o,h1,h2⟩ e (fun z=>nomatch z) h
 | @dK a kvs ea=>
  cases (show u=Value.ref a from rx)
  obtain⟨_,_,vs,_,p⟩:=(show B0 X.prog X.w H s.heap a (.dK kvs) from I.hok a _ ea);obtain⟨o,es,ep,h1,h2,_⟩:=p;exact PySem.W.kia_one PySem.W.kitx_dict I.kIn ⟨o,h1,h2.1⟩ e (fun z=>nomatch z) h
 | @dT a kvs ea=>
  cases (show u=Value.ref a from rx)
  obtain⟨_,_,xs,_,o,es,ep,h1,h2,_⟩:=(show B0 X.prog X.w H s.heap a (.dT kvs) from I.hok a _ ea);exact PySem.W.kia_one PySem.W.kitx_dict I.kIn ⟨o,h1,h2.1⟩ e (fun z=>nomatch z) h
 | @ins a C dx fs ea cl ha hn htk hm=>
  cases (show u=Value.ref a from rx)
  obtain⟨mA,O,_⟩:=a4X I.hok ea;obtain⟨od,J,_⟩:=O.look;exact PySem.W.kia_one (PySem.W.kitx_own (cl.get _) cl.hd ha hn htk hm) I.kIn J e (fun z=>nomatch z) h
end
structure Room(k:Nat)(A:Around):Prop where
 hd:A.handled=none
 dp:A.depth+3*k+5<recursionLimit
 un:A.units+16*k+200<cLine
theorem Room.mono{k:Nat}(r:Room k A)(h:j<=k):Room j A:=⟨r.hd,by have:=r.dp;omega,by have:=r.un;omega⟩
theorem Room.deeper{k:Nat}(r:Room (k+1) A)(env:Env):Room k (A.deeper env):=
 ⟨r.hd,by have:=r.dp;show A.depth+1+3*k+5<_;omega,by have:=r.un;show A.units+3+16*k+200<_;omega⟩
theorem a6X:(A.under (.builtin "type.__call__" ⟨.ref C::us,kw⟩)).depth=A.depth+1:=by
 first|rfl|simp[Around.under,Code.weight,Code.isCreation,Code.isGuard,Code.isCaller,Code.frames,Code.isFrame,guardIds]
theorem a6W:(A.under (.builtin "type.__call__" ⟨.ref C::us,kw⟩)).units=A.units+1:=by
 first|rfl|simp[Around.under,Code.cUnits,Code.frames,Code.isFrame]
theorem Room.make{k:Nat}(r:Room (k+1) A)(C:Addr)(us:List Value)(kw:List (Str×Value)):Room k (A.under (.builtin "type.__call__" ⟨.ref C::us,kw⟩)):=
 ⟨r.hd,by have:=r.dp;rw[a6X];omega,by have:=r.un;rw[a6W];omega⟩
theorem Room.depth{k:Nat}(r:Room k A):A.depth<recursionLimit:=by have:=r.dp;omega
theorem Room.units{k:Nat}(r:Room k A):A.units+64<cLine:=by have:=r.un;omega
def a6G:TA:=fun _ H Q=>Q [] H
noncomputable def a1b(ta:TE)(tr:TA):TA:=fun σ H Q=>ta σ H fun x H1=>tr σ H1 fun xs H2=>Q (x::xs) H2
section
variable{t:TA}
theorem Z1:PA X [] a6G:=fun _ _ _ _ H Q I h=>Calls.spliced_nil ⟨[],H,I,.nil,h⟩
theorem I0(ha:PE X e te)(hr:PA X es t)(hs:starEach (e::es) X.env=(false,eval e X.env)::starEach es X.env:=by rfl):PA X (e::es) (a1b te t):=by
 intro pos pins s σ H Q I h;rw[hs]
 show wpAny _ _ (spliced ((false,eval e X.env)::backTo pos (starEach es X.env))) _ _ s
 refine Calls.spliced_cons (thn (ha pins s σ H _ I h) fun u s1 ⟨x,H1,I1,r1,q1⟩=>?_)
 exact thn (hr pos pins s1 σ H1 _ I1 q1) fun us s2 ⟨xs,H2,I2,r2,q2⟩=>⟨x::xs,H2,I2,.cons r1 r2,q2⟩
def b9M(t:TA):TE:=fun σ H Q=>t σ H fun xs H1=>xs.length<=sizeLine/\∀p,H1 p=none->Q (.ref p) (upd H1 p (.tup xs))
def b9S(t:TA):TE:=fun σ H Q=>t σ H fun xs H1=>xs.length<=sizeLine/\∀p,H1 p=none->Q (.ref p) (upd H1 p (.lst xs))
theorem b5i{x1}(h:PA X es t):PE X (.Tuple es x1 pos) (b9M t):=by
 intro pins s σ H Q I hq;refine wpAny_Tuple_spliced (thn (h pos pins s σ H _ I hq) fun us s1 ⟨xs,H1,I1,r,z,q⟩=>⟨by rw[←r.length];exact z,?_⟩)
 have hf:H1 s1.heap.objs.size=none:=I1.hok.fresh (ai _)
 refine⟨.ref s1.heap.objs.size,upd H1 s1.heap.objs.size (.tup xs),I1.laid (t':=s1.toks) (fun b u e=>Heap.get?_push_of_some _ e) (ai _) ?_,rfl,q _ hf⟩
 exact⟨z,us,r,⟨_,Heap.get?_push_size _ rfl,rfl,rfl,_,rfl⟩⟩
theorem b5n(h:PA X es t):PE X (.List es pos) (b9S t):=by
 intro pins s σ H Q I hq;refine wpAny_List_spliced (thn (h pos pins s σ H _ I hq) fun us s1 ⟨xs,H1,I1,r,z,q⟩=>⟨by rw[←r.length];exact z,?_⟩)
 have hf:H1 s1.heap.objs.size=none:=I1.hok.fresh (ai _)
 refine⟨.ref s1.heap.objs.size,upd H1 s1.heap.objs.size (.lst xs),I1.laid (t':=s1.toks) (fun b u e=>Heap.get?_push_of_some _ e) (ai _) ?_,rfl,q _ hf⟩
 exact⟨z,us,0,r,Heap.get?_push_size _ rfl⟩
end
abbrev Sp:=List V->Hp->VK->XK->Prop
abbrev CXT:=List Env->Hp->Shared->XK->Value->Shared->Prop
structure Env0(P:Program)(w:World)(K:PySem.W.Frag)(mg:Str->Option Value)(base:Heap)(A:Around)(outer:List Env)(s:Shared)(H:Hp):Prop where
 frames:A.frames=some outer
 mod:Mod K mg base
 bs:∀b o,base.get? b=some o->s.heap.get? b=some o/\H b=none
 bsz:base.objs.size<=s.heap.objs.size
 funs:s.heap.FunFrames base outer
 frf:∀b∈frs outer,H b=none
 hok:HOk P w H s.heap
 bare:AllBare s.gens
def CE(outer:List Env)(P:Program)(w:World)(H:Hp)(s:Shared)(Q:VK)(u:Value)(s':Shared):Prop:=
 ∃v H',s'.os=s.os/\AllBare s'.gens/\Un (frs outer) [] H H' s.heap s'.heap/\HOk P w H' s'.heap/\n0 v u/\Q v H'
def CR(CX:CXT)(outer:List Env)(P:Program)(w:World)(H:Hp)(s:Shared)(Q:VK)(E:XK)(r:Result)(s':Shared):Prop:=
 match r with
 |.ok (.ret u)=>CE outer P w H s Q u s'
 |.ok _=>False
 |.error e=>CX outer H s E e s'
structure FnOk(P:Program)(w:World)(K:PySem.W.Frag)(mg:Str->Option Value)(base:Heap)(CX:CXT)(k:Nat)(f:Addr)(fd:FuncData)(ps:List Str)(sp:Sp):Prop where
 len:∀vs H Q E,sp vs H Q E->vs.length=ps.length
 run:∀(A:Around) (outer:List Env) (s:Shared) (H:Hp) (args:Args) (us:List Value) (vs:List V) (Q:VK) (E:XK),Room k A->Env0 P w K mg base A outer s H->BindsTo s fd args (ps.zip us)->k8 vs us->sp vs H Q E→
  codeAny (model P w) A (.call (.ref f) args) (CR CX outer P w H s Q E) s
variable{mg:Str->Option Value}{base:Heap}{CX:CXT}{fd:FuncData}{ps:List Str}{sp:Sp}{outer:List Env}
theorem Env0.make(e:Env0 P w K mg base A outer s H)(C:Addr)(us:List Value)(kw:List (Str×Value)):
 Env0 P w K mg base (A.under (.builtin "type.__call__" ⟨.ref C::us,kw⟩)) outer s H:=⟨by first|exact e.frames|(simpa [Around.under,Code.envs,Code.isFrame,pushEnvs] using e.frames),e.mod,e.bs,e.bsz,e.funs,e.frf,e.hok,e.bare⟩
section
theorem Inv.env0(I:Inv X pins σ H s):Env0 X.prog X.w X.K X.mg X.base X.A X.stack s H:=
 ⟨I.ok.frames,I.ok.mod,I.bs,aK I.ok.bsz I.sz,I.stack,I.stkFree,I.hok,I.bare⟩
theorem Inv.after{Q:VK}(I:Inv X pins σ H s)(h:CE X.stack X.prog X.w H s Q u s'):EP X pins σ Q u s':=by
 obtain⟨v,H',os,bare,un,hok,r,q⟩:=h;obtain⟨hh,g,d,t,os'⟩:=s';obtain rfl:os'=s.os:=os;exact⟨v,H',I.call (h':=hh) (g':=g) (d':=d) (t':=t) (ch:=[]) un hok bare (fun b z=>absurd z (by simp)),r,q⟩
end
noncomputable def b7v(sp:Sp)(dvs:List V)(E:XK)(t:TA):TE:=fun σ H Q=>t σ H fun vs H1=>sp (vs++dvs) H1 Q E
def b7s(C:Addr)(sp:Sp)(dvs:List V)(E:XK)(t:TA):TE:=fun σ H Q=>t σ H fun vs H1=>∀x dx,H1 x=none->H1 dx=none->dx≠x→
 sp (.ref x::(vs++dvs)) (upd (upd H1 dx (.own x)) x (.ins C dx [])) (fun v H2=>v=.non/\Q (.ref x) H2) E
def U1(K:PySem.W.Frag)(fd:FuncData)(ps:List Str)(ds:List Value):Prop:=
 ∀(s:Shared) (us:List Value),K.In s.heap->(us++ds).length=ps.length->BindsTo s fd ⟨us,[]⟩ (ps.zip (us++ds))
theorem U1.all(h:∀us:List Value,us.length=ps.length->bindArgs fd ⟨us,[]⟩=pure (ps.zip us)):U1 K fd ps []:=fun s us _ hl=>by
 rw[aQ] at hl⊢;exact .of_eq (h us hl)
def a3u(CX:CXT)(X:Cx)(E:XK):Prop:=∀(pins:List (Addr×Obj)) (σ:St) (H:Hp) (s:Shared) (e:Value) (s':Shared),Inv X pins σ H s->CX X.stack H s E e s'->X.xe e s'
section
variable{k:Nat}{f:Addr}{dvs:List V}{ds:List Value}{E:XK}{m:Str}{apos:Pos}{o:Expr}{ta:TE}{t:TA}
theorem b4L{Q:VK}{vs:List V}(F:FnOk X.prog X.w X.K X.mg X.base CX k f fd ps sp)(hr:Room k X.A)(hb:U1 X.K fd ps ds)(hd:k8 dvs ds)(hx:a3u CX X E)
 (I:Inv X pins σ H s) (r:k8 vs us) (h:sp (vs++dvs) H Q E):wpAny (model X.prog X.w) X.A (call (.ref f) us) (EP X pins σ Q) X.xe s:=by
 have r2:k8 (vs++dvs) (us++ds):=r.append hd
 have hl:(us++ds).length=ps.length:=by rw[←r2.length];exact F.len _ _ _ _ h
 refine wpAny_call (codeAny_mono (F.run X.A X.stack s H ⟨us,[]⟩ (us++ds) (vs++dvs) Q E hr I.env0 (hb s us I.kIn hl) r2 h) fun r s' hq=>?_)
 cases r with
 |error e=>exact hx pins σ H s e s' I hq
 |ok fl=>
  cases fl with
  |ret u=>exact I.after hq
  |next=>exact False.elim hq
  |brk=>exact False.elim hq
  |cont=>exact False.elim hq
theorem b2Q(F:FnOk X.prog X.w X.K X.mg X.base CX k f fd ps sp)(hr:Room k X.A)(hg:Gl X x)(hm:X.mg x=some (.ref f))(hk:PySem.W.keepIn X.K (.ref f)=true)(hb:U1 X.K fd ps ds)(hd:k8 dvs ds)(hx:a3u CX X E)
 (ha:PA X (e::es) t) (hdb:(x==("__debug__":Str))=false:=by decide) (he:starEach (e::es) X.env=(false,eval e X.env)::starEach es X.env:=by rfl) (hpl:(backTo pos (starEach es X.env)).any (·.1)=false:=by rfl):
 PE X (.Call (.Name x p) (e::es) [] pos) (b7v sp dvs E t):=by
 intro pins s σ H Q I h;refine wpAny_Call_Name_kw (a4R I hg hm ?_ hdb)
 refine PySem.W.callWith_K (h₀:=X.base) I.ok.mod.kin hk (thn (ha pos pins s σ H _ I h) fun us s1 ⟨vs,H1,I1,r,q⟩=>⟨I1.kIn,?_⟩) he hpl
 exact b4L F hr hb hd hx I1 r q
structure Mk(K:PySem.W.Frag)(C f:Addr):Prop where
 makes:PySem.W.makesIn K C=true
 init:PySem.W.findIn K (.ref C) "__init__"=some (some (.ref f))
 fn:PySem.W.isFn K (.ref f)=true
 kp:PySem.W.keepIn K (.ref C)=true
theorem a9K{Q:VK}{vs:List V}(M:Mk X.K C f)(F:FnOk X.prog X.w X.K X.mg X.base CX k f fd ps sp)(hr:Room (k+1) X.A)(hb:U1 X.K fd ps ds)(hd:k8 dvs ds)
 (hx:a3u CX X E) (I:Inv X pins σ H s) (r:k8 vs us)
 (h:∀x dx,H x=none->H dx=none->dx≠x->sp (.ref x::(vs++dvs)) (upd (upd H dx (.own x)) x (.ins C dx [])) (fun v H2=>v=.non/\Q (.ref x) H2) E):
 wpAny (model X.prog X.w) X.A (call (.ref C) us) (EP X pins σ Q) X.xe s:=by
 have hq:=h (s.heap.objs.size+1) s.heap.objs.size (I.hok.fresh (Nat.le_succ _)) (I.hok.fresh (ai _)) (Nat.ne_of_lt (aL _));have I2:=Inv.made (C:=C) I
 have r2:k8 (V.ref (s.heap.objs.size+1)::(vs++dvs)) (Value.ref (s.heap.objs.size+1)::(us++ds)):=.cons rfl (r.append hd)
 have hl:(Value.ref (s.heap.objs.size+1)::us++ds).length=ps.length:=by
  have e:=r2.length;rw[F.len _ _ _ _ hq] at e;exact e.symm
 refine wpAny_call (b0G (f:=f) I.kIn M.makes M.init (beq_iff_eq.mp M.fn) (codeAny_mono (F.run _ X.stack _ _ ⟨Value.ref (s.heap.objs.size+1)::us,[]⟩ (Value.ref (s.heap.objs.size+1)::(us++ds)) _ _ E (hr.make C us [])
  (I2.env0.make C us []) (hb _ (Value.ref (s.heap.objs.size+1)::us) I2.kIn hl) r2 hq) fun r s' hq'=>?_))
 cases r with
 |error e=>exact hx pins σ _ _ e s' I2 hq'
 | ok fl=>
  cases fl with
  |ret u=>
   obtain⟨v,H',I3,rv,ev,q3⟩:=I2.after hq';subst ev;exact⟨rv,⟨V.ref (s.heap.objs.size+1),H',I3,rfl,q3⟩⟩
  |next=>exact False.elim hq'
  |brk=>exact False.elim hq'
  |cont=>exact False.elim hq'
theorem b0t(M:Mk X.K C f)(F:FnOk X.prog X.w X.K X.mg X.base CX k f fd ps sp)(hr:Room (k+1) X.A)(hg:Gl X x)(hm:X.mg x=some (.ref C))(hb:U1 X.K fd ps ds)(hd:k8 dvs ds)(hx:a3u CX X E)
 (hdb:(x==("__debug__":Str))=false:=by decide):PE X (.Call (.Name x p) [] [] pos) (b7s C sp dvs E a6G):=by
 intro pins s σ H Q I h;refine wpAny_Call_Name_kw (a4R I hg hm ?_ hdb)
 exact PySem.W.callWith_K0 I.kIn M.kp (a9K (us:=[]) M F hr hb hd hx I .nil h)
end
structure FnScope(N P:List Str)(sc:Scope):Prop where
 kind:sc.kind=.function
 co:sc.isCoroutine=false
 gen:sc.isGenerator=false
 nd:N.Nodup
 pre:N.take P.length=P
 par:∀x∈P,sc.names.lookup x=some .local∨sc.names.lookup x=some .cell
 nofree:∀y∈sc.names,y.2≠.free
theorem a4l{kindOf:Str->Option NameKind}{x:Str}:∀{binds:List (Str×Value)} {m:Str->Option Value},(∀v,(x,v)∉binds)->bindL kindOf binds m x=m x
 |[],_,_=>rfl
 | (n,v)::r,m,h=>by
  unfold bindL;rw[a4l fun w hw=>h w (aA _ hw)]
  split
  · have:x≠n:=by rintro rfl;exact h v aP
    simp[this]
  · rfl
theorem a4n{kindOf:Str->Option NameKind}{x:Str}:∀{binds:List (Str×Value)} {m:Str->Option Value},(∀v,(x,v)∉binds)->bindC kindOf binds m x=m x
 |[],_,_=>rfl
 | (n,v)::r,m,h=>by
  unfold bindC;rw[a4n fun w hw=>h w (aA _ hw)]
  split
  · rfl
  · have:x≠n:=by rintro rfl;exact h v aP
    simp[this]
theorem a4m{kindOf:Str->Option NameKind}{x:Str}{v:Value}:∀{P:List Str} {vs:List Value} {i:Nat} {m:Str->Option Value},P.Nodup->P[i]? =some x->vs[i]? =some v->kindOf x=some .local→
 bindL kindOf (P.zip vs) m x=some v
 |[],_,_,_,_,h,_,_=>by simp at h
 |_::_,[],_,_,_,_,h,_=>by simp at h
 |p::P,w::vs,0,m,nd,h1,h2,hk=>by
  simp at h1 h2;subst h1;subst h2
  show bindL kindOf ((p,w)::P.zip vs) m p=_
  unfold bindL;rw[a4l fun v hv=>(aN.mp nd).1 (of_mem_zip hv).1,av hk]
  simp
 |p::P,w::vs,i+1,m,nd,h1,h2,hk=>by
  show bindL kindOf ((p,w)::P.zip vs) m x=_
  unfold bindL;exact a4m (i:=i) (aN.mp nd).2 (by simpa using h1) (by simpa using h2) hk
theorem a4o{kindOf:Str->Option NameKind}{x:Str}{v:Value}:∀{P:List Str} {vs:List Value} {i:Nat} {m:Str->Option Value},P.Nodup->P[i]? =some x->vs[i]? =some v->kindOf x≠some .local→
 bindC kindOf (P.zip vs) m x=some v
 |[],_,_,_,_,h,_,_=>by simp at h
 |_::_,[],_,_,_,_,h,_=>by simp at h
 |p::P,w::vs,0,m,nd,h1,h2,hk=>by
  simp at h1 h2;subst h1;subst h2
  show bindC kindOf ((p,w)::P.zip vs) m p=_
  unfold bindC;rw[a4n fun v hv=>(aN.mp nd).1 (of_mem_zip hv).1,aw hk]
  simp
 |p::P,w::vs,i+1,m,nd,h1,h2,hk=>by
  show bindC kindOf ((p,w)::P.zip vs) m x=_
  unfold bindC;exact a4o (i:=i) (aN.mp nd).2 (by simpa using h1) (by simpa using h2) hk
noncomputable def a1c(N:List Str)(vs:List V):St:=vs.map some++List.replicate (N.length-vs.length) none
noncomputable def a7o(CX:CXT)(P:Program)(w:World)(K:PySem.W.Frag)(mg:Str->Option Value)(base:Heap)(N:List Str)(qual:Str)(scope:Scope)(f:Addr)(cd:Value)(A:Around)(outer:List Env)(s:Shared)(H:Hp)(E:XK):Cx where
 prog:=P
 w:=w
 K:=K
 mg:=mg
 base:=base
 A:=A.deeper (envOfC qual scope s.heap.objs.size f cd)
 N:=N
 s₀:=s
 H₀:=H
 env:=envOfC qual scope s.heap.objs.size f cd
 outer:=outer
 stack:=envOfC qual scope s.heap.objs.size f cd::outer
 ex:=[]
 calm:=true
 fn:=fun _=>true
 pn:=[]
 xe:=fun e s'=>wpAny (model P w) (A.deeper (envOfC qual scope s.heap.objs.size f cd)) (leaving (envOfC qual scope s.heap.objs.size f cd) e) (fun _ s''=>CX outer H s E e s'') (fun e' s''=>CX outer H s E e' s'') s'
variable{sc:Scope}
theorem a6u(h:sc.names.lookup x=some .cell):∃c,(cellsFrom n sc.names []).lookup x=some c:=by
 have q:=PySem.W.cellsFrom_some sc.names n [] (.inl h);exact Option.isSome_iff_exists.mp q
variable{qual:Str}{scope:Scope}
theorem a9b{f:Addr}{cd:Value}{s1:Shared}{E:XK}{vs:List V}
 (S:FnScope N ps scope) (hd:A.handled=none) (e0:Env0 P w K mg base A outer s H) (hl:vs.length=ps.length) (r:k8 vs us)
 (x:InCallC s s.heap.objs.size (bindL (envOfC qual scope s.heap.objs.size f cd).kindOf (ps.zip us) fun _=>none) (cellsFrom (s.heap.objs.size+1) scope.names []) (bindC (envOfC qual scope s.heap.objs.size f cd).kindOf (ps.zip us) fun _=>none) s1):
 Inv (a7o CX P w K mg base N qual scope f cd A outer s H E) [] (a1c N vs) H s1:=by
 have hpl:ps.length<=N.length:=by have:=congrArg List.length S.pre;rw[aG] at this;omega
 obtain⟨h1,tk,rfl,hk⟩:=x.done
 have noA:∀b:Addr,b∉(a7o CX P w K mg base N qual scope f cd A outer s H E).ex:=fun b z=>absurd (show b∈([]:List Addr) from z) (by simp)
 refine⟨⟨e0.mod,S.kind,rfl,rfl,ai _,fun y z c h1 h2=>?_,fun y hy=>?_,fun y c _ h=>?_,fun _=>hd,Around.frames_deeper e0.frames,.inr ⟨rfl,rfl⟩,fun b z=>absurd z (noA b),e0.bs,e0.bsz,fun b _ _=>noA b,fun b z=>absurd z (noA b),e0.funs,e0.frf⟩,
  rfl,e0.bare,Un.kept hk,⟨_,x.toInCall.ns,fun i y v h1 h2 h3=>?_⟩,fun y c h=>⟨_,x.cell y c h⟩,e0.hok.fresh (ai _),fun y c h=>?_,fun p hp=>absurd (show p∈([]:List (Addr×Obj)) from hp) (by simp),e0.hok.kept hk,?_⟩
 · exact name_of_addr x.apart (PySem.mem_of_lookup h1) (PySem.mem_of_lookup h2)
 · have hy:scope.names.lookup y=some .cell∨scope.names.lookup y=some .free:=hy
   rcases hy with hy|hy
   · exact a6u hy
   · exact absurd rfl (S.nofree _ (PySem.mem_of_lookup hy))
 · exact Nat.le_of_lt (x.above y c (PySem.mem_of_lookup h))
 · have hi:i<vs.length:=by
    unfold a1c at h2
    by_cases hi:i<vs.length
    · exact hi
    · rw[ao (by simpa using hi)] at h2
      rw[bj] at h2
      split at h2<;>cases h2
   have ha:vs[i]? =some v:=by
    unfold a1c at h2;rw[ap (by simpa using hi),aj] at h2
    cases e:vs[i]? with
    |none=>rw[e] at h2;cases h2
    |some a=>rw[e] at h2;cases h2;rfl
   obtain⟨u,hu,rv⟩:=r.get ha
   have hp:ps[i]? =some y:=by
    rw[←S.pre,bh (by omega)];exact h1
   have ndP:ps.Nodup:=by rw[←S.pre];exact S.nd.sublist (List.take_sublist _ _)
   refine⟨u,rv,?_⟩
   rcases S.par y (aC hp) with k|k
   · exact .inl ⟨k,a4m ndP hp hu k⟩
   · obtain⟨c,e⟩:=a6u (n:=s.heap.objs.size+1) k;refine .inr ⟨.inl k,c,e,?_⟩
     have q:=x.cell y c e;rw[a4o ndP hp hu (by show scope.names.lookup y≠_;rw[k];decide)] at q
     exact q
 · exact e0.hok.fresh (Nat.le_of_lt (x.above y c (PySem.mem_of_lookup h)))
 · unfold a1c
   show _=N.length
   rw[am,aa,aW];omega
variable{doc:Value}{pm:Value}{cdv:Value}{ct:Value}{oc:Value}{an:Option Addr}{od:Option Addr}{osl:Array (Option Value)}
theorem b8w{k:Nat}{f:Addr}{name:Str}{params:Arguments}{dV kV:Value}
 (lk:K.lookup f=some ⟨oc,od,.func (PySem.W.fnOf name qual params body scope dV kV doc pm an cdv ct),osl⟩) (hcd:PySem.W.codeIn K cdv qual=true) (S:FnScope N ps scope)
    (len:∀vs H Q E,sp vs H Q E->vs.length=ps.length)
    (hbody:∀(A:Around) (outer:List Env) (s:Shared) (H:Hp) (vs:List V) (Q:VK) (E:XK),Room k (A.deeper (envOfC qual scope s.heap.objs.size f cdv))->sp vs H Q E→
      ∃t,PSs (a7o CX P w K mg base N qual scope f cdv A outer s H E) body t/\t {nx:=fun _ H'=>Q .non H',rt:=Q} (a1c N vs) H):
    FnOk P w K mg base CX (k+1) f (PySem.W.fnOf name qual params body scope dV kV doc pm an cdv ct) ps sp:=by
  refine⟨len,fun A outer s H args us vs Q E hr e0 hb r hsp=>?_⟩
  have hl:=len _ _ _ _ hsp
  have KX:K.In s.heap:=e0.mod.kin.keeps fun b o e=>(e0.bs b o e).1
  have lim:s.heap.NoLimit:=e0.mod.nolimit.keeps fun b o e=>(e0.bs b o e).1
  have hkind:∀y∈ps.zip us,scope.names.lookup y.1=some .local∨(scope.names.lookup y.1=some .cell/\((cellsFrom (s.heap.objs.size+1) scope.names []).lookup y.1).isSome=true):=fun⟨n,v⟩ hy=>by
    rcases S.par n (of_mem_zip hy).1 with q|q
    · exact .inl q
    · exact .inr ⟨q,PySem.W.cellsFrom_some _ _ _ (.inl q)⟩
  refine codeAny_call_function hr.depth (KX _ _ lk) rfl S.co S.gen rfl (PySem.W.codeRec_of KX hcd) (hb _ _ _ _ ?_)
  refine wpAny_newFunctionEnv_cells S.kind hkind fun env he s1 x=>?_
  subst he;refine⟨lim.keeps x.toInCall.keep,codeAny_func ?_⟩
  obtain⟨t,ht,hq⟩:=hbody A outer s H vs Q E (hr.deeper _) hsp
  have I:Inv (a7o CX P w K mg base N qual scope f cdv A outer s H E) [] (a1c N vs) H s1:=a9b S hr.hd e0 hl r x
  refine wpAny_mono (ht [] s1 (a1c N vs) H _ I hq) (fun fl s' hs=>?_) fun e s' hs=>hs
  have fin:∀{σ':St} {H':Hp} {v:V} {u:Value},Inv (a7o CX P w K mg base N qual scope f cdv A outer s H E) [] σ' H' s'->n0 v u->Q v H'->CE outer P w H s Q u s':=
    fun{σ' H' v u} J rv q=>⟨v,H',J.os,J.bare,J.base,J.hok,rv,q⟩
  cases fl with
  | ret u=>
    obtain⟨v,σ',H',J,rv,q⟩:=hs;exact fin J rv q
  | next=>
    obtain⟨σ',H',J,q⟩:=hs;exact fin (v:=V.non) (u:=Value.none) J rfl q
  | brk=>
    obtain⟨_,_,_,q⟩:=hs;exact False.elim q
  | cont=>
    obtain⟨_,_,_,q⟩:=hs;exact False.elim q
section
variable{t:TA}{id T:String}{r:List V->Hp->VK->Prop}
def tCB(r:List V->Hp->VK->Prop)(t:TA):TE:=fun σ H Q=>t σ H fun vs H1=>r vs H1 Q
theorem V7(hc:G8 X (.builtin id) r)(hg:Gl X x)(hm:X.mg x=none)(hv:bootBuiltins x=some (.builtin id))(ha:PA X (e::es) t)(hn:x≠"__name__":=by decide)(hdb:(x==("__debug__":Str))=false:=by decide)
 (he:starEach (e::es) X.env=(false,eval e X.env)::starEach es X.env:=by rfl) (hpl:(backTo pos (starEach es X.env)).any (·.1)=false:=by rfl):PE X (.Call (.Name x p) (e::es) [] pos) (tCB r t):=by
 intro pins s σ H Q I h;refine wpAny_Call_Name_kw (Z7 I hg hm hv ?_ hn hdb)
 exact PyProof.Rows.callWith_builtin1 (thn (ha pos pins s σ H _ I h) fun us s1 ⟨vs,H1,I1,r1,q1⟩=>hc pins s1 σ H1 vs us Q I1 r1 q1) he hpl
theorem V6(hc:G8 X (.type T) r)(hg:Gl X x)(hm:X.mg x=none)(hv:bootBuiltins x=some (.type T))(ha:PA X (e::es) t)(hn:x≠"__name__":=by decide)(hdb:(x==("__debug__":Str))=false:=by decide)
 (he:starEach (e::es) X.env=(false,eval e X.env)::starEach es X.env:=by rfl) (hpl:(backTo pos (starEach es X.env)).any (·.1)=false:=by rfl):PE X (.Call (.Name x p) (e::es) [] pos) (tCB r t):=by
 intro pins s σ H Q I h;refine wpAny_Call_Name_kw (Z7 I hg hm hv ?_ hn hdb)
 exact PyProof.Rows.callWith_type1 (thn (ha pos pins s σ H _ I h) fun us s1 ⟨vs,H1,I1,r1,q1⟩=>hc pins s1 σ H1 vs us Q I1 r1 q1) he hpl
end
end L2
namespace HT
open PySem PyProof.Rows
variable{b:Addr}{items:Array Value}{Q:Value->Shared->Prop}{sl:Addr}{vl:Value}{vu:Value}{lo:Option Int}{hi:Option Int}
section
variable{prog:Program}{w:World}{A:Around}{E:Value->Shared->Prop}{s:Shared}
theorem b3X{t:Addr}{vs ws:List Value}(ht:IsTup s.heap t vs.toArray)(hb:IsTup s.heap b ws.toArray)(hv:vs≠[])
 (h1:ws=[]->Q (.ref t) s) (h2:ws≠[]->Q (.ref s.heap.objs.size) {s with heap:=s.heap.push {cls:=.type "tuple",data:=.seq (vs++ws).toArray}})
 (hsz:vs.length+ws.length<=sizeLine):wpAny (model prog w) A (binaryOp .Add (.ref t) (.ref b)) Q E s:=by
 obtain⟨⟨cls,dd,data,sl⟩,ho,hc,n,hd⟩:=id ht;obtain⟨⟨cls2,dd2,data2,sl2⟩,ho2,hc2,n2,hd2⟩:=id hb
 simp only at hc hd hc2 hd2
 subst hc hd hc2 hd2
 have e:vs.toArray++ws.toArray=(vs++ws).toArray:=by simp
 by_cases hw:ws=[]
 · exact concat_meets ⟨_,ho,rfl⟩ ⟨_,ho2,rfl⟩ noFill_tuple_add seq_tuple_add PySem.F.slot_tuple_add PySem.F.entry_tuple_add (PySem.F.args_tuple_add_2 _ _)
    (tuple_addW1 t b vs.toArray ws.toArray n n2 dd dd2 sl sl2 (by simpa using hv) (by simp[hw])) ⟨ho,ho2,h1 hw⟩
 · refine concat_meets ⟨_,ho,rfl⟩ ⟨_,ho2,rfl⟩ noFill_tuple_add seq_tuple_add PySem.F.slot_tuple_add PySem.F.entry_tuple_add (PySem.F.args_tuple_add_2 _ _)
    (tuple_addW2 t b vs.toArray ws.toArray n n2 dd dd2 sl sl2 (by simpa using hv) (by simpa using hw) (by rw[size_toArray,size_toArray];exact hsz)) ⟨ho,ho2,?_⟩
   rw[e];exact h2 hw
noncomputable def sIx(n d:Nat):Option Int->Nat
 |none=>d
 |some v=>if v<0 then(v+(n:Int)).toNat else min v.toNat n
theorem b4K(n d:Nat)(hd:d<=n)(o:Option Int):sIx n d o<=n:=by
 cases o with
 |none=>exact hd
 |some v=>
  show(if v<0 then(v+(n:Int)).toNat else min v.toNat n)<=n
  by_cases hv:v<0
  · rw[av hv];omega
  · rw[aw hv];exact Nat.min_le_right _ _
theorem a8q(v:Int)(n d:Nat):(if v<0 then max (v+(n:Int)) 0 else min v (n:Int))=((sIx n d (some v):Nat):Int):=by
 show(if v<0 then max (v+(n:Int)) 0 else min v (n:Int))=(((if v<0 then(v+(n:Int)).toNat else min v.toNat n):Nat):Int)
 by_cases hv:v<0
 · simp only[av hv];omega
 · simp only[aw hv];omega
theorem a7s(lo hi:Option Int)(n:Nat):Builtin.Slice.sliceAdjust lo hi 1 (n:Int)=(((sIx n 0 lo:Nat):Int),((sIx n n hi:Nat):Int)):=by
 have h1:¬((1:Int)<0):=by omega
 unfold Builtin.Slice.sliceAdjust;simp only[h1,if_false];refine Prod.ext ?_ ?_
 · cases lo with
   |none=>rfl
   |some v=>exact a8q v n 0
 · cases hi with
   |none=>rfl
   |some v=>exact a8q v n n
theorem a6O(i j:Nat):Builtin.Slice.slicePlaces (i:Int) (j:Int) 1=j-i:=by
 unfold Builtin.Slice.slicePlaces
 have h1:(1:Int)>0:=by omega
 simp only[h1,if_true,Int.ediv_one]
 split<;>omega
theorem a2C{v:Value}{o:Option Int}{Q:Option Int->Shared->Prop}(p:IsPart v o)(h:Q o s):wpAny (model prog w) A (Builtin.Slice.slicePartIndex v) Q E s:=by
 cases p with
 |none=>exact slicePart_none h
 |int i t=>exact slicePart_int h
theorem a1C{n:Nat}{Q:Int×Int×Nat->Shared->Prop}(hs:s.heap.IsSliceOf sl vl vu .none)(pl:IsPart vl lo)(pu:IsPart vu hi)
 (h:Q (((sIx n 0 lo:Nat):Int),1,sIx n n hi-sIx n 0 lo) s):wpAny (model prog w) A (Builtin.Slice.sliceApplied (.ref sl) (pure (n:Int))) Q E s:=by
 obtain⟨os,hos,hcs,hds⟩:=id hs;unfold Builtin.Slice.sliceApplied Builtin.Slice.sliceFields;refine wpAny_bind (wpAny_bind (wpAny_field hos hds (x:=vl) rfl (wpAny_bind (wpAny_field hos hds (x:=vu) rfl (wpAny_bind (wpAny_field hos hds (x:=.none) rfl (wpAny_pure ?_)))))))
 refine wpAny_bind (slicePart_none ?_)
 show wpAny _ _ (if((1:Int)==0)=true then _ else _) _ _ s
 rw[aw (by decide)]
 refine wpAny_bind (a2C pl (wpAny_bind (a2C pu (wpAny_bind (wpAny_pure ?_)))))
 show wpAny _ _ (match Builtin.Slice.sliceAdjust lo hi 1 (n:Int) with|(lo,hi)=>pure (lo,(1:Int),Builtin.Slice.slicePlaces lo hi 1)) _ _ s
 rw[a7s lo hi n]
 show wpAny _ _ (pure (((sIx n 0 lo:Nat):Int),(1:Int),Builtin.Slice.slicePlaces ((sIx n 0 lo:Nat):Int) ((sIx n n hi:Nat):Int) 1)) _ _ s
 rw[a6O];exact wpAny_pure h
theorem b0p(xs:Array Value)(i k:Nat):((List.range k).filterMap fun(m:Nat)=>xs[((i:Int)+(m:Int)*1).toNat]?).toArray=((xs.toList.drop i).take k).toArray:=by
 have e:(fun(m:Nat)=>xs[((i:Int)+(m:Int)*1).toNat]?)=fun m=>xs[i+m]? :=by
  funext m
  have:((i:Int)+(m:Int)*1).toNat=i+m:=by omega
  rw[this]
 rw[e]
 have:=pick_run xs i k
 rw[List.filterMap_map] at this
 have e2:((fun x=>xs[x]?)∘fun x=>i+x)=fun m=>xs[i+m]? :=rfl
 rw[e2] at this;rw[this]
theorem a1o{t:Addr}(ht:IsTup s.heap t items)(hs:s.heap.IsSliceOf sl vl vu .none)(pl:IsPart vl lo)(pu:IsPart vu hi)
 (hw:¬(sIx items.size 0 lo=0/\sIx items.size items.size hi=items.size))
 (h:Q (.ref s.heap.objs.size) {s with heap:=s.heap.push {cls:=.type "tuple",data:=.seq ((items.toList.drop (sIx items.size 0 lo)).take (sIx items.size items.size hi-sIx items.size 0 lo)).toArray}})
 (hsz:items.size<=sizeLine):wpAny (model prog w) A (getItem (.ref t) (.ref sl)) Q E s:=by
 have htake:sizeOk (.seq ((items.toList.drop (sIx items.size 0 lo)).take (sIx items.size items.size hi-sIx items.size 0 lo)).toArray):=by
  show((items.toList.drop (sIx items.size 0 lo)).take (sIx items.size items.size hi-sIx items.size 0 lo)).toArray.size<=sizeLine
  rw[size_toArray,aG,bg,Array.length_toList];omega
 have hj:sIx items.size items.size hi<=items.size:=b4K _ _ (ai _) hi
 obtain⟨os,hos,hcs,hds⟩:=id hs
 have hTs:s.TypeIs (.ref sl) "slice":=⟨os,hos,hcs⟩
 unfold getItem
 try with_reducible refine wpAny_holding ?_
 first|refine wpAny_bind (wpAny_pure ?_)|skip
 refine wpAny_bind (wpAny_sequenceKey ht.typeIs (by decide) ?_)
 refine wpAny_bind (wpAny_callSpecial?_slot (name:=Str.ofString "__getitem__") ht.typeIs PyProof.Rows.slot_tuple_getitem
  (wpAny_call_entry PyProof.Rows.slot_tuple_getitem ht.typeIs entry_tuple_getitem ?_ (args_tuple_getitem _ _)))
 show wpAny _ _ (Builtin.Tuple.tupleItemsOf (.ref t)>>=_) _ _ s
 refine wpAny_bind (tupleItemsOf_ ht ?_)
 refine wpAny_bind (wpAny_typeOf hTs ?_)
 rw[av (by decide)]
 refine wpAny_bind (a1C hs pl pu ?_)
 have hno:¬((((sIx items.size 0 lo:Nat):Int)==0&&(1:Int)==1&&(sIx items.size items.size hi-sIx items.size 0 lo)==items.size)=true):=by
  intro q;rw[ae,ae] at q
  have q1:((sIx items.size 0 lo:Nat):Int)=0:=eq_of_beq q.1.1
  have q2:sIx items.size items.size hi-sIx items.size 0 lo=items.size:=eq_of_beq q.2
  exact hw ⟨by omega,by omega⟩
 show wpAny _ _ (if(((sIx items.size 0 lo:Nat):Int)==0&&(1:Int)==1&&(sIx items.size items.size hi-sIx items.size 0 lo)==items.size)=true then _ else _) _ _ s
 rw[aw hno,b0p]
 first
  |exact wpAny_bind (m:=Builtin.Tuple.tupleExact _) (wpAny_newObj_type (wpAny_pure ⟨_,rfl,wpAny_pure h⟩) htake)
  |exact wpAny_bind (m:=Builtin.Tuple.tupleExact _) (wpAny_newObj_type (wpAny_bind (wpAny_pure (wpAny_pure ⟨_,rfl,wpAny_pure h⟩))) htake)
  |exact wpAny_bind (wpAny_bind (m:=Builtin.Tuple.tupleExact _) (wpAny_newObj_type (wpAny_pure (wpAny_pure ⟨_,rfl,wpAny_pure h⟩)) htake))
  |exact wpAny_bind (wpAny_bind (m:=Builtin.Tuple.tupleExact _) (wpAny_newObj_type (wpAny_pure ⟨_,rfl,wpAny_pure h⟩) htake))
end
end HT
namespace L2
open PySem PySem.Spec PyProof.Rows
abbrev TO:=St->Hp->(Option Int->Hp->Prop)->Prop
def PO(X:Cx)(e:Option Expr)(t:TO):Prop:=
 ∀(pins:List (Addr×Obj)) (s:Shared) (σ:St) (H:Hp) (Q:Option Int->Hp->Prop),Inv X pins σ H s->t σ H Q→
  wpAny (model X.prog X.w) X.A (evalPart e X.env) (fun u s'=>∃o H',Inv X pins σ H' s'/\IsPart u o/\Q o H') X.xe s
def b2k:TO:=fun _ H Q=>Q none H
noncomputable def b7o(t:TE):TO:=fun σ H Q=>t σ H fun x H1=>∃i,x=.int i/\Q (some i) H1
variable{ns:List Int}{r:V->Option Int->Option Int->Hp->VK->Prop}{us:List Value}
section
variable{X:Cx}{e:Expr}{te:TE}{lo hi:Option Expr}{tl th:TO}{pos p2:Pos}
theorem b2I:PO X none b2k:=by
 intro pins s σ H Q I h;rw[evalPart_none];exact wpAny_pure ⟨none,H,I,.none,h⟩
theorem b2H(h:PE X e te):PO X (some e) (b7o te):=by
 intro pins s σ H Q I hw;rw[evalPart_some];refine thn (h pins s σ H _ I hw) fun u s1 ⟨x,H1,I1,r1,q1⟩=>?_
 obtain⟨i,rfl,q⟩:=q1;obtain⟨t,rfl⟩:=r1;exact⟨some i,H1,I1,.int i t,q⟩
def SlR(X:Cx)(r:V->Option Int->Option Int->Hp->VK->Prop):Prop:=
 ∀(pins:List (Addr×Obj)) (s:Shared) (σ:St) (H:Hp) (x:V) (v vl vu:Value) (lo hi:Option Int) (sl:Addr) (Q:VK),Inv X pins σ H s->n0 x v->s.heap.IsSliceOf sl vl vu .none->IsPart vl lo->IsPart vu hi->r x lo hi H Q→
  ∃T id,typeLookup (.type T) "__getitem__"=pure (some (.builtin id))/\s.TypeIs v T/\wpAny (model X.prog X.w) X.A (getItem v (.ref sl)) (EP X pins σ Q) X.xe s
def tSl(r:V->Option Int->Option Int->Hp->VK->Prop)(te:TE)(tl th:TO):TE:=fun σ H Q=>te σ H fun x H1=>tl σ H1 fun l H2=>th σ H2 fun u H3=>r x l u H3 Q
theorem b0s(hr:SlR X r)(he:PE X e te)(hl:PO X lo tl)(hu:PO X hi th):PE X (.Subscript e (.Slice lo hi none p2) pos) (tSl r te tl th):=by
 intro pins s σ H Q I h;refine Subscript_ (thn (he pins s σ H _ I h) fun v s1 ⟨x,H1,I1,r1,q1⟩=>?_)
 refine wpAny_Slice (thn (hl pins s1 σ H1 _ I1 q1) fun vl s2 ⟨l,H2,I2,pl,q2⟩=>thn (hu pins s2 σ H2 _ I2 q2) fun vu s3 ⟨u,H3,I3,pu,q3⟩=>?_)
 rw[evalPart_none];refine wpAny_pure ?_
 have I4:Inv X pins σ H3 {s3 with heap:=s3.heap.push {cls:=.type "slice",data:=.fields #[vl,vu,.none]}}:=I3.kept (t':=s3.toks) fun b ob q=>Heap.get?_push_of_some _ q
 obtain⟨T,id,hT,ht,hg⟩:=hr pins {s3 with heap:=s3.heap.push {cls:=.type "slice",data:=.fields #[vl,vu,.none]}} σ H3 x v vl vu l u s3.heap.objs.size Q I4 r1 (Heap.IsSliceOf.new ..) pl pu q3
 show wpAny (model X.prog X.w) X.A (subscriptTail e (.Slice lo hi none p2) v (.ref s3.heap.objs.size)) (EP X pins σ Q) X.xe {s3 with heap:=s3.heap.push {cls:=.type "slice",data:=.fields #[vl,vu,.none]}}
 exact tail_any (ops:=[.ref s3.heap.objs.size,v]) ht hT hg (by with_unfolding_all rfl)
def a6q(xs:List V)(lo hi:Option Int):List V:=(xs.drop (HT.sIx xs.length 0 lo)).take (HT.sIx xs.length xs.length hi-HT.sIx xs.length 0 lo)
theorem a1X(xs:List V)(lo hi:Option Int):(a6q xs lo hi).length<=xs.length:=by
 unfold a6q;rw[aG,bg];omega
def c0c(K:PySem.W.Frag):V->Option Int->Option Int->Hp->VK->Prop:=fun x lo hi H Q=>∃a xs,x=.ref a/\SqT K H a xs∧
 ¬(HT.sIx xs.length 0 lo=0/\HT.sIx xs.length xs.length hi=xs.length)/\∀p,H p=none->Q (.ref p) (upd H p (.tup (a6q xs lo hi)))
theorem b4G:SlR X (c0c X.K):=by
 intro pins s σ H x v vl vu lo hi sl Q I rx hs pl pu h;obtain⟨a,xs,rfl,hx,hw,q⟩:=h;cases rx;obtain⟨its,r,ht,hz⟩:=I.tuple hx
 have hlen:its.toArray.size=xs.length:=by rw[size_toArray];exact r.length.symm
 refine⟨"tuple",_,PyProof.Rows.slot_tuple_getitem.lookup,ht.typeIs,?_⟩
 refine HT.a1o ht hs pl pu (by rw[hlen];exact hw) ?_ (by rw[hlen];exact hz)
 rw[hlen];refine⟨.ref s.heap.objs.size,_,I.laid (t':=s.toks) (o:=.tup (a6q xs lo hi)) (fun b ob q=>Heap.get?_push_of_some _ q) (ai _) ?_,rfl,q _ (I.hok.fresh (ai _))⟩
 exact⟨aK (a1X xs lo hi) hz,_,(r.drop (HT.sIx xs.length 0 lo)).take (HT.sIx xs.length xs.length hi-HT.sIx xs.length 0 lo),a0q.new _ _⟩
def b7M(K:PySem.W.Frag):R2:=fun x y H Q=>∃a b xs ys,x=.ref a/\y=.ref b/\SqT K H a xs/\SqT K H b ys/\xs≠[]/\xs.length+ys.length<=sizeLine∧
 (ys=[]->Q (.ref a) H)/\(ys≠[]->∀p,H p=none->Q (.ref p) (upd H p (.tup (xs++ys))))
theorem k8.nil_iff{xs:List V}(r:k8 xs us):us=[]↔xs=[]:=by
 cases r with
 |nil=>simp
 |cons _ _=>simp
theorem b2V:OpR X (binaryOp .Add) (b7M X.K):=by
 intro pins s σ H x y v u Q I rx ry h;obtain⟨a,b,xs,ys,rfl,rfl,ha,hb,hx,hz,q1,q2⟩:=h;cases rx;cases ry;obtain⟨its,r1,p1,_⟩:=I.tuple ha;obtain⟨its2,r2,p2,_⟩:=I.tuple hb;refine HT.b3X p1 p2 (fun z=>hx (r1.nil_iff.mp z)) (fun z=>⟨.ref a,H,I,rfl,q1 (r2.nil_iff.mp z)⟩) (fun z=>?_) (by rw[←r1.length,←r2.length];exact hz)
 refine⟨.ref s.heap.objs.size,_,I.laid (t':=s.toks) (o:=.tup (xs++ys)) (fun b ob q=>Heap.get?_push_of_some _ q) (ai _) ?_,rfl,q2 (fun w=>z (r2.nil_iff.mpr w)) _ (I.hok.fresh (ai _))⟩
 exact⟨by rw[am];exact hz,_,r1.append r2,a0q.new _ _⟩
end
noncomputable def ixN(n:Nat)(i:Int):Option Nat:=if 0<=i then(if i<n then some i.toNat else none) else if-(n:Int)<=i then some (i+n).toNat else none
def atI{α:Type}(xs:List α)(i:Int):Option α:=(ixN xs.length i).bind fun j=>xs[j]?
variable{n:Nat}{j:Nat}
theorem a7W{i:Int}(h:ixN n i=some j):seqIndex? i n=some j/\j<n/\ -(n:Int)<=i/\i<n:=by
 unfold ixN at h
 by_cases h0:0<=i
 · rw[av h0] at h
   by_cases h1:i<n
   · rw[av h1] at h
     have e:i.toNat=j:=au h
     exact⟨by rw[seqIndex_of h0 h1,e],by omega,by omega,h1⟩
   · rw[aw h1] at h;cases h
 · rw[aw h0] at h
   by_cases h1: -(n:Int)<=i
   · rw[av h1] at h
     have e:(i+n).toNat=j:=au h
     exact⟨by rw[seqIndex_neg (by omega) h1,e],by omega,h1,by omega⟩
   · rw[aw h1] at h;cases h
variable{α:Type}
theorem a5s{xs:List α}{i:Int}{v:α}(h:atI xs i=some v):∃j,seqIndex? i xs.length=some j/\xs[j]? =some v/\j<xs.length/\ -(xs.length:Int)<=i/\i<xs.length:=by
 unfold atI at h
 cases e:ixN xs.length i with
 |none=>rw[e] at h;cases h
 |some j=>
  rw[e] at h;obtain⟨h1,h2,h3,h4⟩:=a7W e;exact⟨j,h1,h,h2,h3,h4⟩
def a2t(b:Expr):Prop:=∀o i,subscripted b false o i=operate [o,i] (getItem o i)
def IxR(X:Cx)(r:R2):Prop:=
 ∀(value slice:Expr) (pins:List (Addr×Obj)) (s:Shared) (σ:St) (H:Hp) (x y:V) (v u:Value) (Q:VK),Inv X pins σ H s->n0 x v->n0 y u->r x y H Q→
  subscripted slice false v u=operate [v,u] (getItem v u)->wpAny (model X.prog X.w) X.A (subscriptTail value slice v u) (EP X pins σ Q) X.xe s
def MtR(X:Cx)(id:String)(r:V->List V->Hp->VK->Prop):Prop:=
 ∀(pins:List (Addr×Obj)) (s:Shared) (σ:St) (H:Hp) (x:V) (xs:List V) (v:Value) (us:List Value) (Q:VK),Inv X pins σ H s->n0 x v->k8 xs us->r x xs H Q→
  wpAny (model X.prog X.w) X.A (call (.builtin id) (v::us)) (EP X pins σ Q) X.xe s
variable{id:String}{pins:List (Addr×Obj)}{σ:St}{H:Hp}{s:Shared}{ys:List V}{its:List Value}{its':List Value}{A:Around}{y:V}{u:Value}
section
variable{X:Cx}{a b:Expr}{ta tb:TE}{pos:Pos}
theorem b4m{r:R2}(hr:IxR X r)(ha:PE X a ta)(hb:PE X b tb)(hs:a2t b):PE X (.Subscript a b pos) (tOp r ta tb):=by
 intro pins s σ H Q I h;exact Subscript_ (b6L ha hb I h fun v u s2 x y H2 I2 rx ry q=>hr a b pins s2 σ H2 x y v u Q I2 rx ry q (hs _ _))
noncomputable def c0i(K:PySem.W.Frag):R2:=fun x y H Q=>∃p xs i v,x=.ref p/\y=.int i/\SqL K H p xs/\atI xs i=some v/\Q v H
noncomputable def c0g(K:PySem.W.Frag):R2:=fun x y H Q=>∃p xs i v,x=.ref p/\y=.int i/\SqT K H p xs/\atI xs i=some v/\Q v H
noncomputable def c0h:R2:=fun x y H Q=>∃z i c,x=.str z/\y=.int i/\z.length<=sizeLine/\atI z.cps.toList i=some c/\Q (.str ⟨#[c]⟩) H
theorem a7V:IxR X (c0i X.K):=by
 intro value slice pins s σ H x y v u Q I rx ry h hs;obtain⟨p,xs,i,z,rfl,rfl,hq,he,q⟩:=h;cases rx;obtain⟨t,rfl⟩:=ry;obtain⟨its,r,pl,hz⟩:=I.list hq;obtain⟨j,h1,h2,h3,h4,h5⟩:=a5s he;obtain⟨w,ew,rw'⟩:=r.get h2;have hl:=r.length;have hn:=a0S
 have fin:EP X pins σ Q w s:=⟨z,H,I,rw',q⟩
 by_cases h0:0<=i
 · have hj:i.toNat=j:=by
    rw[seqIndex_of h0 h5] at h1;exact au h1
   exact item_listR pl.isList h0 (by omega) (by rw[hj];simpa using ew) fin hs
 · have hj:(i+(its.toArray.size:Int)).toNat=j:=by
    rw[seqIndex_neg (by omega) h4] at h1
    rw[size_toArray,←hl];exact au h1
   exact subscriptTail_builtinR (x:=w) pl.isList.typeIs slot_list_getitem.lookup
    (wpAny_getItem_list_neg (Q:=fun r s'=>r=w/\EP X pins σ Q r s') pl.isList (by omega) (by rw[size_toArray]<;>omega) (by omega) (by rw[hj];simpa using ew) ⟨rfl,fin⟩) hs
theorem ix_tup:IxR X (c0g X.K):=by
 intro value slice pins s σ H x y v u Q I rx ry h hs;obtain⟨p,xs,i,z,rfl,rfl,hq,he,q⟩:=h;cases rx;obtain⟨t,rfl⟩:=ry;obtain⟨its,r,pl,hz⟩:=I.tuple hq;obtain⟨j,h1,h2,h3,h4,h5⟩:=a5s he;obtain⟨w,ew,rw'⟩:=r.get h2;have hl:=r.length;have hn:=a0S
 have fin:EP X pins σ Q w s:=⟨z,H,I,rw',q⟩
 exact subscriptTail_builtinR (x:=w) pl.typeIs slot_tuple_getitem.lookup
  (getItem_tuple (j:=j) (Q:=fun r s'=>r=w/\EP X pins σ Q r s') pl (by omega) (by omega) (by rw[size_toArray,←hl];exact h1) (by simpa using ew) ⟨rfl,fin⟩) hs
theorem ix_str:IxR X c0h:=by
 intro value slice pins s σ H x y v u Q I rx ry h hs;obtain⟨z,i,c,rfl,rfl,hz,he,q⟩:=h;obtain⟨t,rfl⟩:=rx;obtain⟨t',rfl⟩:=ry;obtain⟨j,h1,h2,h3,h4,h5⟩:=a5s he
 have hl:z.cps.toList.length=z.length:=by simp[Str.length]
 rw[hl] at h1 h4 h5;have hn:=a0S
 exact tail_any (typeIs_str s z t) slot_str_getitem.lookup (getItem_str (c:=c) (by
  have e1:decide (i< -(2^63:Int))=false:=bf (by omega)
  have e2:decide (i≥2^63)=false:=bf (by omega)
  rw[e1,e2,Bool.or_false]) (by rw[h1];simpa using h2) ⟨.str ⟨#[c]⟩,H,I.tok _,⟨_,rfl⟩,q⟩) hs
theorem a6V(its:List Value)(n j:Nat)(u:Value):Obj.mapSeq (·.setIfInBounds j u) {cls:=.type "list",data:=.seq its.toArray n}={cls:=.type "list",data:=.seq (its.set j u).toArray n}:=by
 simp[Obj.mapSeq]
theorem Inv.lst{pins:List (Addr×Obj)}{σ:St}{H:Hp}{s:Shared}{p:Addr}{xs:List V}(I:Inv X pins σ H s)(h:H p=some (.lst xs)):
 ∃(its:List Value) (n:Nat),k8 xs its/\s.heap.get? p=some {cls:=.type "list",data:=.seq its.toArray n}/\xs.length<=sizeLine:=by
 obtain⟨z,its,n,r,e⟩:=I.hok p _ h;exact⟨its,n,r,e,z⟩
theorem Inv.lstUpd{p:Addr}{xs:List V}{n':Nat}{f:Obj->Obj}(I:Inv X pins σ H s)(h:H p=some (.lst xs))
 (ho:s.heap.get? p=some {cls:=.type "list",data:=.seq its.toArray n}) (hf:f {cls:=.type "list",data:=.seq its.toArray n}={cls:=.type "list",data:=.seq its'.toArray n'}) (r:k8 ys its') (hz:ys.length<=sizeLine) (t:Nat):
 Inv X pins σ (upd H p (.lst ys)) {s with heap:=s.heap.update p f,toks:=t}:=by
 have e:(s.heap.update p f).get? p=some {cls:=.type "list",data:=.seq its'.toArray n'}:=by
  rw[Heap.get?_update_self f ho (by rw[hf]<;>rfl),hf]
 refine I.write (x:=p) (e:=p) (by rw[h];trivial) (.inl rfl) (fun b u hb q=>(Heap.get?_update_other _ _ (Ne.symm hb)).trans q) ⟨_,e⟩ ?_
 exact⟨hz,its',n',r,e⟩
def b7G:V->V->V->Hp->(Hp->Prop)->Prop:=fun o i v H Q=>∃p xs k j,o=.ref p/\i=.int k/\H p=some (.lst xs)/\ixN xs.length k=some j/\Q (upd H p (.lst (xs.set j v)))
theorem a9I:b7f X b7G:=by
 intro pins s σ H o i v ov iv u Q I ro ri rv h;obtain⟨p,xs,k,j,rfl,rfl,hp,hj,q⟩:=h;cases ro;obtain⟨t,rfl⟩:=ri;obtain⟨its,n,r,ho,hz⟩:=I.lst hp;obtain⟨h1,h2,h3,h4⟩:=a7W hj;have hl:=r.length;have hn:=a0S
 have I':Inv X pins σ (upd H p (.lst (xs.set j v))) {s with heap:=s.heap.update p (Obj.mapSeq (·.setIfInBounds j u))}:=
  I.lstUpd hp ho (a6V its n j u) (r.set rv j) (by rw[length_set];exact hz) s.toks
 by_cases h0:0<=k
 · have hk:k.toNat=j:=by
    rw[seqIndex_of h0 h4] at h1;exact au h1
   exact PySem.W.ki_setAt ho h0 (by omega) (by rw[size_toArray,←hl];exact h4) (by rw[hk];exact⟨_,I',q⟩)
 · have hk:(k+(its.toArray.size:Int)).toNat=j:=by
    rw[seqIndex_neg (by omega) h3] at h1
    rw[size_toArray,←hl];exact au h1
   exact PySem.W.ki_setBack ho (by omega) (by rw[size_toArray,←hl];exact h3) (by omega) (by rw[hk];exact⟨_,I',q⟩)
theorem a4x(lo hi:Option Int)(n:Nat):(sliceBounds lo hi none n).1=((HT.sIx n 0 lo:Nat):Int)/\(sliceBounds lo hi none n).2.1=((HT.sIx n n hi:Nat):Int)/\(sliceBounds lo hi none n).2.2=1:=by
 refine⟨?_,?_,rfl⟩
 · cases lo with
   |none=>simp[sliceBounds,HT.sIx]
   |some i=>
    simp only[sliceBounds,HT.sIx,Option.getD_none,show(1:Int)>0 by decide,if_true]
    by_cases h:i<0
    · simp only[h,if_true]<;>omega
    · simp only[h,if_false]<;>omega
 · cases hi with
   |none=>simp[sliceBounds,HT.sIx]
   |some i=>
    simp only[sliceBounds,HT.sIx,Option.getD_none,show(1:Int)>0 by decide,if_true]
    by_cases h:i<0
    · simp only[h,if_true]<;>omega
    · simp only[h,if_false]<;>omega
theorem a3A(its:List Value)(lo hi:Option Int):slicePick its.toArray lo hi none=((its.drop (HT.sIx its.length 0 lo)).take (HT.sIx its.length its.length hi-HT.sIx its.length 0 lo)).toArray:=by
 obtain⟨h1,h2,h3⟩:=a4x lo hi its.toArray.size;unfold slicePick;rw[h1,h2,h3];simp only[sliceRange_one,pick_run,size_toArray]<;>rfl
def c0e(K:PySem.W.Frag):V->Option Int->Option Int->Hp->VK->Prop:=fun x lo hi H Q=>∃a xs,x=.ref a/\SqL K H a xs/\∀p,H p=none->Q (.ref p) (upd H p (.lst (a6q xs lo hi)))
theorem b2o:SlR X (c0e X.K):=by
 intro pins s σ H x v vl vu lo hi sl Q I rx hs pl pu h;obtain⟨a,xs,rfl,hx,q⟩:=h;cases rx;obtain⟨its,r,ht,hz⟩:=I.list hx;have hlen:=r.length;refine⟨"list",_,slot_list_getitem.lookup,ht.isList.typeIs,?_⟩
 refine wpAny_getItem_list_slice ht.isList hs pl pu .none (by simp) ?_ (by rw[size_toArray]<;>omega)
 rw[a3A,←hlen];refine⟨.ref s.heap.objs.size,_,I.laid (t':=s.toks) (o:=.lst (a6q xs lo hi)) (fun b ob q=>Heap.get?_push_of_some _ q) (ai _) ?_,rfl,q _ (I.hok.fresh (ai _))⟩
 exact⟨aK (a1X xs lo hi) hz,_,0,(r.drop (HT.sIx xs.length 0 lo)).take (HT.sIx xs.length xs.length hi-HT.sIx xs.length 0 lo),Heap.get?_push_size _ rfl⟩
noncomputable def E9:V->Bool
 |.non=>true
 |.bl _=>true
 |.int _=>true
 |.str _=>true
 |_=>false
noncomputable def eqV:V->V->Bool
 |.non,.non=>true
 |.bl a,.bl b=>a==b
 |.bl a,.int b=>(if a then 1 else 0)==b
 |.int a,.bl b=>a==(if b then 1 else 0)
 |.int a,.int b=>a==b
 |.str a,.str b=>a==b
 |_,_=>false
theorem b1F{x:V}{v:Value}(ry:n0 y u)(rx:n0 x v)(fy:E9 y=true)(fx:E9 x=true):SeqAt.EqAt A s u v (eqV y x):=by
 cases y with
 |non=>
  cases ry
  cases x with
  |non=>cases rx;exact SeqAt.EqAt.same _
  |bl b=>cases rx;exact SeqAt.EqAt.none_bool b
  |int b=>obtain⟨t,rfl⟩:=rx;exact SeqAt.EqAt.none_int b t
  |str b=>obtain⟨t,rfl⟩:=rx;exact SeqAt.EqAt.none_str b t
  |_=>exact absurd (show false=true from fx) ba
 |bl a=>
  cases ry
  cases x with
  |non=>cases rx;exact SeqAt.EqAt.bool_none a
  |bl b=>cases rx;exact SeqAt.EqAt.bool_bool a b
  |int b=>obtain⟨t,rfl⟩:=rx;exact SeqAt.EqAt.bool_int a b t
  |str b=>obtain⟨t,rfl⟩:=rx;exact SeqAt.EqAt.bool_str a b t
  |_=>exact absurd (show false=true from fx) ba
 |int a=>
  obtain⟨t',rfl⟩:=ry
  cases x with
  |non=>cases rx;exact SeqAt.EqAt.int_none a t'
  |bl b=>cases rx;exact SeqAt.EqAt.int_bool a t' b
  |int b=>obtain⟨t,rfl⟩:=rx;exact SeqAt.EqAt.int_int a t' b t
  |str b=>obtain⟨t,rfl⟩:=rx;exact SeqAt.EqAt.int_str a t' b t
  |_=>exact absurd (show false=true from fx) ba
 |str a=>
  obtain⟨t',rfl⟩:=ry
  cases x with
  |non=>cases rx;exact SeqAt.EqAt.str_none a t'
  |bl b=>cases rx;exact SeqAt.EqAt.str_bool a t' b
  |int b=>obtain⟨t,rfl⟩:=rx;exact SeqAt.EqAt.str_int a t' b t
  |str b=>obtain⟨t,rfl⟩:=rx;exact SeqAt.EqAt.str_str a t' b t
  |_=>exact absurd (show false=true from fx) ba
 |_=>exact absurd (show false=true from fy) ba
def eqU(x:V)(u:Value):Bool:=match u with
 |.none=>eqV .non x
 |.bool b=>eqV (.bl b) x
 |.int i _=>eqV (.int i) x
 |.str z _=>eqV (.str z) x
 |_=>false
theorem a5i{x:V}(r:n0 y u)(f:E9 y=true):eqU x u=eqV y x:=by
 cases y with
 |non=>cases r;rfl
 |bl b=>cases r;rfl
 |int i=>obtain⟨t,rfl⟩:=r;rfl
 |str z=>obtain⟨t,rfl⟩:=r;rfl
 |_=>exact absurd (show false=true from f) ba
theorem a1x{x:V}:∀{xs:List V} {us:List Value},k8 xs us->xs.all E9=true->us.any (eqU x)=xs.any fun y=>eqV y x
 |_,_,.nil,_=>rfl
 |y::xs,u::us,.cons r t,f=>by
  rw[all_cons,ae] at f;rw[any_cons,any_cons,a5i r f.1,a1x t f.2]
theorem Q8{A:Around}{s:Shared}{x:V}{v:Value}(rx:n0 x v)(fx:E9 x=true):∀{xs:List V} {us:List Value},k8 xs us->xs.all E9=true->∀u∈us,SeqAt.EqAt A s u v (eqU x u)
 |_,_,.nil,_=>fun u hu=>by cases hu
 |y::xs,u::us,.cons r t,f=>fun u' hu=>by
  rw[all_cons,ae] at f
  rcases aB.mp hu with rfl|hu
  · rw[a5i r f.1];exact b1F r rx f.1 fx
  · exact Q8 rx fx t f.2 u' hu
def inV(x:V)(xs:List V):Bool:=xs.any fun y=>eqV y x
def rIn(K:PySem.W.Frag)(neg:Bool):R2:=fun x y H Q=>∃p xs,y=.ref p/\(SqL K H p xs∨SqT K H p xs)/\E9 x=true/\xs.all E9=true/\Q (.bl (if neg then !inV x xs else inV x xs)) H
theorem a0t:OpR X (compareOp .In) (rIn X.K false):=by
 intro pins s σ H x y v u Q I rx ry h;obtain⟨p,xs,rfl,hq,fx,fs,q⟩:=h;cases ry
 rcases hq with hq|hq
 · obtain⟨its,r,pl,hz⟩:=I.list hq;refine SeqAt.in_listAt (eqU x) pl.isList (fun w hw=>Q8 rx fx r fs w (by simpa using hw)) ⟨.bl _,H,I,rfl,?_⟩
   rw[show its.toArray.any (eqU x)=its.any (eqU x) by simp,a1x r fs]
   exact q
 · obtain⟨its,r,pl,hz⟩:=I.tuple hq;refine SeqAt.in_tupleAt (eqU x) pl (fun w hw=>Q8 rx fx r fs w (by simpa using hw)) ⟨.bl _,H,I,rfl,?_⟩
   rw[show its.toArray.any (eqU x)=its.any (eqU x) by simp,a1x r fs]
   exact q
theorem O6:OpR X (compareOp .NotIn) (rIn X.K true):=by
 intro pins s σ H x y v u Q I rx ry h;obtain⟨p,xs,rfl,hq,fx,fs,q⟩:=h;cases ry
 rcases hq with hq|hq
 · obtain⟨its,r,pl,hz⟩:=I.list hq;refine SeqAt.notIn_listAt (eqU x) pl.isList (fun w hw=>Q8 rx fx r fs w (by simpa using hw)) ⟨.bl _,H,I,rfl,?_⟩
   rw[show its.toArray.any (eqU x)=its.any (eqU x) by simp,a1x r fs]
   exact q
 · obtain⟨its,r,pl,hz⟩:=I.tuple hq;refine SeqAt.notIn_tupleAt (eqU x) pl (fun w hw=>Q8 rx fx r fs w (by simpa using hw)) ⟨.bl _,H,I,rfl,?_⟩
   rw[show its.toArray.any (eqU x)=its.any (eqU x) by simp,a1x r fs]
   exact q
theorem a4K:OpR X (compareOp .NotIn) (fun x y H Q=>∃i j,x=.str i/\y=.str j/\Q (.bl (!(!(Builtin.Str.occurrences j i 0 j.length 1).isEmpty))) H):=by
 intro pins s σ H x y v u Q I rx ry h;obtain⟨i,j,rfl,rfl,q⟩:=h;obtain⟨t,rfl⟩:=rx;obtain⟨t',rfl⟩:=ry;exact notIn_str ⟨.bl _,H,I,rfl,q⟩
theorem a1w:G8 X (.builtin "len") (fun xs H Q=>∃p ys,xs=[.ref p]/\(SqL X.K H p ys∨SqT X.K H p ys)/\Q (.int ys.length) H):=by
 intro pins s σ H xs us Q I r h;obtain⟨p,ys,rfl,hq,q⟩:=h;obtain⟨u,rfl,rx⟩:=V2 r;cases rx;have hn:=a0S
 rcases hq with hq|hq
 · obtain⟨its,r',pl,hz⟩:=I.list hq;have hlen:=r'.length;exact Calls.call_len_list pl.isList (by simp only[size_toArray]<;>omega) ⟨.int ys.length,H,I.tok _,⟨s.toks+1,by rw[size_toArray,hlen]⟩,q⟩
 · obtain⟨its,r',pl,hz⟩:=I.tuple hq;have hlen:=r'.length;exact len_tuple pl (by simp only[size_toArray]<;>omega) ⟨.int ys.length,H,I.tok _,⟨s.toks+1,by rw[size_toArray,hlen]⟩,q⟩
theorem a5o:G8 X (.builtin "len") (fun xs H Q=>∃z,xs=[.str z]/\z.length<=sizeLine/\Q (.int z.length) H):=by
 intro pins s σ H xs us Q I r h;obtain⟨z,rfl,hz,q⟩:=h;obtain⟨u,rfl,t,rfl⟩:=V2 r;have hn:=a0S;exact len_str (by omega) ⟨.int z.length,H,I.tok _,⟨_,rfl⟩,q⟩
theorem a1v:G8 X (.type "list") (fun xs H Q=>∃p ys,xs=[.ref p]/\(SqL X.K H p ys∨SqT X.K H p ys)/\∀l,H l=none->Q (.ref l) (upd H l (.lst ys))):=by
 intro pins s σ H xs us Q I r h;obtain⟨p,ys,rfl,hq,q⟩:=h;obtain⟨u,rfl,rx⟩:=V2 r;cases rx
 have fin:∀(its:List Value),k8 ys its->ys.length<=sizeLine->∀(h':Heap) (c':Nat),(∀b o',s.heap.get? b=some o'->h'.get? b=some o')→
  h'.get? s.heap.objs.size=some {cls:=.type "list",dict:=none,data:=.seq its.toArray c',slots:= #[]}->EP X pins σ Q (.ref s.heap.objs.size) {s with heap:=h'}:=fun its r' hz h' c' kp e=>
  ⟨.ref s.heap.objs.size,_,I.laid (t':=s.toks) kp (ai _) (show B0 X.prog X.w _ h' _ (.lst ys) from⟨hz,its,c',r',e⟩),rfl,q _ (I.hok.fresh (ai _))⟩
 rcases hq with hq|hq
 · obtain⟨its,r',pl,hz⟩:=I.list hq;have hlen:=r'.length;obtain⟨o,ho,hc,n,hd⟩:=pl.isList;exact call_list_seq p (.inl rfl) ho hc hd (fun h' c' kp e=>fin its r' hz h' c' kp e) (by simp only[size_toArray]<;>omega)
 · obtain⟨its,r',pl,hz⟩:=I.tuple hq;have hlen:=r'.length;obtain⟨o,ho,hc,n,hd⟩:=pl;exact call_list_seq p (.inr rfl) ho hc hd (fun h' c' kp e=>fin its r' hz h' c' kp e) (by simp only[size_toArray]<;>omega)
theorem a0N:G8 X (.type "tuple") (fun xs H Q=>∃p ys,xs=[.ref p]/\((SqL X.K H p ys/\∀l,H l=none->Q (.ref l) (upd H l (.tup ys)))∨(SqT X.K H p ys/\Q (.ref p) H))):=by
 intro pins s σ H xs us Q I r h;obtain⟨p,ys,rfl,h⟩:=h;obtain⟨u,rfl,rx⟩:=V2 r;cases rx
 rcases h with⟨hq,q⟩|⟨hq,q⟩
 · obtain⟨its,r',pl,hz⟩:=I.list hq;have hlen:=r'.length;refine call_tuple_list pl.isList (fun h' kp=>?_) (by simp only[size_toArray]<;>omega)
   have I1:Inv X pins σ H {s with heap:=h'}:=I.kept (t':=s.toks) kp
   have I2:Inv X pins σ (upd H h'.objs.size (.tup ys)) {s with heap:=h'.push {cls:=.type "tuple",data:=.seq its.toArray}}:=
    I1.laid (t':=s.toks) (fun b o e=>Heap.get?_push_of_some _ e) (ai _) (show B0 X.prog X.w _ _ _ (.tup ys) from⟨hz,its,r',a0q.new _ _⟩)
   exact⟨.ref h'.objs.size,_,I2,rfl,q _ (I1.hok.fresh (ai _))⟩
 · obtain⟨its,r',pl,hz⟩:=I.tuple hq;exact call_tuple_same pl ⟨.ref p,H,I,rfl,q⟩
def tyV(K:PySem.W.Frag)(T:String)(x:V)(H:Hp):Prop:=match x with
 |.str _=>T="str"
 |.int _=>T="int"
 |.ref p=>(T="list"/\∃xs,SqL K H p xs)∨(T="tuple"/\∃o,K.lookup p=some o/\o.cls=.type "tuple"/\o.dict=none)∨
  (T="dict"/\((∃kvs,H p=some (.dK kvs))∨∃kvs,H p=some (.dT kvs)))∨(T="set"/\∃S n,H p=some (.set S n))
 |_=>False
theorem a9u{T:String}{x:V}{v:Value}(I:Inv X pins σ H s)(r:n0 x v)(ty:tyV X.K T x H):
 s.TypeIs v T/\∀a,v=.ref a->∃ob,s.heap.get? a=some ob/\ob.dict=none:=by
 cases x with
 |str z=>
  obtain⟨t,rfl⟩:=r
  cases (show T="str" from ty)
  exact⟨typeIs_str s z t,fun _ e=>nomatch e⟩
 |int i=>
  obtain⟨t,rfl⟩:=r
  cases (show T="int" from ty)
  exact⟨typeIs_int s i t,fun _ e=>nomatch e⟩
 |ref p=>
  cases r
  rcases ty with⟨rfl,xs,hq⟩|⟨rfl,o,hk,hc,hd⟩|⟨rfl,hk⟩|⟨rfl,S,n,hk⟩
  · obtain⟨its,_,pl,_⟩:=I.list hq;refine⟨pl.isList.typeIs,fun a e=>?_⟩
    cases e;obtain⟨o,n,e,c,hd,_⟩:=pl;exact⟨o,e,hd⟩
  · refine⟨⟨o,I.kIn p o hk,hc⟩,fun a e=>?_⟩
    cases e;exact⟨o,I.kIn _ o hk,hd⟩
  · have z:∃o,s.heap.get? p=some o/\o.ExactDict:=by
     rcases hk with⟨kvs,hk⟩|⟨kvs,hk⟩
     · obtain⟨_,_,_,_,o,_,_,e,ex,_⟩:=I.hok p _ hk;exact⟨o,e,ex⟩
     · obtain⟨_,_,_,_,o,_,_,e,ex,_⟩:=I.hok p _ hk;exact⟨o,e,ex⟩
    obtain⟨o,e,ex⟩:=z;refine⟨⟨o,e,ex.1⟩,fun a e2=>?_⟩
    cases e2;exact⟨o,e,ex.2.1⟩
  · obtain⟨o,_,_,_,e,ex,_⟩:=I.hok p _ hk;refine⟨⟨o,e,ex.1⟩,fun a e2=>?_⟩
    cases e2;exact⟨o,e,ex.2.1⟩
 |_=>exact False.elim ty
def b9X(K:PySem.W.Frag)(T:String)(r:V->List V->Hp->VK->Prop)(to:TE):TE:=fun σ H Q=>to σ H fun x H1=>tyV K T x H1/\r x [] H1 Q
def tBM(K:PySem.W.Frag)(T:String)(r:V->List V->Hp->VK->Prop)(to:TE)(t:TA):TE:=fun σ H Q=>to σ H fun x H1=>tyV K T x H1/\t σ H1 fun xs H2=>r x xs H2 Q
variable{o e:Expr}{es:List Expr}{to:TE}{t:TA}{name:Str}{apos cpos:Pos}{T:String}{r:V->List V->Hp->VK->Prop}
theorem b5p(pa:PlainAttrs T)(slot:Slot T name id)(hty:typeOf (.builtin id)=pure (.type "method_descriptor"))(hm:MtR X id r)(ho:PE X o to)
 (hbase:attributeBase o name X.env (eval o X.env)=eval o X.env:=by rfl) (hline:(apos.endLine==cpos.line)=true:=by rfl):PE X (.Call (.Attribute o name apos) [] [] cpos) (b9X X.K T r to):=by
 intro pins s σ H Q I h;refine wpAny_Call_method0_late hbase hline (thn (ho pins s σ H _ I h) fun v s1 ⟨x,H1,I1,r1,ty,q1⟩=>?_)
 obtain⟨h1,h2⟩:=a9u I1 r1 ty;exact⟨T,id,pa,slot,hty,h1,h2,Calls.callWith_builtin rfl (PySem.evalArgs_none (hm pins s1 σ H1 x [] v [] Q I1 r1 .nil q1))⟩
theorem a2K(pa:PlainAttrs T)(slot:Slot T name id)(hty:typeOf (.builtin id)=pure (.type "method_descriptor"))(hm:MtR X id r)(ho:PE X o to)(ha:PA X (e::es) t)
 (hbase:attributeBase o name X.env (eval o X.env)=eval o X.env:=by rfl)
 (hfew:((backTo cpos (starEach (e::es) X.env)).all (fun x=>!x.1)&&(backToKw cpos (keywordEach [] X.env)).all (fun x=>x.1.isSome)
  &&decide ((e::es).length+([]:List Keyword).length+(if([]:List Keyword).isEmpty then 0 else 1)<30))=true:=by rfl)
 (hline:(apos.endLine==cpos.line)=true:=by rfl) (hs:starEach (e::es) X.env=(false,eval e X.env)::starEach es X.env:=by rfl) (hplain:(backTo cpos (starEach es X.env)).any (·.1)=false:=by rfl):
 PE X (.Call (.Attribute o name apos) (e::es) [] cpos) (tBM X.K T r to t):=by
 intro pins s σ H Q I h;refine wpAny_Call_method_late hbase hfew hline rfl (thn (ho pins s σ H _ I h) fun v s1 ⟨x,H1,I1,r1,ty,q1⟩=>?_)
 obtain⟨h1,h2⟩:=a9u I1 r1 ty;refine⟨T,id,pa,slot,hty,h1,h2,?_⟩
 have hA:=ha cpos pins s1 σ H1 _ I1 q1;rw[hs] at hA⊢;refine Calls.callWith_builtin (by show(false||(backTo cpos (starEach es X.env)).any (·.1))=false;rw[hplain]<;>rfl) (Calls.evalArgs_plain ?_)
 exact thn hA fun us s2 ⟨vs,H2,I2,r2,q2⟩=>hm pins s2 σ H2 x vs v us Q I2 r1 r2 q2
end
def MtM(X:Cx)(id:String)(r:V->List V->Hp->VK->Prop):Prop:=
 ∀(pins:List (Addr×Obj)) (s:Shared) (σ:St) (H:Hp) (x:V) (xs:List V) (v:Value) (us:List Value) (Q:VK),Inv X pins σ H s->n0 x v->k8 xs us->r x xs H Q→
  wpAny (model X.prog X.w) X.A (call (.builtin id) (v::us)) (EP X pins σ Q) X.xe s
theorem k8.one:∀{x:V} {us:List Value},k8 [x] us->∃u,us=[u]/\n0 x u
 |_,_,.cons r .nil=>⟨_,rfl,r⟩
theorem k8.zero:∀{us:List Value},k8 [] us->us=[]
 |_,.nil=>rfl
theorem k8.reverse{xs:List V}(h:k8 xs us):k8 xs.reverse us.reverse:=by
 induction h with
 |nil=>exact .nil
 |cons r t ih=>rw[reverse_cons,reverse_cons];exact k8.append ih (.cons r .nil)
theorem k8.rep{xs:List V}{us:List Value}(h:k8 xs us):∀k:Nat,k8 (List.replicate k xs).flatten (List.replicate k us).flatten
 |0=>.nil
 |k+1=>by
  rw[replicate_succ,replicate_succ,flatten_cons,flatten_cons];exact k8.append h (k8.rep h k)
theorem a3Z(its:List Value):∀(k:Nat) (acc:List Value),
 List.foldl (fun x1 x2=>x1++x2) acc.toArray (List.replicate k its.toArray)=(acc++(List.replicate k its).flatten).toArray
 |0,acc=>by simp
 | k+1,acc=>by
  have e:acc.toArray++its.toArray=(acc++its).toArray:=by simp
  have e2:(acc++its)++(List.replicate k its).flatten=acc++(List.replicate (k+1) its).flatten:=by
   rw[replicate_succ,flatten_cons,ax]
  rw[←e2,←a3Z its k (acc++its),←e,replicate_succ,foldl_cons]
section
variable{X:Cx}{l b:Addr}{xs zs:List V}
theorem Inv.lset{f:Array Value->Array Value}{t':Nat}(I:Inv X pins σ H s)(hH:H l=some (.lst xs))
 (e:s.heap.get? l=some {cls:=.type "list",data:=.seq its.toArray n}) (hf:f its.toArray=its'.toArray) (hv:k8 ys its') (hz:ys.length<=sizeLine):
 Inv X pins σ (upd H l (.lst ys)) {s with heap:=s.heap.update l (Obj.mapSeq f),toks:=t'}:=by
 have q:=PySem.IsL.update e f;rw[hf] at q;refine I.write (x:=l) (e:=l) (by rw[hH];exact trivial) (.inl rfl) (fun b' u hb hu=>(Heap.get?_update_other s.heap (Obj.mapSeq f) (Ne.symm hb)).trans hu) ⟨_,q⟩ ?_
 exact⟨hz,its',_,hv,q⟩
theorem Inv.lnew{t':Nat}(I:Inv X pins σ H s)(hv:k8 ys its)(hz:ys.length<=sizeLine):
 Inv X pins σ (upd H s.heap.objs.size (.lst ys)) {s with heap:=s.heap.push {cls:=.type "list",data:=.seq its.toArray},toks:=t'}:=
 I.laid (fun _ _ q=>Heap.get?_push_of_some _ q) (ai _) ⟨hz,its,0,hv,Heap.get?_push_size _ rfl⟩
theorem Inv.fresh(I:Inv X pins σ H s):H s.heap.objs.size=none:=I.hok.fresh (ai _)
theorem Inv.lstM(I:Inv X pins σ H s)(hH:H l=some (.lst xs)):xs.length<=sizeLine/\∃(its:List Value) (n:Nat),k8 xs its/\xs.length=its.length/\s.heap.get? l=some {cls:=.type "list",data:=.seq its.toArray n}:=by
 obtain⟨z,its,n,r,e⟩:=I.hok l _ hH;exact⟨z,its,n,r,r.length,e⟩
theorem a5T(h:n<=sizeLine):Builtin.List.listTooLong n=false:=by
 unfold Builtin.List.listTooLong;exact bf (by omega)
end
section
variable{X:Cx}
def b2B:V->List V->Hp->VK->Prop:=fun x vs H Q=>∃l xs y,x=.ref l/\vs=[y]/\H l=some (.lst xs)/\xs.length<sizeLine/\Q .non (upd H l (.lst (xs++[y])))
theorem a3T:MtM X "list.append" b2B:=by
 intro pins s σ H x vs v us Q I rx rv h;obtain⟨l,xs,y,rfl,rfl,hH,hz,q⟩:=h;cases rx;obtain⟨u,rfl,ru⟩:=rv.one;obtain⟨z,its,n,r,hl,e⟩:=I.lstM hH;refine call_meets F.slot_list_append ⟨_,e,rfl⟩ F.entry_list_append (F.args_list_append_2 _ _) (PySem.list_append l its.toArray n u (by rw[size_toArray];omega)) ⟨e,?_⟩
 refine⟨.non,_,I.lset (its':=its++[u]) hH e (by simp) (r.append (.cons ru .nil)) ?_,rfl,q⟩
 rw[am,List.length_singleton];omega
def b2A:V->List V->Hp->VK->Prop:=fun x vs H Q=>∃l b xs zs,x=.ref l/\vs=[.ref b]/\H l=some (.lst xs)/\H b=some (.lst zs)/\xs.length+zs.length<=sizeLine/\Q .non (upd H l (.lst (xs++zs)))
theorem a8T:MtM X "list.extend" b2A:=by
 intro pins s σ H x vs v us Q I rx rv h;obtain⟨l,b,xs,zs,rfl,rfl,hH,hB,hz,q⟩:=h;cases rx;obtain⟨u,rfl,ru⟩:=rv.one;cases ru;obtain⟨z,its,n,r,hl,e⟩:=I.lstM hH;obtain⟨z2,its2,n2,r2,hl2,e2⟩:=I.lstM hB
 have hsz:its.toArray.size+its2.toArray.size<=sizeLine:=by rw[size_toArray,size_toArray];omega
 have hlong:¬(!its.toArray.isEmpty&&Builtin.List.listTooLong (its.toArray.size+its2.toArray.size))=true:=by
  rw[a5T hsz,Bool.and_false];exact ba
 refine call_meets F.slot_list_extend ⟨_,e,rfl⟩ F.entry_list_extend (F.args_list_extend_2 _ _)
  (AutoSeq1.list_extend_list_list_0 l its.toArray n b its2.toArray n2 hlong (by rw[size_toArray];omega) (by omega)) ⟨e,e2,?_⟩
 refine⟨.non,_,I.lset (its':=its++its2) hH e (by simp) (r.append r2) ?_,rfl,q⟩
 rw[am];omega
def b0c:V->List V->Hp->VK->Prop:=fun x vs H Q=>∃l xs,x=.ref l/\vs=[]/\H l=some (.lst xs)/\Q .non (upd H l (.lst xs.reverse))
theorem a6U:MtM X "list.reverse" b0c:=by
 intro pins s σ H x vs v us Q I rx rv h;obtain⟨l,xs,rfl,rfl,hH,q⟩:=h;cases rx;have hus:=rv.zero;subst hus;obtain⟨z,its,n,r,hl,e⟩:=I.lstM hH;refine call_meets F.slot_list_reverse ⟨_,e,rfl⟩ F.entry_list_reverse (F.args_list_reverse_1 _) (AutoSeq1.list_reverse_list_0 l its.toArray n (by rw[size_toArray];omega)) ⟨e,?_⟩
 refine⟨.non,_,I.lset (its':=its.reverse) hH e (by simp) r.reverse ?_,rfl,q⟩
 rw[length_reverse];omega
def c0k:R2:=fun x y H Q=>∃l b xs zs,x=.ref l/\y=.ref b/\H l=some (.lst xs)/\H b=some (.lst zs)/\xs.length+zs.length<=sizeLine/\∀p,H p=none->Q (.ref p) (upd H p (.lst (xs++zs)))
theorem b5y:OpR X (binaryOp .Add) c0k:=by
 intro pins s σ H x y v u Q I rx ry h;obtain⟨l,b,xs,zs,rfl,rfl,hH,hB,hz,q⟩:=h;cases rx;cases ry;obtain⟨z,its,n,r,hl,e⟩:=I.lstM hH;obtain⟨z2,its2,n2,r2,hl2,e2⟩:=I.lstM hB;refine PySem.P.add_list e e2 ?_ (by rw[size_toArray,size_toArray];omega)
 have ea:its.toArray++its2.toArray=(its++its2).toArray:=by simp
 rw[ea];exact⟨.ref _,_,I.lnew (t':=s.toks) (r.append r2) (by rw[am];omega),rfl,q _ I.fresh⟩
def c0f:R2:=fun x y H Q=>∃l k xs,x=.ref l/\y=.int k/\H l=some (.lst xs)/\ -(2^63)<=k/\k<2^63/\xs.length*k.toNat<=sizeLine∧
 ∀p,H p=none->Q (.ref p) (upd H p (.lst (List.replicate k.toNat xs).flatten))
theorem b3g(xs:List α)(k:Nat):(List.replicate k xs).flatten.length=k*xs.length:=by
 induction k with
 |zero=>simp
 |succ k ih=>rw[replicate_succ,flatten_cons,am,ih,Nat.succ_mul,Nat.add_comm]
theorem b5s:OpR X (binaryOp .Mult) c0f:=by
 intro pins s σ H x y v u Q I rx ry h;obtain⟨l,k,xs,rfl,rfl,hH,h1,h2,hz,q⟩:=h;cases rx;obtain⟨t,rfl⟩:=ry;obtain⟨z,its,n,r,hl,e⟩:=I.lstM hH
 have hlen:its.toArray.size*k.toNat<=sizeLine:=by rw[size_toArray,←hl];exact hz
 have hcap:¬its.toArray.size*k.toNat>(2^63-1)/8:=by
  have:(sizeLine:Nat)<=(2^63-1)/8:=by decide
  omega
 have hfit:¬(!Builtin.List.listFitsIndex k)=true:=by
  rw[fitsIndex_both h1 h2];exact ba
 have hlong:¬Builtin.List.listTooLong (its.toArray.size*k.toNat)=true:=by
  rw[a5T hlen];exact ba
 have hnew:List.foldl (fun x1 x2=>x1++x2) #[] (List.replicate (if its.toArray.isEmpty=true then 0 else k.toNat) its.toArray)=(List.replicate k.toNat its).flatten.toArray:=by
  have f0:∀m:Nat,List.foldl (fun x1 x2=>x1++x2) #[] (List.replicate m its.toArray)=(List.replicate m its).flatten.toArray:=fun m=>by
   have:=a3Z its m []
   rw[nil_append] at this;exact this
  rw[f0]
  cases its with
  |nil=>simp
  |cons a r'=>rw[aw (by simp)]
 refine wpAny_binaryOp_repeat_ref (T:="list") (U:="int") (by decide) ⟨_,e,rfl⟩ (fun s'=>typeIs_int s' k t) noFill_list_mul F.fills_int_mul F.slot_int_rmul repeat_list F.slot_int_index.lookup
  (call_meets F.slot_int_rmul (typeIs_int s k t) F.entry_int_rmul (F.args_int_rmul_2 _ _) (int___rmul___int_list k t l its.toArray n)
   ⟨e,rfl,⟨_,e,rfl⟩,call_meets F.slot_list_mul ⟨_,e,rfl⟩ F.entry_list_mul (F.args_list_mul_2 _ _) (AutoListH.list___mul___list_int_3 l its.toArray n k t hfit hcap hlong) ⟨e,?_⟩⟩)
 rw[hnew];exact⟨.ref _,_,I.lnew (t':=s.toks) (r.rep k.toNat) (by rw[b3g,Nat.mul_comm];exact hz),rfl,q _ I.fresh⟩
end
variable{b:Addr}{sl:Addr}{vl:Value}{vu:Value}
section
variable{κ:Type}[DecidableEq κ]
noncomputable def V3(kvs:List (κ×V))(k:κ):Option V:=(kvs.find? fun kv=>decide (kv.1=k)).map (·.2)
noncomputable def N9(kvs:List (κ×V))(k:κ)(v:V):List (κ×V):=
 if(kvs.any fun kv=>decide (kv.1=k))=true then kvs.map (fun kv=>if kv.1=k then(kv.1,v) else kv) else kvs++[(k,v)]
theorem Y7{p:κ×V}{r:List (κ×V)}{k:κ}(e:p.1=k):V3 (p::r) k=some p.2:=by simp[V3,List.find?_cons,e]
theorem Y8{p:κ×V}{r:List (κ×V)}{k:κ}(e:¬p.1=k):V3 (p::r) k=V3 r k:=by simp[V3,List.find?_cons,e]
theorem a5C(k:κ):∀kvs:List (κ×V),(kvs.any fun kv=>decide (kv.1=k))=(V3 kvs k).isSome
 |[]=>rfl
 |p::r=>by
  rw[any_cons]
  by_cases e:p.1=k
  · simp only[Y7 e,aR e,Bool.true_or,Option.isSome_some]
  · rw[Y8 e,bf e,Bool.false_or];exact a5C k r
theorem Z6(kvs:List (κ×V))(k:κ)(v:V):(N9 kvs k v).length<=kvs.length+1:=by
 unfold N9
 split
 · rw[aa];omega
 · rw[am,length_cons,length_nil];omega
theorem a0G.isSome_eq{o:Option V}{u:Option Value}(r:a0G o u):o.isSome=u.isSome:=by
 cases o with
 |none=>cases u with
  |none=>rfl
  |some _=>exact(show False from r).elim
 |some _=>cases u with
  |none=>exact(show False from r).elim
  |some _=>rfl
theorem a0G.getD{o:Option V}{u:Option Value}{d:V}{d':Value}(r:a0G o u)(rd:n0 d d'):n0 (o.getD d) (u.getD d'):=by
 cases o with
 |none=>cases u with
  |none=>exact rd
  |some _=>exact(show False from r).elim
 |some _=>cases u with
  |none=>exact(show False from r).elim
  |some _=>exact r
theorem KV.val{kvs:List (κ×V)}{vs:List (κ×Value)}(r:KV kvs vs)(k:κ):a0G (V3 kvs k) (valueAt vs k):=by
 unfold KV at r
 induction r with
 |nil=>exact True.intro
 | @cons p q ps qs h t ih=>
  obtain⟨h1,h2⟩:=h
  by_cases e:p.1=k
  · have e':q.1=k:=h1.symm.trans e
    have b:valueAt (q::qs) k=some q.2:=by simp[valueAt,List.find?_cons,e']
    rw[Y7 e,b];exact h2
  · have e':¬q.1=k:=fun z=>e (h1.trans z)
    have b:valueAt (q::qs) k=valueAt qs k:=by simp[valueAt,List.find?_cons,e']
    rw[Y8 e,b];exact ih
theorem KV.any{kvs:List (κ×V)}{vs:List (κ×Value)}(r:KV kvs vs)(k:κ):(kvs.any fun kv=>decide (kv.1=k))=vs.any fun kv=>decide (kv.1=k):=by
 unfold KV at r
 induction r with
 |nil=>rfl
 |cons h t ih=>rw[any_cons,any_cons,ih,h.1]
theorem KV.repl{kvs:List (κ×V)}{vs:List (κ×Value)}(r:KV kvs vs)(k:κ)(ry:n0 y u):
 KV (kvs.map fun kv=>if kv.1=k then(kv.1,y) else kv) (vs.map fun kv=>if kv.1=k then(kv.1,u) else kv):=by
 unfold KV at r⊢
 induction r with
 |nil=>exact .nil
 | @cons p q ps qs h t ih=>
  rw[map_cons,map_cons];refine .cons ?_ ih
  obtain⟨h1,h2⟩:=h
  by_cases e:p.1=k
  · rw[av e,av (h1.symm.trans e)];exact⟨h1,ry⟩
  · rw[aw e,aw (fun z=>e (h1.trans z))];exact⟨h1,h2⟩
theorem KV.put{kvs:List (κ×V)}{vs:List (κ×Value)}(r:KV kvs vs)(k:κ)(ry:n0 y u):KV (N9 kvs k y) (stored vs k u):=by
 unfold N9 stored;rw[r.any k]
 by_cases e:(vs.any fun kv=>decide (kv.1=k))=true
 · rw[av e,av e];exact r.repl k ry
 · rw[aw e,aw e];exact Paired.snoc r ⟨rfl,ry⟩
theorem KV.length{kvs:List (κ×V)}{vs:List (κ×Value)}(r:KV kvs vs):kvs.length=vs.length:=Paired.length r
end
variable{P:Program}{w:World}
theorem Z9{k:Key}(r:n0 (kV k) u):(u6 P w).is k u=true:=by
 cases k with
 |inl i=>obtain⟨t,e⟩:=(show∃t,u=Value.int i t from r);subst e;exact a5X P w i t
 |inr x=>obtain⟨t,e⟩:=(show∃t,u=Value.str x t from r);subst e;exact a5W P w x t
theorem a3Y{P:Program}{w:World}:∀{ks:List Key} {us:List Value},k8 (ks.map kV) us->ItemsAre (u6 P w) ks us
 |[],_,r=>by rw[map_nil] at r;cases r;exact .nil
 |k::ks,_,r=>by
  rw[map_cons] at r
  cases r with
  |cons h t=>exact .cons (Z9 h) (a3Y t)
abbrev KT(H:Hp):List (List Key×V)->List (List Key×Addr×Value)->Prop:=Paired fun p q=>p.1=q.1/\H q.2.1=some (.tup (p.1.map kV))/\n0 p.2 q.2.2
variable{kvs:List (List Key×V)}{xs:List (List Key×Addr×Value)}
theorem KT.val(r:KT H kvs xs)(k:List Key):a0G (V3 kvs k) ((atKey xs k).map (·.2)):=by
 induction r with
 |nil=>exact True.intro
 | @cons p q ps qs h t ih=>
  obtain⟨h1,_,h2⟩:=h
  by_cases e:p.1=k
  · have e':q.1=k:=h1.symm.trans e
    have b:atKey (q::qs) k=some q.2:=by simp[atKey,List.find?_cons,e']
    rw[Y7 e,b];exact h2
  · have e':¬q.1=k:=fun z=>e (h1.trans z)
    have b:atKey (q::qs) k=atKey qs k:=by simp[atKey,List.find?_cons,e']
    rw[Y8 e,b];exact ih
theorem KT.repl(r:KT H kvs xs)(k:List Key)(ry:n0 y u):
 KT H (kvs.map fun kv=>if kv.1=k then(kv.1,y) else kv) (xs.map (putAt k u)):=by
 induction r with
 |nil=>exact .nil
 | @cons p q ps qs h t ih=>
  rw[map_cons,map_cons];refine .cons ?_ ih
  obtain⟨h1,h2,h3⟩:=h;unfold putAt
  by_cases e:p.1=k
  · rw[av e,av (h1.symm.trans e)];exact⟨h1,h2,ry⟩
  · rw[aw e,aw (fun z=>e (h1.trans z))];exact⟨h1,h2,h3⟩
theorem KT.put(r:KT H kvs xs)(k:List Key)(hb:H b=some (.tup (k.map kV)))(ry:n0 y u):
 KT H (N9 kvs k y) (storedH xs k b u):=by
 have e:(kvs.any fun kv=>decide (kv.1=k))=(atKey xs k).isSome:=by
  rw[a5C,(r.val k).isSome_eq,Option.isSome_map]
 unfold N9 storedH;rw[e]
 by_cases q:(atKey xs k).isSome=true
 · rw[av q,av q];exact r.repl k ry
 · rw[aw q,aw q];exact Paired.snoc r ⟨rfl,hb,ry⟩
variable{H':Hp}
theorem KT.keeps(r:KT H kvs xs)(ht:∀b ys,H b=some (.tup ys)->H' b=some (.tup ys)):KT H' kvs xs:=
 Paired.mapP r fun _ _ z=>⟨z.1,ht _ _ z.2.1,z.2.2⟩
section
variable{h:Heap}{a:Addr}
theorem b4l{u:HO}(ok:HOk P w H h)(e:Rd H a u):B0 P w H h a u:=e.ok ok
theorem a1W{kvs:List (Key×V)}(ok:HOk P w H h)(e:Rd H a (.dK kvs)):kvs.length<=sizeLine/\(a==sysModules)=false/\∃vs,KV kvs vs/\h.DictOf (u6 P w) a vs:=
 show B0 P w H h a (.dK kvs) from b4l ok e
theorem b4r{kvs:List (Key×V)}(ok:HOk P w H h)(e:H a=some (.dK kvs)):kvs.length<=sizeLine/\(a==sysModules)=false/\∃vs,KV kvs vs/\h.DictOf (u6 P w) a vs:=a1W ok (.inl e)
theorem a1I{ks:List Key}(ok:HOk P w H h)(e:H a=some (.tup (ks.map kV))):(tupleKind (u6 P w)).is h ks a:=by
 obtain⟨_,its,r,o,h1,h2,_,n,h3⟩:=(show B0 P w H h a (.tup (ks.map kV)) from ok a _ e);exact⟨o,its.toArray,n,h1,h2,h3,by simpa using a3Y r⟩
theorem a3g(ok:HOk P w H h)(e:Rd H a (.dT kvs)):kvs.length<=sizeLine/\(a==sysModules)=false∧
 ∃xs,KT H kvs xs/\h.DictOfH (tupleKind (u6 P w)) a xs:=by
 obtain⟨z,y,xs,r,o,es,ep,h1,h2,h3,h4,h5⟩:=(show B0 P w H h a (.dT kvs) from b4l ok e);refine⟨z,y,xs,r,o,es,ep,h1,h2,h3,h4,fun x hx=>?_,h5⟩
 have all:∀{l:List (List Key×V)} {m:List (List Key×Addr×Value)},KT H l m->∀x∈m,(tupleKind (u6 P w)).is h x.1 x.2.1:=by
  intro l m q
  induction q with
  |nil=>intro x hx;exact nomatch hx
  | @cons p q ps qs hq t ih=>
   intro x hx
   rcases aB.mp hx with e|hx
   · subst e;exact a1I ok (by rw[←hq.1];exact hq.2.1)
   · exact ih x hx
 exact all r x hx
theorem b8S(ok:HOk P w H h)(e:H a=some (.dT kvs)):kvs.length<=sizeLine/\(a==sysModules)=false∧
 ∃xs,KT H kvs xs/\h.DictOfH (tupleKind (u6 P w)) a xs:=a3g ok (.inl e)
end
def a7u(H:Hp)(a:Addr)(y:V)(r:Option V):Prop:=
 (∃kvs k,Rd H a (.dK kvs)/\y=kV k/\r=V3 kvs k)∨∃kvs k b,Rd H a (.dT kvs)/\y=.ref b/\H b=some (.tup (k.map kV))/\r=V3 kvs k
def c1n(H:Hp)(a:Addr)(y v:V)(H':Hp):Prop:=
 (∃kvs k,H a=some (.dK kvs)/\y=kV k/\kvs.length<sizeLine/\H'=upd H a (.dK (N9 kvs k v)))∨
 ∃kvs k b,H a=some (.dT kvs)/\y=.ref b/\H b=some (.tup (k.map kV))/\kvs.length<sizeLine/\H'=upd H a (.dT (N9 kvs k v))
variable{a:Addr}{v:V}{Q:Value->Shared->Prop}{h':Heap}
section
variable{X:Cx}{r:Value}{o:Option V}{E:Value->Shared->Prop}
theorem Inv.big(I:Inv X pins σ H s):sysModules<s.heap.objs.size:=by
 have h:mainGlobals<s.heap.objs.size:=(I.mod.glob.keeps I.bk).lt
 exact Nat.lt_trans (by decide) h
theorem a9k(hu:A.units+1<cLine)(I:Inv X pins σ H s)(g:a7u H a y (some v))(ry:n0 y u)(h:∀w' s',Inv X pins σ H s'->n0 v w'->Q w' s'):
 wpAny (model X.prog X.w) A (getItem (.ref a) u) Q E s:=by
 rcases g with⟨kvs,k,e,ey,l⟩|⟨kvs,k,b,e,ey,eb,l⟩
 · subst ey;obtain⟨z,hd,vs,rel,dd⟩:=a1W I.hok e;obtain⟨w',hw,rw'⟩:=a0G.some_of (v:=v) (o:=valueAt vs k) (by rw[l];exact rel.val k)
   exact wpAny_getItem_of (Z9 ry) dd.mapOf hw (h w' _ (I.tok _) rw')
 · subst ey
   cases (show u=Value.ref b from ry)
   obtain⟨z,hd,xs,rel,dd⟩:=a3g I.hok e;obtain⟨w',hw,rw'⟩:=a0G.some_of (v:=v) (o:=(atKey xs k).map (·.2)) (by rw[l];exact rel.val k)
   obtain⟨p,hp,hp2⟩:=Option.map_eq_some_iff.mp hw;refine wpAny_getItem_heap (tupleKind_room_in1 hu) (a1I I.hok eb) dd hp ?_
   rw[hp2];exact h w' _ (I.tok _) rw'
theorem c0D(hu:A.units+1<cLine)(I:Inv X pins σ H s)(g:a7u H a y o)(ry:n0 y u)(h:∀s',Inv X pins σ H s'->Q (.bool o.isSome) s'):
 wpAny (model X.prog X.w) A (compareOp .In u (.ref a)) Q E s:=by
 rcases g with⟨kvs,k,e,ey,l⟩|⟨kvs,k,b,e,ey,eb,l⟩
 · subst ey;obtain⟨z,hd,vs,rel,dd⟩:=a1W I.hok e;refine wpAny_in_of (Z9 ry) hd dd.mapOf ?_
   rw[←(rel.val k).isSome_eq,←l];exact h _ (I.tok _)
 · subst ey
   cases (show u=Value.ref b from ry)
   obtain⟨z,hd,xs,rel,dd⟩:=a3g I.hok e;refine wpAny_in_heap (tupleKind_room_in1 hu) (a1I I.hok eb) hd dd ?_
   have q:=(rel.val k).isSome_eq;rw[Option.isSome_map] at q;rw[←q,←l];exact h _ (I.tok _)
theorem b3S(hu:A.units+1<cLine)(I:Inv X pins σ H s)(g:a7u H a y o)(ry:n0 y u)(h:∀s',Inv X pins σ H s'->Q (.bool (!o.isSome)) s'):
 wpAny (model X.prog X.w) A (compareOp .NotIn u (.ref a)) Q E s:=by
 rcases g with⟨kvs,k,e,ey,l⟩|⟨kvs,k,b,e,ey,eb,l⟩
 · subst ey;obtain⟨z,hd,vs,rel,dd⟩:=a1W I.hok e;refine wpAny_notIn_of (Z9 ry) hd dd.mapOf ?_
   rw[←(rel.val k).isSome_eq,←l];exact h _ (I.tok _)
 · subst ey
   cases (show u=Value.ref b from ry)
   obtain⟨z,hd,xs,rel,dd⟩:=a3g I.hok e;refine wpAny_notIn_heap (tupleKind_room_in1 hu) (a1I I.hok eb) hd dd ?_
   have q:=(rel.val k).isSome_eq;rw[Option.isSome_map] at q;rw[←q,←l];exact h _ (I.tok _)
theorem a5j{t':Nat}{ob:HO}(I:Inv X pins σ H s)(mu:Mut (H a))(hs:Heap.SameBut a s.heap h')(he:∃q,h'.get? a=some q)(new:B0 X.prog X.w (upd H a ob) h' a ob):
 Inv X pins σ (upd H a ob) {s with heap:=h',toks:=t'}:=
 I.write (x:=a) (e:=a) mu (.inl rfl) (fun b q hb z=>(hs.2 b hb).trans z) he new
theorem a7l{kvs:List (Key×V)}{vs:List (Key×Value)}(z:kvs.length<=sizeLine)(hd:(a==sysModules)=false)(rel:KV kvs vs)(dd:h'.DictOf (u6 P w) a vs):
 B0 P w H' h' a (.dK kvs):=⟨z,hd,vs,rel,dd⟩
theorem a4g{Q:Unit->Shared->Prop}(hu:A.units+1<cLine)(I:Inv X pins σ H s)(g:c1n H a y v H')(ry:n0 y u)(rv:n0 v r)(h:∀s',Inv X pins σ H' s'->Q () s'):
 wpAny (model X.prog X.w) A (setItem (.ref a) u r) Q E s:=by
 rcases g with⟨kvs,k,e,ey,l,eH⟩|⟨kvs,k,b,e,ey,eb,l,eH⟩
 · subst ey eH;obtain⟨z,hd,vs,rel,dd⟩:=b4r I.hok e
   have hz:vs.length<=sizeLine:=by rw[←rel.length];exact z
   have hl:(N9 kvs k v).length<=sizeLine:=by have:=Z6 kvs k v;omega
   refine wpAny_setItem_pairs (hsz:=hz) (Z9 ry) dd fun h' dd' hs=>h _ ?_
   have he:∃q,h'.get? a=some q:=let⟨q,_,_,hq,_⟩:=dd';⟨q,hq⟩
   exact a5j I (by rw[e];exact True.intro) hs he (a7l hl hd (rel.put k rv) dd')
 · subst ey eH
   cases (show u=Value.ref b from ry)
   obtain⟨z,hd,xs,rel,dd⟩:=b8S I.hok e
   have hz:xs.length<=sizeLine:=by rw[←Paired.length rel];exact z
   have hl:(N9 kvs k v).length<=sizeLine:=by have:=Z6 kvs k v;omega
   refine wpAny_setItem_heap (hsz:=hz) (tupleKind_room_in1 hu) (a1I I.hok eb) dd fun h' dd' hs=>h _ ?_
   obtain⟨q,es,ep,hq,h2,h3,h4,_,h5⟩:=dd';refine a5j I (by rw[e];exact True.intro) hs ⟨q,hq⟩ ⟨hl,hd,_,(rel.put k eb rv).keeps fun c ys ec=>?_,q,es,ep,hq,h2,h3,h4,h5⟩
   rw[l8 (b8b ec e (fun z=>nomatch z))]
   exact ec
end
section
variable{X:Cx}{kvs:List (Key×V)}{k:Key}{E:Value->Shared->Prop}
theorem b8U(I:Inv X pins σ H s)(e:Rd H a (.dK kvs))(h:∀t s',Inv X pins σ H s'->Q (.int kvs.length t) s'):wpAny (model X.prog X.w) A (call (.builtin "len") [.ref a]) Q E s:=by
 obtain⟨z,hd,vs,rel,dd⟩:=a1W I.hok e;refine call_len_dict hd dd (by rw[←rel.length];rw[sizeLine_eq] at z;omega) ?_
 rw[←rel.length];exact h _ _ (I.tok _)
end
variable{prog:Program}{env:Env}{pos:Pos}{X:Cx}
theorem a6o{o:Option V}(I:Inv X pins σ H s)(g:a7u H a y o):s.TypeIs (.ref a) "dict":=by
 rcases g with⟨kvs,k,e,_,_⟩|⟨kvs,k,b,e,_,_,_⟩
 · obtain⟨_,_,vs,_,dd⟩:=a1W I.hok e;exact dd.typeIs
 · obtain⟨_,_,xs,_,dd⟩:=a3g I.hok e;exact dd.typeIs
theorem a6n(h:Heap)(hb:sysModules<h.objs.size):B0 P w H (h.push {cls:=.type "dict",data:=.dict #[]}) h.objs.size (.dK []):=
 ⟨Nat.zero_le _,beq_eq_false_iff_ne.mpr (Ne.symm (Nat.ne_of_lt hb)),[],.nil,Heap.DictOf.new h⟩
def b4C:TE:=fun _ H Q=>∀p,H p=none->Q (.ref p) (upd H p (.dK []))
section
theorem b0v:PE X (.Dict [] [] pos) b4C:=fun pins s σ H Q I h=>
 wpAny_Dict_empty ⟨.ref s.heap.objs.size,_,I.laid (a:=s.heap.objs.size) (o:=.dK []) (t':=s.toks) (fun _ _ q=>Heap.get?_push_of_some _ q) (ai _) (a6n s.heap I.big),rfl,h _ (I.hok.fresh (ai _))⟩
end
def a4s:List (TE×TE)->St->Hp->(List (V×V)->Hp->Prop)->Prop
 |[],_,H,Q=>Q [] H
 |(tk,tv)::r,σ,H,Q=>tk σ H fun x H1=>tv σ H1 fun y H2=>a4s r σ H2 fun ps H3=>Q ((x,y)::ps) H3
abbrev VV:List (V×V)->List (Value×Value)->Prop:=Paired fun p q=>n0 p.1 q.1/\n0 p.2 q.2
def PPs(X:Cx)(pos:Pos)(keys:List (Option Expr))(values:List Expr)(trs:List (TE×TE)):Prop:=
 ∀(pins:List (Addr×Obj)) (s:Shared) (σ:St) (H:Hp) (Q:List (V×V)->Hp->Prop),Inv X pins σ H s->a4s trs σ H Q→
  wpAny (model X.prog X.w) X.A (evalPairs (pairTrees keys values X.env pos)) (fun vs s'=>∃ps H',Inv X pins σ H' s'/\VV ps vs/\Q ps H') X.xe s
theorem b2G:PPs X pos [] [] []:=fun pins s σ H Q I h=>pairTrees_nil_walk ⟨[],H,I,.nil,h⟩
variable{trs:List (TE×TE)}
theorem b0o{k v:Expr}{ks:List (Option Expr)}{vs:List Expr}{tk tv:TE}(hk:PE X k tk)(hv:PE X v tv)(hr:PPs X pos ks vs trs):
 PPs X pos (some k::ks) (v::vs) ((tk,tv)::trs):=fun pins s σ H Q I h=>
 pairTrees_cons_walk (thn (hk pins s σ H _ I h) fun u s1 ⟨x,H1,I1,rx,q1⟩=>thn (hv pins s1 σ H1 _ I1 q1) fun w2 s2 ⟨y,H2,I2,ry,q2⟩=>
  thn (hr pins s2 σ H2 _ I2 q2) fun ws s3 ⟨ps,H3,I3,rel,q3⟩=>⟨(x,y)::ps,H3,I3,.cons ⟨rx,ry⟩ rel,q3⟩)
def W7(kvs more:List (Key×V)):List (Key×V):=more.foldl (fun acc kv=>N9 acc kv.1 kv.2) kvs
theorem KV.merge:∀{more:List (Key×V)} {rs:List (Key×Value)} {kvs:List (Key×V)} {vs:List (Key×Value)},KV more rs->KV kvs vs->KV (W7 kvs more) (merged vs rs):=by
 intro more rs kvs vs r;unfold KV at r
 induction r generalizing kvs vs with
 |nil=>intro q;exact q
 | @cons p q ps qs h t ih=>
  intro r0
  have e:KV (N9 kvs p.1 p.2) (stored vs q.1 q.2):=by
   have:=r0.put p.1 h.2
   rw[←h.1];exact this
  exact ih e
theorem U6:∀(more kvs:List (Key×V)),(W7 kvs more).length<=kvs.length+more.length
 |[],kvs=>by show kvs.length<=kvs.length+0;omega
 |p::r,kvs=>by
  have h1:=U6 r (N9 kvs p.1 p.2);have h2:=Z6 kvs p.1 p.2
  show(W7 (N9 kvs p.1 p.2) r).length<=_
  rw[length_cons];omega
theorem a3j{P:Program}{w:World}:∀{kvs:List (Key×V)} {ws:List (Value×Value)},VV (kvs.map fun kv=>(kV kv.1,kv.2)) ws->∃rs,Carries (u6 P w) ws rs/\KV kvs rs
 |[],_,r=>by rw[map_nil] at r;cases r;exact⟨[],True.intro,.nil⟩
 | p::kvs,_,r=>by
  rw[map_cons] at r
  cases r with
  | @cons a b as bs h t=>
   obtain⟨rs,c,q⟩:=a3j (P:=P) (w:=w) t;obtain⟨b1,b2⟩:=b;exact⟨(p.1,b2)::rs,⟨Z9 h.1,rfl,c⟩,.cons ⟨rfl,h.2⟩ q⟩
def b7u(trs:List (TE×TE)):TE:=fun σ H Q=>∀p,H p=none->a4s trs σ (upd H p (.dK [])) fun ps H2=>H2 p=some (.dK [])/\∃kvs:List (Key×V),ps=kvs.map (fun kv=>(kV kv.1,kv.2))/\kvs.length<=15/\Q (.ref p) (upd H2 p (.dK (W7 [] kvs)))
theorem b2P{keys:List (Option Expr)}{values:List Expr}(h:PPs X pos keys values trs)(hall:keys.all (·.isSome)=true)(hl:keys.length=values.length)(h0:keys≠[])
 (h15:keys.length<=15):PE X (.Dict keys values pos) (b7u trs):=by
 intro pins s σ H Q I q;have hn:=I.hok.fresh (ai s.heap.objs.size);have I1:=I.laid (a:=s.heap.objs.size) (o:=.dK []) (h':=s.heap.push {cls:=.type "dict",data:=.dict #[]}) (t':=s.toks) (fun _ _ q=>Heap.get?_push_of_some _ q) (ai _) (a6n s.heap I.big)
 refine wpAny_Dict_walk (knd:=u6 X.prog X.w) hall hl h0 h15 (thn (h pins _ σ _ _ I1 (q _ hn)) fun ws s2 ⟨ps,H2,I2,rel,e,kvs,ep,lk,q2⟩=>?_)
 subst ep;obtain⟨rs,c,rk⟩:=a3j (P:=X.prog) (w:=X.w) rel;obtain⟨z,hd,vs0,r0,dd⟩:=b4r I2.hok e;cases r0;refine⟨rs,c,dd,fun h' dd' hs=>⟨.ref s.heap.objs.size,_,?_,rfl,q2⟩⟩
 have hz:(W7 [] kvs).length<=sizeLine:=by
  have h1:=U6 kvs [];rw[length_nil] at h1;rw[sizeLine_eq];omega
 have he:∃q,h'.get? s.heap.objs.size=some q:=let⟨q,_,_,hq,_⟩:=dd';⟨q,hq⟩
 exact a5j I2 (by rw[e];exact True.intro) hs he (a7l hz hd (rk.merge .nil) dd')
structure M2(X:Cx)(o:Expr)(m:Str)(apos:Pos)(e f:Expr)(cpos:Pos):Prop where
 base:attributeBase o m X.env (eval o X.env)=eval o X.env
 few:((backTo cpos (starEach [e,f] X.env)).all (fun x=>!x.1)&&(backToKw cpos (keywordEach [] X.env)).all (fun x=>x.1.isSome)
  &&decide (([e,f]:List Expr).length+([]:List Keyword).length+(if([]:List Keyword).isEmpty then 0 else 1)<30))=true
 line:(apos.endLine==cpos.line)=true
 trees:backTo cpos (starEach [e,f] X.env)=[(false,eval e X.env),(false,eval f X.env)]
def IsD(H:Hp)(a:Addr):Prop:=(∃kvs,Rd H a (.dK kvs))∨∃kvs,Rd H a (.dT kvs)
theorem b5Y(I:Inv X pins σ H s)(d:IsD H a):
 s.TypeIs (.ref a) "dict"/\(∀b,Value.ref a=.ref b->∃ob,s.heap.get? b=some ob/\ob.dict=none)/\(a==sysModules)=false:=by
 rcases d with⟨kvs,e⟩|⟨kvs,e⟩
 · obtain⟨_,hd,vs,_,dd⟩:=a1W I.hok e;refine⟨dd.typeIs,fun b q=>?_,hd⟩
   cases q;obtain⟨ob,_,_,h1,h2,_⟩:=dd;exact⟨ob,h1,h2.2.1⟩
 · obtain⟨_,hd,xs,_,dd⟩:=a3g I.hok e;refine⟨dd.typeIs,fun b q=>?_,hd⟩
   cases q;obtain⟨ob,_,_,h1,h2,_⟩:=dd;exact⟨ob,h1,h2.2.1⟩
section
variable{d:V}{r:Value}{o:Option V}{E:Value->Shared->Prop}
theorem b6D(hu:A.units+1<cLine)(I:Inv X pins σ H s)(g:a7u H a y o)(ry:n0 y u)(rd:n0 d r)(h:∀w' s',Inv X pins σ H s'->n0 (o.getD d) w'->Q w' s'):
 wpAny (model X.prog X.w) A (call (.builtin "dict.get") [.ref a,u,r]) Q E s:=by
 rcases g with⟨kvs,k,e,ey,l⟩|⟨kvs,k,b,e,ey,eb,l⟩
 · subst ey;obtain⟨z,hd,vs,rel,dd⟩:=a1W I.hok e;refine call_meetsIn PySem.F.slot_dict_get dd.typeIs PySem.F.entry_dict_get (PySem.F.args_dict_get_3 _ _ _) (meets_dict_get_default (u6 X.prog X.w) a (Z9 ry) hd r) ⟨_,dd.mapOf,h _ _ (I.tok _) ?_⟩
   rw[l];exact(rel.val k).getD rd
 · subst ey
   cases (show u=Value.ref b from ry)
   obtain⟨z,hd,xs,rel,dd⟩:=a3g I.hok e;refine call_meetsIn PySem.F.slot_dict_get dd.typeIs PySem.F.entry_dict_get (PySem.F.args_dict_get_3 _ _ _) (meetsH_dict_get_default (tupleKind (u6 X.prog X.w)) a b hd r) ⟨tupleKind_room_in1 hu,k,xs,a1I I.hok eb,dd,h _ _ (I.tok _) ?_⟩
   rw[l];exact(rel.val k).getD rd
end
noncomputable def b4D(td ty tx:TE):TE:=fun σ H Q=>td σ H fun x H1=>∃a,x=.ref a/\IsD H1 a/\ty σ H1 fun y H2=>tx σ H2 fun z H3=>∃o,a7u H3 a y o/\Q (o.getD z) H3
section
variable{o e f:Expr}{apos cpos:Pos}{td ty tx:TE}
theorem b0w(hu:X.A.units+1<cLine)(ho:PE X o td)(he:PE X e ty)(hf:PE X f tx)(m:M2 X o "get" apos e f cpos):PE X (.Call (.Attribute o "get" apos) [e,f] [] cpos) (b4D td ty tx):=by
 intro pins s σ H Q I h;refine wpAny_Call_method m.base m.few m.line PySem.F.plainAttrs_dict PySem.F.slot_dict_get PySem.F.type_dict_get (thn (ho pins s σ H _ I h) fun u s1 ⟨x,H1,I1,rx,a,ex,d,q1⟩=>?_)
 subst ex;obtain rfl:u=Value.ref a:=rx;obtain⟨t1,t2,_⟩:=b5Y I1 d;refine⟨t1,t2,?_⟩
 rw[m.trees]
 refine Calls.callWith_builtin rfl (Calls.evalArgs_plain (Calls.spliced_cons (thn (he pins s1 σ H1 _ I1 q1) fun iv s2 ⟨y,H2,I2,ry,q2⟩=>
  Calls.spliced_cons (thn (hf pins s2 σ H2 _ I2 q2) fun fv s3 ⟨z,H3,I3,rz,ov,g,q3⟩=>Calls.spliced_nil ?_))))
 exact b6D hu I3 g ry rz fun w' s4 I4 rw'=>⟨_,H3,I4,rw',q3⟩
end
end L2
namespace Att
open PySem PySem.W PySem.Calls PyProof.Rows
variable{P:Params}{h:Heap}
theorem a2a:∀(ns:List Int) (vs:List Value),WellAll P h vs (ns.map WData.int)->IntsAre vs ns:=by
 intro ns
 induction ns with
 |nil=>
  intro vs w;rw[map_nil] at w;cases w;exact .nil
 | cons n ns ih=>
  intro vs w;rw[map_cons] at w
  cases w with
  |cons a b=>
   cases a;exact .cons _ _ (ih _ b)
variable{l:OpenLaw}{n:Nat}
theorem a8D(hn:l.most=some n){args:List WData}{vals:List Value}
 (hpre:l.row.toRowW.claim.pre args=true) (hwl:WellAll P h vals args):
 ∃a vs ns,vals=[Value.ref a]/\args=[WData.list (ns.map WData.int)]/\h.get? a=some {cls:=.type "list",data:=.seq vs.toArray}/\IntsAre vs ns/\ns.length<=n:=by
 have hsh:WShape.hasAll [] args [.list .int]=true:=(pre_splitW hpre).1
 have hc:l.pre.holds [] {args:=args}=true:=(pre_splitW hpre).2
 obtain⟨d,r,rfl,h1,h2⟩:=hasAllW_cons hsh;obtain rfl:=hasAllW_nil h2;obtain⟨xs,rfl,h3⟩:=hasW_list h1;obtain⟨ns,rfl⟩:=items_int h3
 have hlen:ns.length<=n:=by
  unfold OpenLaw.pre at hc
  have h4:(WTm.not (.lt (.lit (.int (n:Int))) (.len (.arg 0)))).holds [] {args:=[.list (ns.map .int)]}=true:=by
   have h4:=(holds_andW hc).1;rw[hn] at h4;exact h4
  have h5:=condW_of h4 (w_not (w_lt w_lit (w_len_list (w_arg rfl))));rw[aa] at h5;refine aM fun q=>?_
  have q':(n:Int)<((ns.length:Nat):Int):=by omega
  first
   |(rw[aR q'] at h5;exact absurd h5 (by decide))
   |(simp at h5;omega)
 cases hwl with
 |cons w1 w2=>
  cases w2
  cases w1 with
  |list ho hall=>exact⟨_,_,ns,rfl,rfl,ho,a2a ns _ hall,hlen⟩
theorem a8J(l:OpenLaw)(args:List WData):l.row.toRowW.claim.post args (.bool true) args=true:=
 postW_of (r:=l.row.toRowW) (X:=(true==true))
  (show WShape.has [] (.bool true) .bool=true by first|rfl|decide|simp[WShape.has,WShape.arms,WShape.armsAll])
  (show(WTm.eq .res (.lit (.bool true))).value [] {args:=args,res:=some (.bool true),after:=args}=some (.bool (true==true)) from w_eq_bool (w_res rfl) w_lit) rfl
variable{q:Program}{loose:List Str}{XP:(Str->Option Value)->Heap->Prop}{YP:World->Heap->Prop}{d:DefRec}
theorem a6z
 (hn:l.most=some n) (hdf:d.params.defaults=[])
 (call:∀(w:World) (s₀ s₁:Shared) (mg mb:Str->Option Value) (fa:Addr) (o:Obj) (pm cd doc:Value) (a:Addr) (vs:List Value) (ns:List Int),
  Ground q loose [] XP w s₀ mg mb s₁.heap->YP w s₁.heap→
  s₁.heap.get? fa=some o->o.data=.func (docDef d.name d.params d.body d.scope pm cd doc)->s₁.heap.CodeRec cd d.name->mg d.name=some (.ref fa)→
  s₁.heap.get? a=some {cls:=.type "list",data:=.seq vs.toArray}->IntsAre vs ns->ns.length<=n->s₁.gens= #[]→
  codeAny (model l.prog w) callerA (.call (.ref fa) ⟨[.ref a],[]⟩) (fun r s'=>r=.ok (.ret (.bool true))/\OldK s₁.heap s'.heap/\s'.os=s₁.os/\AllBare s'.gens) s₁):
 WalkO q loose XP YP l.row.toRowW d [] (fun f vs=>PySem.call f vs):=by
 intro w s₀ s₁ mg mb G Y fa o pm cd doc dV kV ho hd hcd hD hmg hg args vals as hpre hlay hrd hwl hlo;obtain rfl:dV=.none:=Dflts.none hD hdf;obtain rfl:kV=.none:=Dflts.noKw hD;obtain⟨a,vs,ns,rfl,rfl,hobj,hints,hlen⟩:=a8D hn hpre hwl;refine enter_call (codeAny_mono (call w s₀ s₁ mg mb fa o pm cd doc a vs ns G Y ho (fd_plain hd) hcd hmg hobj hints hlen hg) fun r s' hq=>?_)
 obtain⟨rfl,h2,h3,h4⟩:=hq;exact⟨.inl ⟨.bool true,.bool true,[],rfl,fun _=>rfl,.bool true,a8J l _,fun _=>⟨List.Pairwise.nil,fun _ hm=>(nomatch hm)⟩⟩,h2,h3,h4⟩
variable{f:Addr}{C:Addr}{x:Addr}{ox:Obj}{es:List DictEntry}{v:Value}{L:Addr}{o:Obj}{m:Str->Option Value}
end Att
namespace L2
open PySem PySem.Spec PyProof.Rows
theorem a3H:∀{vs:List Value} {ns:List Int},IntsAre vs ns->k8 (ns.map V.int) vs
 |_,_,.nil=>.nil
 |_,_,.cons n t h=>.cons ⟨t,rfl⟩ (a3H h)
def b1U(H:Hp):Prop:=∀b,H b=none∨∃o xs,H b=some (.frz o (.lst xs))
variable{P:Program}{w:World}{K:PySem.W.Frag}{mg:Str->Option Value}{CX:CXT}{a:Addr}{fd:FuncData}{x:Str}{sp:Sp}{vs:List Value}{ns:List Int}
theorem b0P{mb:Str->Option Value}{k:Nat}{fa:Addr}{s₁:Shared}
 (KX:K.In s₁.heap) (hns:s₁.heap.Ns mainGlobals mg) (hb:s₁.heap.Ns builtinsNs mb) (hbb:∀x:Str,x≠"__name__"->mb x=bootBuiltins x) (hlim:s₁.heap.NoLimit) (hg:s₁.gens= #[])
 (ha:s₁.heap.get? a=some {cls:=.type "list",data:=.seq vs.toArray}) (hi:IntsAre vs ns) (hl:ns.length<=sizeLine) (hr:Room k callerA)
 (F:∀base:Heap,K.In base->base.Ns mainGlobals mg->FnOk P w K mg base CX k fa fd [x] sp) (hbind:∀(s:Shared) (u:Value),BindsTo s fd ⟨[u],[]⟩ [(x,u)])
 (hsp:∀H:Hp,b1U H->SqL K H a (ns.map V.int)->sp [.ref a] H (fun v _=>v=.bl true) fun _ _ _=>False)
 (hCX:∀H e s',CX [] H s₁ (fun _ _ _=>False) e s'->False):
 codeAny (model P w) callerA (.call (.ref fa) ⟨[.ref a],[]⟩) (fun r s'=>r=.ok (.ret (.bool true))/\OldK s₁.heap s'.heap/\s'.os=s₁.os/\AllBare s'.gens) s₁:=by
 have rv:=a3H hi;have lenV:=hi.length
 -- from an abstract heap in which nothing but the script may be tracked
 have core:∀H:Hp,b1U H->SqL K H a (ns.map V.int)->HOk P w H s₁.heap->(∀b,H b≠none->b=a)->(H a≠none->K.lookup a=none)→
  codeAny (model P w) callerA (.call (.ref fa) ⟨[.ref a],[]⟩) (fun r s'=>r=.ok (.ret (.bool true))/\OldK s₁.heap s'.heap/\s'.os=s₁.os/\AllBare s'.gens) s₁:=by
  intro H hO hS hok hA hK
  have base_of:∀{b:Addr} {o:Obj},s₁.heap.get? b=some o->H b=none->(a4Z s₁.heap H).get? b=some o:=fun e n=>b0Z e n
  have noA:∀{b:Addr} {o:Obj} {es:Array DictEntry} {ep:Nat},s₁.heap.get? b=some o->o.data=.dict es ep->H b=none:=fun{b o es ep} e d=>by
   cases q:H b with
   |none=>rfl
   |some u=>
    have e':b=a:=hA b (by rw[q];simp)
    subst e';rw[ha] at e;cases e
    have d':Data.seq vs.toArray _=Data.dict es ep:=d
    cases d'
  have nsK:∀{b:Addr} {m:Str->Option Value},s₁.heap.Ns b m->(a4Z s₁.heap H).Ns b m:=fun{b m} ⟨o,es,ep,e,d,r⟩=>⟨o,es,ep,base_of e (noA e d),d,r⟩
  have hKb:K.In (a4Z s₁.heap H):=fun b o e=>base_of (KX b o e) (by
   cases q:H b with
   |none=>rfl
   |some u=>
    have e':b=a:=hA b (by rw[q];simp)
    subst e';rw[hK (by rw[q];simp)] at e;cases e)
  have hM:Mod K mg (a4Z s₁.heap H):=⟨hKb,nsK hns,⟨mb,nsK hb,hbb⟩,let⟨mc,h1,h2⟩:=hlim;⟨mc,nsK h1,h2⟩⟩
  have e0:Env0 P w K mg (a4Z s₁.heap H) callerA [] s₁ H:=⟨rfl,hM,fun b o e=>b2X e,Nat.le_of_eq (a9c _ _),trivial,fun b hb=>absurd (show b∈([]:List Addr) from hb) (by simp),hok,.of_eq hg⟩
  refine codeAny_mono ((F _ hKb (nsK hns)).run callerA [] s₁ H ⟨[.ref a],[]⟩ [.ref a] [.ref a] _ _ hr e0 (hbind s₁ (.ref a)) (.cons rfl .nil) (hsp H hO hS)) fun r s' h=>?_
  cases r with
  |error e=>exact(hCX H e s' h).elim
  | ok fl=>
   cases fl with
   |next=>exact False.elim h
   |brk=>exact False.elim h
   |cont=>exact False.elim h
   | ret u=>
    obtain⟨v,H',os,bare,un,hok',r',q⟩:=h
    have q':v=.bl true:=q
    subst q';obtain rfl:u=Value.bool true:=r';refine⟨rfl,OldK.of_keep fun b o e=>?_,os,bare⟩
    cases q:H b with
    |none=>exact un.keep b o e q (by intro z;exact absurd (show b∈([]:List Addr) from z) (by simp)) (by simp)
    |some u=>
     rcases hO b with z|⟨ob,xs,z⟩
     · rw[q] at z;cases z
     · have z2:=un.frzs b ob _ z;obtain⟨e1,_⟩:=hok b _ z;obtain⟨e2,_⟩:=hok' b _ z2;rw[e] at e1;cases e1
       exact e2
 cases hk:K.lookup a with
 |some o=>
  -- the script is one of the module's own objects
  have e:=KX a o hk;rw[ha] at e;cases e;refine core (fun _=>none) (fun _=>.inl rfl) (.inr ⟨_,vs.toArray,_,hk,rfl,rfl,rfl,by rw[size_toArray,lenV];exact hl,by simpa using rv⟩) (fun b u z=>by have z':(none:Option HO)=some u:=z;cases z') (fun b z=>absurd rfl z) fun z=>absurd rfl z
 |none=>
  refine core (fun b=>if b=a then some (.frz {cls:=.type "list",data:=.seq vs.toArray} (.lst (ns.map V.int))) else none) (fun b=>?_) (.inl (.inr ⟨{cls:=.type "list",data:=.seq vs.toArray},av rfl⟩)) (fun b u z=>?_) (fun b z=>?_) fun _=>hk
  · by_cases hb:b=a
    · exact .inr ⟨_,_,av hb⟩
    · exact .inl (aw hb)
  · by_cases hb:b=a
    · have z':=(av hb).symm.trans z
      cases z';subst hb;exact⟨ha,by rw[aa];exact hl,vs,_,rv,ha⟩
    · have z':=(aw hb).symm.trans z
      cases z'
  · by_cases hb:b=a
    · exact hb
    · exact absurd (aw hb) z
abbrev KOf{K:PySem.W.Frag}{h:Heap}(_:K.In h):PySem.W.Frag:=K
variable{n:Nat}{q:Program}{loose:List Str}{XP:(Str->Option Value)->Heap->Prop}{YP:World->Heap->Prop}
theorem b1X{l:PySem.W.OpenLaw}{k:Nat}{d:DefRec}{K:Params->PySem.W.Frag}{CX:World->CXT}{sp:World->Sp}
 (hn:l.most=some n) (hn2:n<=sizeLine) (hdf:d.params.defaults=[]) (hr:Room k callerA)
 (hY:∀(w:World) (h:Heap),YP w h->(K w.params).In h)
 (F:∀(w:World) (mg:Str->Option Value) (fa:Addr) (h:Heap),(K w.params).In h->h.Ns mainGlobals mg->mg d.name=some (.ref fa)→
  ∃fd:FuncData,(∀(s:Shared) (u:Value),BindsTo s fd ⟨[u],[]⟩ [(x,u)])∧
   ∀base:Heap,(K w.params).In base->base.Ns mainGlobals mg->FnOk l.prog w (K w.params) mg base (CX w) k fa fd [x] (sp w))
 (hsp:∀(w:World) (H:Hp) (a:Addr) (ns:List Int),ns.length<=n->b1U H->SqL (K w.params) H a (ns.map V.int)->sp w [.ref a] H (fun v _=>v=.bl true) fun _ _ _=>False)
 (hCX:∀(w:World) (H:Hp) (s:Shared) (e:Value) (s':Shared),CX w [] H s (fun _ _ _=>False) e s'->False):
 PySem.W.WalkO q loose XP YP l.row.toRowW d [] (fun f vs=>PySem.call f vs):=by
 refine Att.a6z hn hdf fun w s₀ s₁ mg mb fa o pm cd doc a vs ns G Y ho hd hcd hmg hobj hints hlen hg=>?_
 have KX:=hY w _ Y;obtain⟨fd,hb,hF⟩:=F w mg fa _ KX G.T.g hmg;exact b0P KX G.T.g G.T.b G.T.builtins G.T.nolimit hg hobj hints (aK hlen hn2) hr hF hb (fun H hO hS=>hsp w H a ns hlen hO hS) fun H e s'=>hCX w H s₁ e s'
noncomputable def b3k(s:Stmt)(j:Nat):Stmt:=match s with
 |.ClassDef _ _ _ body _ _ _ _ _ _ _=>body.getD j (.Pass ⟨0,0,0,0⟩)
 |_=>.Pass ⟨0,0,0,0⟩
noncomputable def U0(s:Stmt):Arguments:=match s with
 |.FunctionDef _ a _ _ _ _ _ _ _ _=>a
 |_=>{posonlyargs:=[],args:=[],vararg:=none,kwonlyargs:=[],kw_defaults:=[],kwarg:=none,defaults:=[]}
noncomputable def M8(s:Stmt):List Stmt:=match s with
 |.FunctionDef _ _ b _ _ _ _ _ _ _=>b
 |_=>[]
noncomputable def t9(s:Stmt):Scope:=match s with
 |.FunctionDef _ _ _ _ _ _ sc _ _ _=>sc
 |_=>{kind:=.function,names:=[],isGenerator:=false,isCoroutine:=false}
abbrev CX0:CXT:=fun _ _ _ _ _ _=>False
abbrev E0:XK:=fun _ _ _=>False
variable{X:Cx}
theorem b4n:a3u CX0 X E0:=fun _ _ _ _ _ _ _ h=>h.elim
structure Fun(K:PySem.W.Frag)(x qual:Str)(st:Stmt)(f:Addr)(fd:FuncData):Prop where
 ex:∃(oc:Value) (od:Option Addr) (kV doc pm:Value) (an:Option Addr) (cdv ct:Value) (osl:Array (Option Value)),
  fd=PySem.W.fnOf x qual (U0 st) (M8 st) (t9 st) .none kV doc pm an cdv ct/\K.lookup f=some ⟨oc,od,.func fd,osl⟩/\PySem.W.codeIn K cdv qual=true
 kp:PySem.W.keepIn K (.ref f)=true
variable{qual:Str}{st:Stmt}{N:List Str}{ps:List Str}{oc:Value}{od:Option Addr}{an:Option Addr}{osl:Array (Option Value)}{doc:Value}{pm:Value}{cdv:Value}{ct:Value}
section
variable{base:Heap}
theorem Fun.binds{f:Addr}(F:Fun K x qual st f fd)
 (h:∀(kV doc pm:Value) (an:Option Addr) (cdv ct:Value) (us:List Value),us.length=ps.length->bindArgs (PySem.W.fnOf x qual (U0 st) (M8 st) (t9 st) .none kV doc pm an cdv ct) ⟨us,[]⟩=pure (ps.zip us)):U1 K fd ps []:=by
 obtain⟨oc,od,kV,doc,pm,an,cdv,ct,osl,rfl,lk,hcd⟩:=F.ex;exact .all (h kV doc pm an cdv ct)
theorem b1k{f:Addr}{kV:Value}(l:K.lookup f=some ⟨oc,od,.func (PySem.W.fnOf x qual (U0 st) (M8 st) (t9 st) .none kV doc pm an cdv ct),osl⟩)
 (c:PySem.W.codeIn K cdv qual=true) (k:PySem.W.keepIn K (.ref f)=true):Fun K x qual st f (PySem.W.fnOf x qual (U0 st) (M8 st) (t9 st) .none kV doc pm an cdv ct):=⟨⟨oc,od,kV,doc,pm,an,cdv,ct,osl,rfl,l,c⟩,k⟩
end
variable{A:Around}{pos:Pos}
theorem b5S{A B:Prop}(h:B):if false=true then A else B:=by
 rw[aw ba];exact h
theorem b5R{A B:Prop}(h:A):if true=true then A else B:=by
 rw[av rfl];exact h
def c0S(H H':Hp):Prop:=∀b o,H b=some o->H' b=some o
variable{H:Hp}{H':Hp}
noncomputable def K1(cells:List (Str×Addr)):List (Str×NameKind)->List (Str×Addr)->List (Str×Addr)
 |[],acc=>acc
 |(n,k)::r,acc=>if k=NameKind.free then(match cells.lookup n with|some c=>K1 cells r ((n,c)::acc)|none=>K1 cells r acc) else K1 cells r acc
theorem W0{cells:List (Str×Addr)}{x:Str}{c:Addr}:∀{l:List (Str×NameKind)} {acc:List (Str×Addr)},(x,c)∈K1 cells l acc->(x,c)∈acc∨((x,NameKind.free)∈l/\cells.lookup x=some c)
 |[],_,h=>.inl h
 | (n, k)::r,acc,h=>by
  unfold K1 at h
  by_cases hk:k=NameKind.free
  · rw [av hk] at h
    cases e:cells.lookup n with
    |none=>
     rw[e] at h
     rcases W0 h with q|⟨q,z⟩
     · exact .inl q
     · exact .inr ⟨aA _ q,z⟩
    |some d=>
     rw[e] at h
     rcases W0 h with q|⟨q,z⟩
     · rcases aB.mp q with q|q
       · cases q;exact .inr ⟨by rw[hk];exact aP,e⟩
       · exact .inl q
     · exact .inr ⟨aA _ q,z⟩
  · rw[aw hk] at h
    rcases W0 h with q|⟨q,z⟩
    · exact .inl q
    · exact .inr ⟨aA _ q,z⟩
theorem a0D{cells:List (Str×Addr)}{p:Str×Addr}:∀{l:List (Str×NameKind)} {acc:List (Str×Addr)},p∈acc->p∈K1 cells l acc
 |[],_,h=>h
 | (n,k)::r,acc,h=>by
  unfold K1
  by_cases hk:k=NameKind.free
  · rw[av hk]
    cases e:cells.lookup n with
    |none=>exact a0D h
    |some d=>exact a0D (aA _ h)
  · rw[aw hk];exact a0D h
theorem a1n{cells:List (Str×Addr)}{x:Str}{c:Addr}(hc:cells.lookup x=some c):∀{l:List (Str×NameKind)} {acc:List (Str×Addr)},(x,NameKind.free)∈l->(x,c)∈K1 cells l acc
 | (n,k)::r,acc,h=>by
  unfold K1
  rcases aB.mp h with q|q
  · cases q;rw[av rfl,hc];exact a0D aP
  · by_cases hk:k=NameKind.free
    · rw[av hk]
      cases e:cells.lookup n with
      |none=>exact a1n hc q
      |some d=>exact a1n hc q
    · rw[aw hk];exact a1n hc q
theorem a3B{cl:List (Str×Addr)}{c:Addr}:(∀d,(x,d)∈cl->d=c)->(x,c)∈cl->cl.lookup x=some c:=by
 induction cl with
 |nil=>intro _ h;cases h
 |cons p r ih=>
  intro ha h;obtain⟨n,d⟩:=p;rw[lookup_cons]
  by_cases e:x=n
  · subst e;rw[beq_self_eq_true];rw[ha d aP]
  · rw[show(x==n)=false from beq_eq_false_iff_ne.mpr e];refine ih (fun d' hd'=>ha d' (aA _ hd')) ?_
    rcases aB.mp h with q|q
    · cases q;exact absurd rfl e
    · exact q
variable{cells:List (Str×Addr)}{l:List (Str×NameKind)}
theorem a1l{c:Addr}(hl:(x,NameKind.free)∈l)(hc:cells.lookup x=some c):(K1 cells l []).lookup x=some c:=
 a3B (fun d hd=>by
  rcases W0 hd with q|⟨_,z⟩
  · cases q
  · rw[hc] at z;exact(au z).symm) (a1n hc hl)
theorem Q2{c:Addr}(h:(K1 cells l []).lookup x=some c):cells.lookup x=some c:=by
 rcases W0 (PySem.mem_of_lookup h) with q|⟨_,z⟩
 · cases q
 · exact z
theorem a0U{env:Env}{f:Str×NameKind->List (Str×Addr)->Sem (ForInStep (List (Str×Addr)))}
 (hf:∀n k r,f (n,k) r=if(k==NameKind.free)=true then(cellOf env n>>=fun a=>pure (ForInStep.yield ((n,a)::r))) else pure (ForInStep.yield r)):
 ∀(l:List (Str×NameKind)) (acc:List (Str×Addr)),(∀y∈l,y.2=NameKind.free->∃c,env.cells.lookup y.1=some c)->(forIn l acc f:Sem (List (Str×Addr)))=pure (K1 env.cells l acc)
 |[],acc,_=>rfl
 | (n,k)::r,acc,h=>by
  rw[List.forIn_cons,hf];unfold K1
  by_cases hk:k=NameKind.free
  · subst hk;obtain⟨c,hc⟩:=h (n,.free) aP rfl
    have hc':env.cells.lookup n=some c:=hc
    have e1:cellOf env n=pure c:=by unfold cellOf;rw[hc']
    rw[av (beq_self_eq_true _),av rfl,e1,hc'];simp only[pure_bind];exact a0U hf r _ fun y hy=>h y (aA _ hy)
  · have hb:¬(k==NameKind.free)=true:=fun z=>hk (by simpa using z)
    rw[aw hb,aw hk];simp only[pure_bind];exact a0U hf r _ fun y hy=>h y (aA _ hy)
variable{scope:Scope}{env:Env}
theorem a0M(h:∀y∈scope.names,y.2=NameKind.free->∃c,env.cells.lookup y.1=some c):closureFor scope env=pure (K1 env.cells scope.names []):=by
 unfold closureFor
 dsimp only
 rw[a0U (env:=env) (fun n k r=>by rfl) scope.names [] h]
 rfl
theorem a1P{k:NameKind}(h:(relabel scope env).names.lookup x=some k):(x,k)∈scope.names∨((x,NameKind.free)∈scope.names/\k=.cell):=by
 obtain⟨⟨n,k'⟩,hm,e⟩:=ak.mp (PySem.mem_of_lookup h)
 dsimp only at e
 split at e
 · rename_i hc;cases e
   have hk:k'=NameKind.free:=by simp only[ae,beq_iff_eq] at hc;exact hc.1.1
   exact .inr ⟨hk▸hm,rfl⟩
 · cases e;exact .inl hm
theorem a1f{env:Env}:∀{names:List (Str×NameKind)} {x:Str},names.lookup x=some .free→
 (names.map fun(n,k)=>if(k==NameKind.free&&env.scope.kind==.function&&env.kindOf n==some .cell) then(n,NameKind.cell) else(n,k)).lookup x=some .cell∨
 (names.map fun(n,k)=>if(k==NameKind.free&&env.scope.kind==.function&&env.kindOf n==some .cell) then(n,NameKind.cell) else(n,k)).lookup x=some .free
 |[],_,h=>by simp at h
 | (n,k)::r,x,h=>by
  have ih:= @a1f env r x;rw[map_cons]
  cases hx:x==n with
  |true=>
   simp only[lookup_cons,hx] at h;cases h
   by_cases hc:(NameKind.free==NameKind.free&&env.scope.kind==.function&&env.kindOf n==some .cell)=true
   · refine .inl ?_;simp only[av hc,lookup_cons,hx]
   · refine .inr ?_;simp only[aw hc,lookup_cons,hx]
  |false=>
   simp only[lookup_cons,hx] at h
   by_cases hc:(k==NameKind.free&&env.scope.kind==.function&&env.kindOf n==some .cell)=true
   · simp only[av hc,lookup_cons,hx];exact ih h
   · simp only[aw hc,lookup_cons,hx];exact ih h
structure CompScope(sc scope:Scope)(own frees:List Str):Prop where
 kind:scope.kind=.function
 nocell:∀y∈scope.names,y.2≠.cell
 locs:∀y∈scope.names,y.2=.local->scope.names.lookup y.1=some .local
 out:∀y∈scope.names,y.2=.free->sc.names.lookup y.1=some .cell
 nd:(own++frees).Nodup
 ownL:∀x∈own,scope.names.lookup x=some .local
 fr:∀x∈frees,scope.names.lookup x=some .free
def r8(X:Cx)(own frees:List Str)(scope:Scope)(C:Addr)(s₀:Shared)(H₀:Hp)(ex:List Addr):Cx:=
 { prog:=X.prog,w:=X.w,K:=X.K,mg:=X.mg,base:=X.base,A:=X.A,N:=own++frees,s₀:=s₀,H₀:=H₀,env:=compEnvC scope (K1 X.env.cells scope.names []) C X.env,
   outer:=X.stack,stack:=X.stack,ex:=ex,fn:=fun _=>false,calm:=X.calm,pn:=[],xe:=fun _ _=>False}
noncomputable def D2(own:List Str)(js:List Nat)(σ:St):St:=own.map (fun _=>none)++js.map (fun j=>(σ[j]?).join)
def Wk(σ σ':St):Prop:=σ.length=σ'.length/\∀(i:Nat) (v:V),σ[i]? =some (some v)->σ'[i]? =some (some v)
variable{σ:St}{i:Nat}{v:V}
def a6A(X:Cx)(ifs:List Expr)(t:TT):Prop:=
 ∀(pins:List (Addr×Obj)) (s:Shared) (σ:St) (H:Hp) (Q:Bool->Hp->Prop),Inv X pins σ H s->t σ H Q→
  wpAny (model X.prog X.w) X.A (forIn ifs true fun c r=>if r=true then do let ok←isTrue c X.env (eval c X.env);pure (ForInStep.yield ok) else pure (ForInStep.yield r)) (TP X pins σ Q) X.xe s
theorem b2K:a6A X [] (fun _ H Q=>Q true H):=fun _ _ _ H _ I h=>wpAny_tests_nil ⟨H,I,h⟩
variable{c:Expr}
theorem b2J{t:TT}(h:PT X c t):a6A X [c] t:=fun pins s σ H Q I q=>wpAny_tests_one (h pins s σ H Q I q)
variable{iter:Expr}
section
variable{prog:Program}{R:Result->Shared->Prop}{s:Shared}
theorem a5k{elt target:Expr}{ifs:List Expr}{it acc:Value}(I:Nat->Shared->Prop)
 (turn:∀n s,I n s->wpAny (model prog w) A (pyNext it) (fun r s₁=>match r with
  |none=>R (.ok .next) s₁
  | some v=>wpAny (model prog w) A (letOwnedTupleGo target it v) (fun _ s₁'=>wpAny (model prog w) A (assign target env v) (fun _ s₂=>
   wpAny (model prog w) A (forIn ifs true fun c r=>if r=true then do let ok←isTrue c env (eval c env);pure (ForInStep.yield ok) else pure (ForInStep.yield r)) (fun ok s₃=>
    if ok=true then wpAny (model prog w) A (eval elt env) (fun x s₄=>
     wpAny (model prog w) A (call (.builtin "list.append") [acc,x]) (fun _ s₅=>∃m,m<n/\I m s₅) (fun _ _=>False) s₄) (fun _ _=>False) s₃
    else∃m,m<n/\I m s₃) (fun _ _=>False) s₂) (fun _ _=>False) s₁') (fun _ _=>False) s₁) (fun _ _=>False) s)
 (n:Nat) (h:I n s):codeAny (model prog w) A (.compLoop (.ListComp elt [⟨target,iter,ifs,0⟩] scope pos) 0 it acc env) R s:=by
 have no:∀{α:Type} {t:Sem α} {Q:α->Shared->Prop} {E:Value->Shared->Prop} {s:Shared},wpAny (model prog w) A t Q (fun _ _=>False) s->wpAny (model prog w) A t Q E s:=
  fun h=>wpAny_mono h (fun _ _ q=>q) fun _ _ z=>z.elim
 refine codeAny_loop rfl I (fun n s hI=>?_) n h
 show wpAny _ A ((compTurn (.ListComp elt [⟨target,iter,ifs,0⟩] scope pos) 0 it acc env).onRaise (fun x=>do noteFrame x env;theTreesLotGoes x)) _ _ s
 refine wpAny_noted ?_
 rw[compTurn_list];refine wpAny_bind (wpAny_standAt (wpAny_bind (no (wpAny_mono (turn n s hI) (fun r s₁ h₁=>?_) fun _ _ h'=>h'))))
 cases r with
 |none=>exact wpAny_pure h₁
 | some v=>
  refine wpAny_bind (no (wpAny_mono h₁ (fun _ s₁' h₁'=>?_) fun _ _ h'=>h'))
  refine wpAny_bind (no (wpAny_mono h₁' (fun _ s₂ h₂=>wpAny_bind (no (wpAny_mono h₂ (fun ok s₃ h₃=>?_) fun _ _ h'=>h'))) fun _ _ h'=>h'))
  cases ok with
  |false=>exact wpAny_pure ⟨rfl,h₃⟩
  |true=>
   exact wpAny_bind (wpAny_bind (no (wpAny_mono h₃ (fun x s₄ h₄=>wpAny_bind (no (wpAny_mono h₄ (fun _ s₅ h₅=>wpAny_pure (wpAny_pure ⟨rfl,h₅⟩)) fun _ _ h'=>h'))) fun _ _ h'=>h')))
end
variable{h:Heap}{h':Heap}
def a7x(own:List Str)(js:List Nat)(wi:TI)(g:TG)(tc:TT)(te:TE):TE:=fun σ H Q=>wi σ H fun J H1=>∀D,H1 D=none→
 ∃ W:Nat->Nat->List V->Hp->Prop,(∃m,W 0 m [] (upd H1 D (.lst [])))/\∀i m ys H2,W i m ys H2→
  (J.stop i H2/\Q (.ref D) H2)∨(J.go i H2/\∀x H3,J.yld i H2 x H3->g x (D2 own js σ) H3 fun σ4 H4=>Wk (D2 own js σ) σ4/\tc σ4 H4 fun b H5=>
   if b=true then te σ4 H5 fun y H6=>H6 D=some (.lst ys)/\ys.length<sizeLine/\∃m',m'<m/\W (i+1) m' (ys++[y]) (upd H6 D (.lst (ys++[y])))
   else∃m',m'<m/\W (i+1) m' ys H5)
variable{pins:List (Addr×Obj)}{s:Shared}{C:Addr}{fp:List Addr}{s':Shared}{m:Str->Option Value}
section
variable{elt tg:Expr}{ifs:List Expr}{own frees:List Str}{js:List Nat}{wi:TI}{g:TG}{tc:TT}{te:TE}
theorem b3W(I:Inv X pins σ H s)(S:CompScope X.env.scope scope own frees)(hC:s.heap.objs.size<=C)
 (hf:∀b∈fp,a2c X pins H b) (ho:∀b∈fp,∃o,s.heap.get? b=some o):(r8 X own frees scope C s H fp).Ok:=by
 have cellX:∀x c,(K1 X.env.cells scope.names []).lookup x=some c->X.env.cells.lookup x=some c:=fun x c e=>Q2 e
 refine⟨I.ok.mod,S.kind,I.ok.glob,I.ok.blt,hC,fun x y c h1 h2=>I.ok.inj x y c (cellX x c h1) (cellX y c h2),fun x hx=>?_,fun x c h=>(ba h).elim,I.ok.hd,I.ok.frames,.inl rfl,fun b hb=>⟨?_,fun x c e=>(hf b hb).2.2.2.2.1 x c (cellX x c e)⟩,
  I.bs,aK I.ok.bsz I.sz,fun b o e hb=>?_,fun b hb hm=>?_,I.stack,I.stkFree⟩
 · have hx':(relabel scope X.env).names.lookup x=some .cell∨(relabel scope X.env).names.lookup x=some .free:=hx
   have hm:(x,NameKind.free)∈scope.names:=by
    rcases hx' with q|q
    · rcases a1P q with z|z
      · exact absurd rfl (S.nocell _ z)
      · exact z.1
    · rcases a1P q with z|z
      · exact z
      · exact z.1
   obtain⟨c,hc⟩:=I.ok.has x (.inl (S.out _ hm rfl));exact⟨c,a1l hm hc⟩
 · intro e;obtain⟨o,q⟩:=ho b hb
   have e':b=C:=e
   have:=Heap.lt_size q
   rw[e'] at this;exact absurd (az this hC) (aJ _)
 · rcases(hf b hb).2.2.2.1 with z|z
   · exact I.ok.noex b o e z
   · exact absurd (az (az (Heap.lt_size e) I.ok.bsz) z) (aJ _)
 · rcases aB.mp (I.stkSub b hm) with z|z
   · exact(hf b hb).2.1 z
   · exact(hf b hb).2.2.1 z
theorem b1I (I:Inv X pins σ H s) (S:CompScope X.env.scope scope own frees) (hj:frees.map some=js.map (X.N[·]?)) (hC:s.heap.objs.size<=C)
 (hf:∀b∈fp,a2c X pins H b) (ho:∀b∈fp,∃o,s.heap.get? b=some o) (os:s'.os=s.os) (bare:AllBare s'.gens) (k:∀b o,s.heap.get? b=some o->s'.heap.get? b=some o) (un:Un (frs X.stack) fp H H' s.heap s'.heap)
 (hn:s'.heap.Ns C m) (hCn:H' C=none) (hok:HOk X.prog X.w H' s'.heap) (hcl:∀x c,X.env.cells.lookup x=some c->H' c=none):
 Inv (r8 X own frees scope C s H fp) [] (D2 own js σ) H' s':=by
 have hlen:frees.length=js.length:=by have:=congrArg List.length hj;simpa using this
 refine⟨b3W I S hC hf ho,os,bare,un,⟨m,hn,fun i x v h1 h2 h3=>?_⟩,fun x c e=>?_,hCn,fun x c e=>hcl x c (Q2 e),fun p hp=>absurd (show p∈([]:List (Addr×Obj)) from hp) (by simp),hok,?_⟩
 · have h1':(own++frees)[i]? =some x:=h1
   unfold D2 at h2
   by_cases hi:i<own.length
   · rw[ap (by simpa using hi),aj] at h2
     cases q:own[i]? with
     |none=>rw[q] at h2;cases h2
     |some z=>rw[q] at h2;cases h2
   · have hi':own.length<=i:=aM hi
     rw[ao hi'] at h1'
     rw[ao (by simpa using hi'),aa,aj] at h2
     cases q:js[i-own.length]? with
     |none=>rw[q] at h2;cases h2
     | some j=>
      rw[q] at h2
      have h2':(σ[j]?).join=some v:=au h2
      have hσ:σ[j]? =some (some v):=by
       cases z:σ[j]? with
       |none=>rw[z] at h2';cases h2'
       |some w'=>rw[z] at h2';exact congrArg some h2'
      have hX:X.N[j]? =some x:=by
       have e:=congrArg (fun l=>l[i-own.length]?) hj
       rw[aj,aj,h1',q] at e
       exact(au e).symm
      have hm:(x,NameKind.free)∈scope.names:=PySem.mem_of_lookup (S.fr x (aC h1'))
      have ho':=S.out _ hm rfl
      obtain⟨m0,hn0,hl0⟩:=I.loc;obtain⟨u,ru,l⟩:=hl0 j x v hX hσ (.inr (.inl ho'));refine⟨u,ru,?_⟩
      rcases l with⟨q1,_⟩|⟨_,c,e,z⟩
      · have q1':X.env.scope.names.lookup x=some .local:=q1
        rw[ho'] at q1';cases q1'
      · refine .inr ⟨a1f (S.fr x (aC h1')),c,a1l hm e,?_⟩
        obtain⟨o,eo,d⟩:=z;exact⟨o,k c o eo,d⟩
 · obtain⟨v,o,eo,d⟩:=I.cell x c (Q2 e);exact⟨v,o,k c o eo,d⟩
 · show(D2 own js σ).length=(own++frees).length
   unfold D2;rw[am,aa,aa,am,hlen]
end
variable{Q:Value->Shared->Prop}
section
def c0d:V->Option Int->Option Int->Hp->VK->Prop:=fun x lo hi H Q=>∃z,x=.str z/\z.length<=sizeLine/\Q (.str (Txt.slice z lo hi)) H
theorem b4H:SlR X c0d:=by
 intro pins s σ H x v vl vu lo hi sl Q I rx hs pl pu h;obtain⟨z,rfl,hz,q⟩:=h;obtain⟨t,rfl⟩:=rx
 have fin:∀(t':Tok) (k:Nat),EP X pins σ Q (.str (Txt.slice z lo hi) t') {s with toks:=k}:=fun t' k=>⟨.str _,H,I.tok _,⟨_,rfl⟩,q⟩
 refine⟨"str",_,PySem.F.slot_str_getitem.lookup,typeIs_str _ _ _,?_⟩
 obtain⟨o,e1,e2,e3⟩:=hs
 cases pl with
 |none=>
  cases pu with
  |none=>exact wpAny_getItem_str_slice (l:=none) (u:=none) (st:=none) ⟨o,e1,e2,e3⟩ rfl (post_val_or_str ⟨aK (Txt.slice_le z _ _) hz,fun t' k=>fin t' k⟩)
  |int j uj=>exact wpAny_getItem_str_slice (l:=none) (u:=some (j,uj)) (st:=none) ⟨o,e1,e2,e3⟩ rfl (post_val_or_str ⟨aK (Txt.slice_le z _ _) hz,fun t' k=>fin t' k⟩)
 |int i ui=>
  cases pu with
  |none=>exact wpAny_getItem_str_slice (l:=some (i,ui)) (u:=none) (st:=none) ⟨o,e1,e2,e3⟩ rfl (post_val_or_str ⟨aK (Txt.slice_le z _ _) hz,fun t' k=>fin t' k⟩)
  |int j uj=>exact wpAny_getItem_str_slice (l:=some (i,ui)) (u:=some (j,uj)) (st:=none) ⟨o,e1,e2,e3⟩ rfl (post_val_or_str ⟨aK (Txt.slice_le z _ _) hz,fun t' k=>fin t' k⟩)
theorem a3G:∀l:List (Str×Tok),k8 ((l.map (·.1)).map V.str) (strValues l)
 |[]=>.nil
 |(x,t)::r=>.cons ⟨t,rfl⟩ (a3G r)
theorem a3I:∀{xs:List Str} {us:List Value},k8 (xs.map V.str) us->∃l:List (Str×Tok),us=strValues l/\l.map (·.1)=xs
 |[],us,r=>by
  rw[map_nil] at r;cases r;exact⟨[],rfl,rfl⟩
 | x::xs,us,r=>by
  rw[map_cons] at r
  cases r with
  |cons r1 r2=>
   obtain⟨t,rfl⟩:=r1;obtain⟨l,rfl,rfl⟩:=a3I r2;exact⟨(x,t)::l,rfl,rfl⟩
def b4R:V->List V->Hp->VK->Prop:=fun x vs H Q=>∃z y,x=.str z/\vs=[.str y]/\0<y.length/\z.length+2<=sizeLine/\∀p,H p=none->Q (.ref p) (upd H p (.lst ((Txt.split z y).map V.str)))
theorem b0E:MtR X "str.split" b4R:=by
 intro pins s σ H x vs v us Q I rx rv h;obtain⟨z,y,rfl,rfl,hy0,hz,q⟩:=h;obtain⟨t,rfl⟩:=rx;obtain⟨u,rfl,tu,rfl⟩:=rv.one
 have hy:(y.length==0)=false:=by
  rw[beq_eq_false_iff_ne];omega
 have fin:∀(l:List (Str×Tok)) (k:Nat),l.map (·.1)=Txt.split z y->EP X pins σ Q (.ref s.heap.objs.size) {s with toks:=k,heap:=s.heap.push {cls:=.type "list",data:=.seq (strValues l).toArray}}:=fun l k e=>by
  refine⟨.ref s.heap.objs.size,upd H s.heap.objs.size (.lst ((Txt.split z y).map V.str)),?_,rfl,q _ (I.hok.fresh (ai _))⟩
  refine I.laid (t':=k) (fun b o e=>Heap.get?_push_of_some _ e) (ai _) ⟨?_,strValues l,0,?_,Heap.get?_push_size _ rfl⟩
  · rw[aa];exact aK (split_le z y) hz
  · rw[←e];exact a3G l
 cases h1:(decide (z.length<y.length)||decide (Builtin.Str.strKind z<Builtin.Str.strKind y))
 · cases hf:(Builtin.Str.occurrences z y 0 z.length (z.length+1)).isEmpty
   · have es:Txt.split z y=Builtin.Str.partsBetween z (Builtin.Str.occurrences z y 0 z.length (z.length+1)) y.length:=(aw (ne_true_of_eq_false h1)).trans (aw (ne_true_of_eq_false hf))
     refine call_meets PySem.F.slot_str_split (typeIs_str _ _ _) PySem.F.entry_str_split (PySem.F.args_str_split_2 _ _) (meets_str_split_sep z y t tu h1 hy hf (by omega) (by rw[←es];exact aK (split_le z y) hz)) ?_
     show wants _ _ _ {s with toks:=_,heap:=s.heap.push {cls:=.type "list",data:=.seq (strsFrom s.toks (Builtin.Str.partsBetween z (Builtin.Str.occurrences z y 0 z.length (z.length+1)) y.length)).toArray}}
     rw[strsFrom_eq];exact fin (numbered s.toks _) _ ((numbered_texts _ _).trans es.symm)
   · exact call_meets PySem.F.slot_str_split (typeIs_str _ _ _) PySem.F.entry_str_split (PySem.F.args_str_split_2 _ _) (meets_str_split_not_found z y t tu h1 hy hf)
      (fin [(z,t)] s.toks ((aw (ne_true_of_eq_false h1)).trans (av hf)).symm)
 · exact call_meets PySem.F.slot_str_split (typeIs_str _ _ _) PySem.F.entry_str_split (PySem.F.args_str_split_2 _ _) (meets_str_split_cannot_occur z y t tu h1)
    (fin [(z,t)] s.toks (av h1).symm)
def b2z:V->List V->Hp->VK->Prop:=fun x vs H Q=>∃z y,x=.str z/\vs=[.str y]/\Q (.bl (Txt.startswith z y)) H
theorem a8S:MtR X "str.startswith" b2z:=by
 intro pins s σ H x vs v us Q I rx rv h;obtain⟨z,y,rfl,rfl,q⟩:=h;obtain⟨t,rfl⟩:=rx;obtain⟨u,rfl,tu,rfl⟩:=rv.one;exact call_gives PySem.F.slot_str_startswith (typeIs_str _ _ _) PySem.F.entry_str_startswith (PySem.F.args_str_startswith_2 _ _) (gives_str_startswith z y t tu) ⟨.bl _,H,I,rfl,q⟩
def b7K(K:PySem.W.Frag):V->List V->Hp->VK->Prop:=fun x vs H Q=>∃z p ts,x=.str z/\vs=[.ref p]/\SqL K H p (ts.map V.str)/\JoinOk z ts=true/\Q (.str (Txt.join z ts)) H
theorem b3b:MtR X "str.join" (b7K X.K):=by
 intro pins s σ H x vs v us Q I rx rv h;obtain⟨z,p,ts,rfl,rfl,hp,hok,q⟩:=h;obtain⟨t,rfl⟩:=rx;obtain⟨u,rfl,ru⟩:=rv.one;cases ru;obtain⟨its,r,pl,hz⟩:=I.list hp;obtain⟨l,rfl,e⟩:=a3I r;exact SC.join pl.isList e hok fun t' k=>⟨.str _,H,I.tok _,⟨_,rfl⟩,q⟩
theorem a6x:∀{bs:List Bool} {us:List Value},k8 (bs.map V.bl) us->us=bs.map Value.bool
 |[],us,r=>by
  rw[map_nil] at r;cases r;rfl
 | b::bs,us,r=>by
  rw[map_cons] at r
  cases r with
  |cons r1 r2=>
   cases r1;rw[a6x r2];rfl
theorem a8H(bs:List Bool)(p:Bool->Bool):(List.range bs.length).all (fun i=>p (bs.getD i true))=bs.all p:=by
 induction bs with
 |nil=>rfl
 |cons b r ih=>
  rw[length_cons,List.range_succ_eq_map,all_cons,all_map,all_cons,←ih];rfl
theorem a8G(bs:List Bool)(p:Bool->Bool):(List.range bs.length).any (fun i=>p (bs.getD i true))=bs.any p:=by
 induction bs with
 |nil=>rfl
 |cons b r ih=>
  rw[length_cons,List.range_succ_eq_map,any_cons,List.any_map,any_cons,←ih];rfl
theorem a4k{p:Addr}{bs:List Bool}(hc:X.calm=true)(I:Inv X pins σ H s)(hp:SqL X.K H p (bs.map V.bl)){E:Value->Shared->Prop}{f:(Nat->Bool)->Bool}
 (hq:∀s',Inv X pins σ H s'->Q (.bool (f fun i=>bs.getD i true)) s'):
 wpAny (model X.prog X.w) X.A.in1 (pyIter (.ref p)) (fun it s₂=>∃I fp wr n P St tr,it=.ref I/\Walks X.prog X.w X.A.in1 I fp wr n P St/\St 0 s₂.heap/\TruthOf X.prog X.w X.A.in1 P tr/\n=bs.length∧
  ∀h' tk,(∀b o,b∉wr->s₂.heap.get? b=some o->h'.get? b=some o)->Q (.bool (f tr)) {s₂ with heap:=h',toks:=tk}) E s:=by
 obtain⟨its,r,pl,hz⟩:=I.list hp;have e:=a6x r;subst e
 have hne:p≠s.heap.objs.size:=by
  obtain⟨o,n,e,_⟩:=pl;exact Nat.ne_of_lt (Heap.lt_size e)
 refine wpAny_pyIter_list pl.isList ⟨s.heap.objs.size,_,_,_,_,_,fun i=>bs.getD i true,rfl,Walks.list (A:=X.A.in1) (I.ok.hd hc) s.heap.objs.size p hne (bs.map Value.bool).toArray,⟨⟨_,Heap.get?_push_size _ rfl,rfl,rfl⟩,?_⟩,?_,?_,?_⟩
 · exact pl.isList.at fun o e=>Heap.get?_push_of_some _ e
 · intro i v s' Q' E' hP hQ
   have hP':(bs.map Value.bool).toArray[i]? =some v:=hP
   rw[List.getElem?_toArray,aj] at hP'
   cases q:bs[i]? with
   |none=>rw[q] at hP';cases hP'
   |some b=>
    rw[q] at hP';cases hP'
    have:bs.getD i true=b:=by rw[List.getD_eq_getElem?_getD,q];rfl
    have hQ':Q' b s':=this▸hQ
    exact wpAny_truthy_bool hQ'
 · simp
 · intro h' tk k
   exact hq _ (I.kept fun b o e=>k b o (by
    have:=Nat.ne_of_lt (Heap.lt_size e)
    simpa using this) (Heap.get?_push_of_some _ e))
theorem b1K(hc:X.calm=true):G8 X (.builtin "all") (fun xs H Q=>∃(p:Addr) (bs:List Bool),xs=[.ref p]/\SqL X.K H p (bs.map V.bl)/\Q (.bl (bs.all id)) H):=by
 intro pins s σ H xs us Q I r h;obtain⟨p,bs,rfl,hp,q⟩:=h;obtain⟨u,rfl,ru⟩:=V2 r;cases ru;refine call_all_walk (thn (a4k (f:=fun tr=>(List.range bs.length).all tr) (Q:=EP X pins σ Q) hc I hp fun s' I'=>⟨.bl (bs.all id),H,I',?_,q⟩) fun it s2 ⟨i,fp,wr,n,P,St,tr,e1,e2,e3,e4,e5,e6⟩=>⟨i,fp,wr,n,P,St,tr,e1,e2,e3,e4,?_⟩)
 · show Value.bool _=Value.bool _
   exact congrArg Value.bool (a8H bs id)
 · subst e5;exact e6
theorem b1J(hc:X.calm=true):G8 X (.builtin "any") (fun xs H Q=>∃(p:Addr) (bs:List Bool),xs=[.ref p]/\SqL X.K H p (bs.map V.bl)/\Q (.bl (bs.any id)) H):=by
 intro pins s σ H xs us Q I r h;obtain⟨p,bs,rfl,hp,q⟩:=h;obtain⟨u,rfl,ru⟩:=V2 r;cases ru;refine call_any_walk (thn (a4k (f:=fun tr=>(List.range bs.length).any tr) (Q:=EP X pins σ Q) hc I hp fun s' I'=>⟨.bl (bs.any id),H,I',?_,q⟩) fun it s2 ⟨i,fp,wr,n,P,St,tr,e1,e2,e3,e4,e5,e6⟩=>⟨i,fp,wr,n,P,St,tr,e1,e2,e3,e4,?_⟩)
 · show Value.bool _=Value.bool _
   exact congrArg Value.bool (a8G bs id)
 · subst e5;exact e6
theorem a5p:G8 X (.type "int") (fun xs H Q=>∃z n,xs=[.str z]/\z.length<=640/\PySem.intText? z=some n/\Q (.int n) H):=by
 intro pins s σ H xs us Q I r h;obtain⟨z,n,rfl,hz,hn,q⟩:=h;obtain⟨u,rfl,t,rfl⟩:=V2 r;exact PySem.W.KIN.call_text hn hz ⟨.int n,H,I.tok _,⟨_,rfl⟩,q⟩
end
section
theorem Inv.turnedF{t':Nat}(I:Inv X pins σ H s)(hf:∀b∈fp,a2c X pins H b)(k:∀b u,b∉fp->s.heap.get? b=some u->h'.get? b=some u):Inv X pins σ H {s with heap:=h',toks:=t'}:=by
 have nit:∀b u,H b=some u->b∉fp:=fun b u e z=>by rw[(hf b z).1] at e;cases e
 refine I.step (g':=s.gens) (d':=s.drawn) (ch:=fp) (fun b hb=>⟨(hf b hb).2.2.2.1,(hf b hb).2.1,(hf b hb).2.2.2.2.1,(hf b hb).2.2.2.2.2⟩) (fun b o _ _ hc e _=>k b o hc e) (fun b o _ _ hc e _=>⟨o.slots,k b o hc e⟩) (fun _ _ _ _ n=>n)
  (fun b o hc e=>⟨o,k b o hc e⟩) (fun _ _ e=>e) (fun _ _ _ e=>e) (fun b ps e=>⟨#[],by rw[e];simp⟩) (fun m hm=>?_) (fun b u e=>?_) I.bare
 · obtain⟨o,es,ep,ho,r⟩:=hm;exact⟨o,es,ep,k _ o (fun z=>(hf _ z).2.1 rfl) ho,r⟩
 · refine(I.hok b u e).stay (fun c v hc q=>k c v ?_ q) (fun _ q=>q) fun _ _ q=>q
   rcases hc with z|z
   · rw[z];exact nit b u e
   · exact nit c _ z
theorem Inv.turnedN{t':Nat}{T:Addr}{o:HO}(I:Inv X pins σ H s)(hf:∀b∈fp,a2c X pins H b)(k:∀b u,b∉fp->s.heap.get? b=some u->h'.get? b=some u)(hT:s.heap.objs.size<=T)(new:B0 X.prog X.w (upd H T o) h' T o):
 Inv X pins σ (upd H T o) {s with heap:=h',toks:=t'}:=by
 have hn:H T=none:=I.hok.fresh hT
 have nit:∀b u,H b=some u->b∉fp:=fun b u e z=>by rw[(hf b z).1] at e;cases e
 have ne:∀b u,s.heap.get? b=some u->b≠T:=fun b u e=>Nat.ne_of_lt (az (Heap.lt_size e) hT)
 have up:∀b u,H b=some u->upd H T o b=some u:=fun b u e=>by rw[l8 (u0 e hn)];exact e
 refine I.step (g':=s.gens) (d':=s.drawn) (ch:=fp) (fun b hb=>⟨(hf b hb).2.2.2.1,(hf b hb).2.1,(hf b hb).2.2.2.2.1,(hf b hb).2.2.2.2.2⟩) (fun b u _ _ hc e _=>k b u hc e) (fun b u _ _ hc e _=>⟨u.slots,k b u hc e⟩) (fun b u _ e n=>by rw[l8 (ne b u e)];exact n)
  (fun b u hc e=>⟨u,k b u hc e⟩) (fun b xs e=>up b _ e) (fun b u xs e=>up b _ e) (fun b ps e=>⟨#[],by rw[up b _ e];simp⟩) (fun m hm=>?_) (fun b u e=>?_) I.bare
 · obtain⟨u,es,ep,ho,r⟩:=hm;exact⟨u,es,ep,k _ u (fun z=>(hf _ z).2.1 rfl) ho,r⟩
 · by_cases hb:b=T
   · subst hb;rw[d0] at e;cases e;exact new
   · rw[l8 hb] at e;refine(I.hok b u e).stay (fun c v hc q=>k c v ?_ q) (fun c q=>up c _ q) fun c xs q=>up c _ q
     rcases hc with z|z
     · rw[z];exact nit b u e
     · exact nit c _ z
end
noncomputable def Its(x:Str):It:=⟨fun i _=>i<x.cps.size,fun i H v H'=>H'=H/\∃c,x.cps[i]? =some c/\v=.str ⟨#[c]⟩,fun i _=>i=x.cps.size⟩
variable{tg:Expr}
theorem a5D{K:PySem.W.Frag}{ty:String}(x:Str)(t:Tok)(it:Addr)(hty:["enumerate","zip","dict_itemiterator","dict_reverseitemiterator","odict_iterator","itertools.zip_longest","itertools.pairwise"].contains ty=false)
 (W:∀A:Around,A.handled=none->Walks P w A it [it] [it] x.cps.size (SignAt x) (fun i h=>h.IsStrIter it ty x t i))
 (Sf:∀(A:Around) (i:Nat) (s:Shared) (Q:Value->Shared->Prop) (E:Value->Shared->Prop),s.heap.IsStrIter it ty x t i->Q (.ref it) s->wpAny (model P w) A (pyIter (.ref it)) Q E s):Turn P w K tg (Its x) [it] it (fun i h=>h.IsStrIter it ty x t i) where
 mem:=by simp
 obj:=fun i h st b hb=>by
  have e:b=it:=by simpa using hb
  subst e;obtain⟨o,e,c,d⟩:=st;exact⟨o,e,fun v z=>by rw[d] at z;cases z⟩
 keep:=fun i h h' st k=>let⟨o,e,r⟩:=st;⟨o,k it (by simp) o e,r⟩
 item:=by
  intro X hP hw hK hc i pins s σ H E I hf st hg;subst hP hw hK;refine(W X.A (I.ok.hd hc)).item i s _ _ hg st fun v h' tk hv st' kk=>?_
  obtain⟨c,u,hcx,rfl⟩:=hv
  have I1:Inv X pins σ H {s with heap:=h',toks:=tk}:=I.turnedF hf fun b o hb e=>kk b o hb e
  obtain⟨o,e,hcl,d⟩:=id st';exact⟨_,rfl,a8c (s:={s with heap:=h',toks:=tk}) e hcl d hty ⟨.str ⟨#[c]⟩,H,I1,⟨u,rfl⟩,⟨rfl,c,hcx,rfl⟩,st',fun b hb=>(hf b hb).1⟩⟩
 done:=by
  intro X hP hw hK hc i pins s σ H E I hf st hg;subst hP hw hK
  have hg':i=x.cps.size:=hg
  subst hg';exact(W X.A (I.ok.hd hc)).done s _ _ st fun h' tk k=>⟨rfl,I.turnedF (t':=tk) hf fun b o hb e=>k b o hb e⟩
 self:=fun A i s Q E st h=>Sf A i s Q E st h
variable{tb:TS}
section
def c0t(tl:TE):TI:=fun σ H R=>tl σ H fun x H1=>∃z,x=.str z/\R (Its z) H1
theorem b5e{l:Expr}{tl:TE}(hl:PE X l tl):PI X tg l (c0t tl):=by
 intro pins s σ H R I h;refine thn (hl pins s σ H _ I h) fun v s1 ⟨x,H1,I1,r1,z,e,q⟩=>?_
 subst e;obtain⟨t,rfl⟩:=r1
 have fp:∀b∈[s1.heap.objs.size],a2c X pins H1 b:=fun b hb=>by
  have e:b=s1.heap.objs.size:=by simpa using hb
  subst e;exact I1.fpOk (ai _) (I1.hok.fresh (ai _))
 cases ha:z.cps.all (· <128)
 · exact wpAny_pyIter_wide ha ⟨s1.heap.objs.size,[s1.heap.objs.size],_,_,H1,rfl,I1.kept (t':=s1.toks) fun b o e=>Heap.get?_push_of_some _ e,a5D (ty:="str_iterator") z t _ (by decide) (fun A hA=>Walks.strWide hA _ z t) (fun A i s Q E st h=>wpAny_pyIter_striter_wide st h),
    ⟨_,Heap.get?_push_size _ rfl,rfl,rfl⟩,fp,q⟩
 · exact wpAny_pyIter_ascii ha ⟨s1.heap.objs.size,[s1.heap.objs.size],_,_,H1,rfl,I1.kept (t':=s1.toks) fun b o e=>Heap.get?_push_of_some _ e,a5D (ty:="str_ascii_iterator") z t _ (by decide) (fun A hA=>Walks.strAscii hA _ z t) (fun A i s Q E st h=>wpAny_pyIter_striter_ascii st h),
    ⟨_,Heap.get?_push_size _ rfl,rfl,rfl⟩,fp,q⟩
end
def Ite(K:PySem.W.Frag)(l:Addr):It:=⟨fun i H=>∃xs x,SqL K H l xs/\xs[i]? =some x,fun i H v H'=>∃T x,H T=none/\v=.ref T/\(∀xs,SqL K H l xs->xs[i]? =some x)/\H'=upd H T (.tup [.int i,x]),fun i H=>∃xs,SqL K H l xs/\xs.length<=i⟩
variable{elts:List Expr}
theorem a8x{k:Nat}(e it l:Addr)(hei:e≠it):
 Turn P w K (.Tuple elts k pos) (Ite K l) [e,it] e (fun i h=>(∃old,IsEnum h e it i old)/\h.IsListIter it l i) where
 mem:=by simp
 obj :=fun i h st b hb=>by
  obtain⟨⟨old,he⟩,o,e1,c,d⟩:=st
  rcases aB.mp hb with z|z
  · subst z
    exact⟨_,he,fun v z=>by
     have z':Data.fields _=Data.cell v:=z
     cases z'⟩
  · have z':b=it:=by simpa using z
    subst z';exact⟨o,e1,fun v z=>by rw[d] at z;cases z⟩
 keep:=fun i h h' st k=>by
  obtain⟨⟨old,he⟩,hit⟩:=st;exact⟨⟨old,k e (by simp) _ he⟩,hit.at fun o x=>k it (by simp) o x⟩
 item:=by
  intro X hP hw hK hc i pins s σ H E I hf st hg;subst hP hw hK;obtain⟨⟨old,he⟩,hit⟩:=st;obtain⟨xs,x,hq,hx⟩:=hg;obtain⟨its,rv,p,hz⟩:=I.list hq;obtain⟨u,hu,ru⟩:=rv.get hx
  have helt:e<s.heap.objs.size:=Heap.lt_size he
  refine wpAny_pyNext_enum_item he hit p.isList (x:=u) (by simpa using hu) hei fun h' ho hit' hT hsz hk=>?_
  refine⟨_,rfl,wpAny_letOwnedTupleGo_enum ho fun h2 he2 hs2=>?_⟩
  have kk:∀b o,b∉[e,it]->s.heap.get? b=some o->h2.get? b=some o:=fun b o hb q=>by
   have h1:b≠e:=fun z=>hb (by simp[z])
   have h2':b≠it:=fun z=>hb (by simp[z])
   exact(hs2.2 b h1).trans (hk b o h1 h2' q)
  have hT2:h2.get? s.heap.objs.size=some {cls:=.type "tuple",data:=.seq #[.int i s.toks,u]}:=(hs2.2 _ (Nat.ne_of_gt helt)).trans hT
  have I1:Inv X pins σ (upd H s.heap.objs.size (.tup [.int i,x])) {s with heap:=h2,toks:=s.toks+1}:=
   I.turnedN (fp:=[e,it]) hf kk (ai _) ⟨by show 2<=sizeLine;decide,[.int i s.toks,u],.cons ⟨_,rfl⟩ (.cons ru .nil),_,hT2,rfl,rfl,_,rfl⟩
  refine⟨.ref s.heap.objs.size,_,I1,rfl,⟨s.heap.objs.size,x,I.hok.fresh (ai _),rfl,fun ys hy=>by rw[I.list_inj hy hq];exact hx,rfl⟩,⟨⟨_,by simpa using he2⟩,hit'.at fun o x=>(hs2.2 it (Ne.symm hei)).trans x⟩,fun b hb=>?_⟩
  have hbs:b<s.heap.objs.size:=by
   rcases aB.mp hb with z|z
   · rw[z];exact helt
   · have z':b=it:=by simpa using z
     rw[z'];obtain⟨o,e1,_⟩:=hit;exact Heap.lt_size e1
  rw[l8 (Nat.ne_of_lt hbs)];exact(hf b hb).1
 done:=by
  intro X hP hw hK hc i pins s σ H E I hf st hg;subst hP hw hK;obtain⟨⟨old,he⟩,hit⟩:=st;obtain⟨xs,hq,hx⟩:=hg;obtain⟨its,rv,p,hz⟩:=I.list hq;have hl:=rv.length;exact wpAny_pyNext_enum_end (I.ok.hd hc) he hit p.isList (by simp;omega) fun h' eb=>⟨rfl,I.turnedF (t':=s.toks) hf fun b o hb q=>eb b o (fun z=>hb (by simp[z])) q⟩
 self:=fun A i s Q E st h=>by
  obtain⟨⟨old,he⟩,_⟩:=st;exact wpAny_pyIter_enum he h
variable{ta:TA}{p:Pos}
section
variable{k:Nat}{tpos:Pos}
def b8k(K:PySem.W.Frag)(ta:TA):TI:=fun σ H R=>ta σ H fun vs H1=>∃l xs,vs=[.ref l]/\SqL K H1 l xs/\R (Ite K l) H1
theorem b2M{a:Expr}(hg:Gl X "enumerate")(hm:X.mg "enumerate"=none)(ha:PA X [a] ta)(hs:starEach [a] X.env=[(false,eval a X.env)]:=by rfl):
 PI X (.Tuple elts k tpos) (.Call (.Name "enumerate" p) [a] [] pos) (b8k X.K ta):=by
 intro pins s σ H R I h;refine Call_ (Z7 I hg hm boot_enumerate (PyProof.Rows.callWith_type1 (thn (ha pos pins s σ H _ I h) fun us s1 ⟨vs,H1,I1,r1,q1⟩=>?_) hs rfl))
 obtain⟨l,xs,e,hq,q⟩:=q1;subst e;obtain⟨u,rfl,ru⟩:=V2 r1;cases ru;obtain⟨its,rv,pl,hz⟩:=I1.list hq;refine call_enumerate_list pl.isList fun h' he hit hsz hk=>?_
 have I2:Inv X pins σ H1 {s1 with heap:=h'}:=I1.kept (t':=s1.toks) hk
 refine wpAny_pyIter_enum he ⟨s1.heap.objs.size+1,[s1.heap.objs.size+1,s1.heap.objs.size],_,_,H1,rfl,I2,a8x (s1.heap.objs.size+1) s1.heap.objs.size l (Nat.ne_of_gt (aL _)),⟨⟨_,he⟩,hit⟩,fun b hb=>?_,q⟩
 have hb':s1.heap.objs.size<=b:=by
  rcases aB.mp hb with z|z
  · rw[z];exact Nat.le_succ _
  · have z':b=s1.heap.objs.size:=by simpa using z
    rw[z'];exact ai _
 exact I1.fpOk hb' (I1.hok.fresh hb')
end
section
def c0j(K:PySem.W.Frag):List V->Hp->VK->Prop:=fun xs H Q=>∃x T t b,xs=[x,.ty T]/\TyOf K H x t/\PySem.W.kitOne K t (.type T)=some b/\Q (.bl b) H
theorem a3k:G8 X (.builtin "isinstance") (c0j X.K):=by
 intro pins s σ H xs us Q I r h;obtain⟨x,T,t,b,rfl,ty,e,q⟩:=h;obtain⟨u1,u2,rfl,ru1,ru2⟩:=a9s r;cases ru2;exact a9a I ru1 ty e fun tk=>⟨.bl b,H,I.tok _,rfl,q⟩
end
def b7m:TT:=fun _ H Q=>Q true H
theorem b5b:a6A X [] b7m:=b2K
noncomputable def b6G(sc scope:Scope)(own frees:List Str):Bool:=
 decide (scope.kind=.function)&&scope.names.all (fun y=>decide (y.2≠.cell))&&scope.names.all (fun y=>decide (y.2=.local->scope.names.lookup y.1=some .local))&&
 scope.names.all (fun y=>decide (y.2=.free->sc.names.lookup y.1=some .cell))&&decide ((own++frees).Nodup)&&own.all (fun x=>decide (scope.names.lookup x=some .local))&&frees.all (fun x=>decide (scope.names.lookup x=some .free))
variable{sc:Scope}
theorem b8V{own frees:List Str}(h:b6G sc scope own frees=true):CompScope sc scope own frees:=by
 unfold b6G at h;simp only[ae,decide_eq_true_eq,aX] at h;obtain⟨⟨⟨⟨⟨⟨a,b⟩,c⟩,d⟩,e⟩,f⟩,g⟩:=h;exact⟨a,b,c,d,e,f,g⟩
variable{pos':Pos}
section
variable{elt:Expr}{ifs:List Expr}{own frees:List Str}{js:List Nat}{wi:TI}{g:TG}{tc:TT}{te:TE}
theorem a4i{Q:VK}{RR:Value->Addr->Result->Shared->Prop}(hcalm:X.calm=true)(hi:PI X tg iter wi)(S:CompScope X.env.scope scope own frees)(hj:frees.map some=js.map (X.N[·]?))
 (hg:∀C s₀ H₀ ex,PG (r8 X own frees scope C s₀ H₀ ex) tg g) (hc:∀C s₀ H₀ ex,a6A (r8 X own frees scope C s₀ H₀ ex) ifs tc) (he:∀C s₀ H₀ ex,PE (r8 X own frees scope C s₀ H₀ ex) elt te)
 (I:Inv X pins σ H s) (h:a7x own js wi g tc te σ H Q)
 (fin:∀D C s5 H4 m5,Inv X pins σ H4 s5->s5.heap.Ns C m5->H4 C=none->X.s₀.heap.objs.size<=C->C≠X.env.locals->(∀x c,X.env.cells.lookup x=some c->c≠C)->(∀p∈X.pn++pins,p.1≠C)->Q (.ref D) H4->RR (.ref D) C (.ok .next) s5):
 wpAny (model X.prog X.w) X.A (eval iter X.env) (fun v s1=>wpAny (model X.prog X.w) X.A (pyIter v) (fun it s2=>wpAny (model X.prog X.w) X.A (newList []) (fun acc s3=>
  wpAny (model X.prog X.w) X.A (newFunctionEnv scope X.env.globals (K1 X.env.cells scope.names []) [] X.env.qual none .none (some X.env)) (fun cenv s4=>
   codeAny (model X.prog X.w) X.A (.compStart (.ListComp elt [⟨tg,iter,ifs,0⟩] scope pos) 0 it acc {cenv with scope:=relabel scope X.env}) (RR acc cenv.locals) s4) X.xe s3) X.xe s2) X.xe s1) X.xe s:=by
 refine thn (hi pins s σ H _ I h) fun v s1 h1=>thn h1 fun itv s2 h2=>?_
 obtain⟨it,fp,tn,J,H2,e,I2,T,st2,f2,R2⟩:=h2;subst e
 have hD:H2 s2.heap.objs.size=none:=I2.hok.fresh (ai _)
 obtain⟨W,⟨m0,w0⟩,turn⟩:=R2 s2.heap.objs.size hD
 have hcells:∀x c,X.env.cells.lookup x=some c->c<s2.heap.objs.size:=fun x c e=>by obtain⟨v,z⟩:=I2.cell x c e;exact z.lt
 refine wpAny_newObj_type (wpAny_newFunctionEnv S.nocell (by intro y hy;simp at hy) (fun h₁ hns₁ hsb₁=>?_) S.kind)
 dsimp only at hns₁ hsb₁⊢
 generalize hHH:s2.heap.push {cls:=.type "list",dict:=none,data:=.seq ([]:List Value).toArray}=HH at hns₁ hsb₁⊢
 have hC:HH.objs.size=s2.heap.objs.size+1:=by rw[←hHH,Heap.size_push]
 have hCle:s2.heap.objs.size<=HH.objs.size:=by rw[hC];exact Nat.le_succ _
 have hDC:s2.heap.objs.size≠HH.objs.size:=by rw[hC];exact Nat.ne_of_lt (aL _)
 have neC:∀b,b<s2.heap.objs.size->b≠HH.objs.size:=fun b hb=>by rw[hC];exact Nat.ne_of_lt (Nat.lt_succ_of_lt hb)
 have old:∀b o,s2.heap.get? b=some o->h₁.get? b=some o:=fun b o e=>hsb₁.extBut b o (neC b (Heap.lt_size e)) (Heap.get?_push_of_some _ (hHH▸Heap.get?_push_of_some _ e))
 have accAt:h₁.get? s2.heap.objs.size=some {cls:=.type "list",dict:=none,data:=.seq ([]:List Value).toArray}:=hsb₁.extBut _ _ hDC (Heap.get?_push_of_some _ (hHH▸Heap.get?_push_size _ rfl))
 have hfo:∀b∈fp,∃o,s2.heap.get? b=some o:=fun b hb=>let⟨o,e,_⟩:=T.obj _ _ st2 b hb;⟨o,e⟩
 have hnD:∀b,b<s2.heap.objs.size->upd H2 s2.heap.objs.size (.lst []) b=H2 b:=fun b hb=>l8 (Nat.ne_of_lt hb)
 have hok1:HOk X.prog X.w (upd H2 s2.heap.objs.size (.lst [])) h₁:=I2.hok.laid old (ai _) ⟨Nat.zero_le _,[],0,.nil,accAt⟩
 have I3:∀s3:Shared,s3={s2 with heap:=h₁,toks:=s2.toks+([]:List (Str×Value)).length}->Inv (r8 X own frees scope HH.objs.size s2 H2 fp) [] (D2 own js σ) (upd H2 s2.heap.objs.size (.lst [])) s3:=by
  rintro s3 rfl;refine b1I I2 S hj hCle f2 hfo rfl I2.bare old (Un.laid old (ai _) hD) hns₁ ?_ hok1 (fun x c e=>?_)
  · rw[l8 (Ne.symm hDC)];exact I2.hok.fresh hCle
  · rw[hnD c (hcells x c e)];exact I2.freeC x c e
 -- what stays true of the iterator's objects
 have stat:∀{H':Hp},(∀b∈fp,H' b=none)->∀b∈fp,a2c (r8 X own frees scope HH.objs.size s2 H2 fp) [] H' b:=fun{H'} hn b hb=>by
  obtain⟨o,q⟩:=hfo b hb;refine⟨hn b hb,neC b (Heap.lt_size q),fun hm=>?_,.inl hb,fun x c e=>(f2 b hb).2.2.2.2.1 x c (Q2 e),fun p hp=>absurd (show p∈([]:List (Addr×Obj)) from hp) (by simp)⟩
  rcases aB.mp (I2.stkSub b hm) with z|z
  · exact(f2 b hb).2.1 z
  · exact(f2 b hb).2.2.1 z
 have loop:∀s3:Shared,s3={s2 with heap:=h₁,toks:=s2.toks+([]:List (Str×Value)).length}→
  codeAny (model X.prog X.w) X.A (.compLoop (.ListComp elt [⟨tg,iter,ifs,0⟩] scope pos) 0 (.ref it) (.ref s2.heap.objs.size) (compEnvC scope (K1 X.env.cells scope.names []) HH.objs.size X.env))
   (RR (.ref s2.heap.objs.size) HH.objs.size) s3:=by
  intro s3 hs3
  refine a5k (fun n s'=>∃i ys H',Inv (r8 X own frees scope HH.objs.size s2 H2 fp) [] (D2 own js σ) H' s'/\tn i s'.heap/\(∀b∈fp,H' b=none)/\W i n ys H') ?_ m0
   ⟨0,[],_,I3 s3 hs3,T.keep _ _ _ st2 (fun b hb o e=>by rw[hs3];exact old b o e),fun b hb=>by obtain⟨o,q⟩:=hfo b hb;rw[hnD b (Heap.lt_size q)];exact(f2 b hb).1,w0⟩
  rintro n s4 ⟨i,ys,H4,I4,st4,fr4,w4⟩
  rcases turn i n ys H4 w4 with⟨stop,qn⟩|⟨go,step⟩
  · refine thn (T.done (r8 X own frees scope HH.objs.size s2 H2 fp) rfl rfl rfl hcalm i [] s4 (D2 own js σ) H4 _ I4 (stat fr4) st4 stop) fun r s5 ⟨hr,I5⟩=>?_
    subst hr;obtain⟨m5,hn5,_⟩:=I5.loc
    have ub:Un (frs X.stack) fp H2 H4 s2.heap s5.heap:=I5.base
    refine fin _ _ s5 H4 m5 (I2.call' (ch:=fp) I5.os ub I5.hok I5.bare fun b hb=>⟨(f2 b hb).2.2.2.1,(f2 b hb).2.1,(f2 b hb).2.2.2.2.1,(f2 b hb).2.2.2.2.2⟩) hn5 I5.free (aK I2.sz hCle) ?_ ?_ ?_ qn
    · exact Ne.symm (neC _ I2.lt)
    · exact fun x c e=>neC c (hcells x c e)
    · exact fun p hp=>neC _ (Heap.lt_size (I2.pin p hp).1)
  · refine thn (T.item (r8 X own frees scope HH.objs.size s2 H2 fp) rfl rfl rfl hcalm i [] s4 (D2 own js σ) H4 _ I4 (stat fr4) st4 go) fun r s5 ⟨u,hr,h5⟩=>?_
    subst hr;refine thn h5 fun _ s6 ⟨x,H6,I6,r6,y6,st6,fr6⟩=>?_
    have I6':=I6.pinned (stat fr6) (T.obj _ _ st6)
    refine thn (hg _ _ _ _ _ s6 _ H6 x u _ I6' r6 (step x H6 y6)) fun _ s7 ⟨σ7,H7,I7,wk7,q7⟩=>?_
    refine thn (hc _ _ _ _ _ s7 σ7 H7 _ I7 q7) fun b s8 ⟨H8,I8,q8⟩=>?_
    have again:∀{s9:Shared} {H9:Hp} {zs:List V},Inv (r8 X own frees scope HH.objs.size s2 H2 fp) ([]++a2J fp s6.heap) σ7 H9 s9->(∃m',m'<n/\W (i+1) m' zs H9)→
     ∃m,m<n/\∃i ys H',Inv (r8 X own frees scope HH.objs.size s2 H2 fp) [] (D2 own js σ) H' s9/\tn i s9.heap/\(∀b∈fp,H' b=none)/\W i m ys H':=fun{s9 H9 zs} I9 ⟨m',hm,w9⟩=>by
     refine⟨m',hm,i+1,zs,H9,(I9.weak wk7.1 wk7.2).unpinned,T.keep _ _ _ st6 fun b hb o e=>(I9.pin (b,o) (mem_append_right _ (mem_append_right _ (W8 hb e)))).1,fun b hb=>?_,w9⟩
     obtain⟨o,e,d⟩:=T.obj _ _ st6 b hb;exact(I9.pin (b,o) (mem_append_right _ (mem_append_right _ (W8 hb e)))).2.1
    cases b with
    |false=>
     rw[aw ba] at q8⊢;exact again I8 q8
    | true=>
     rw[av rfl] at q8⊢;refine thn (he _ _ _ _ _ s8 σ7 H8 _ I8 q8) fun y s9 ⟨v9,H9,I9,r9,hD9,hz9,q9⟩=>?_
     refine thn (a3T (X:=r8 X own frees scope HH.objs.size s2 H2 fp) _ s9 σ7 H9 (.ref s2.heap.objs.size) [v9] (.ref s2.heap.objs.size) [y] (fun _ H'=>∃m',m'<n/\W (i+1) m' (ys++[v9]) H') I9 rfl (.cons r9 .nil)
      ⟨_,ys,v9,rfl,rfl,hD9,hz9,q9⟩) fun _ s10 ⟨_,H10,I10,_,q10⟩=>?_
     exact again I10 q10
 exact codeAny_compStart_list (loop _ rfl) (T.self _ 0 _ _ _ (T.keep _ _ _ st2 fun b hb o e=>old b o e) (loop _ rfl))
theorem a5R(hcalm:X.calm=true)(hi:PI X tg iter wi)(S:CompScope X.env.scope scope own frees)(hj:frees.map some=js.map (X.N[·]?))
 (hg:∀C s₀ H₀ ex,PG (r8 X own frees scope C s₀ H₀ ex) tg g) (hc:∀C s₀ H₀ ex,a6A (r8 X own frees scope C s₀ H₀ ex) ifs tc) (he:∀C s₀ H₀ ex,PE (r8 X own frees scope C s₀ H₀ ex) elt te)
 (hs:∀x,foldedSetIterable iter X.env x=pure x):PE X (.ListComp elt [⟨tg,iter,ifs,0⟩] scope pos) (a7x own js wi g tc te):=by
 intro pins s σ H Q I h;rw[eval_ListComp]
 have hcl:closureFor scope X.env=pure (K1 X.env.cells scope.names []):=a0M fun y hy e=>I.ok.has y.1 (.inl (S.out y hy e))
 refine wpAny_comprehension_free (use:=none) rfl hs hcl S.kind S.locs (a4i hcalm hi S hj hg hc he I h fun D C s5 H4 m5 I5 hn5 c1 c2 c3 c4 c5 q=>?_)
 exact⟨m5,hn5,fun h' hs'=>⟨.ref D,H4,I5.turned (t':=s5.toks) (fun b o hb e=>(hs'.2 b hb).trans e) c1 (Ne.symm (Ne.symm c3)) (.inr c2) c4 c5,rfl,q⟩⟩
theorem b2F{spos:Pos}(hcalm:X.calm=true)(hi:PI X tg iter wi)(S:CompScope X.env.scope scope own frees)(hj:frees.map some=js.map (X.N[·]?))
 (hg:∀C s₀ H₀ ex,PG (r8 X own frees scope C s₀ H₀ ex) tg g) (hc:∀C s₀ H₀ ex,a6A (r8 X own frees scope C s₀ H₀ ex) ifs tc) (he:∀C s₀ H₀ ex,PE (r8 X own frees scope C s₀ H₀ ex) elt te)
 (hs:∀x,foldedSetIterable iter X.env x=pure x) (hN:X.N.Nodup) (hix:X.N[i]? =some x) (hx:Loc X.env.scope x) (hf:X.fn x=true∨X.env.scope.names.lookup x=some .local):
 PS X (.Assign [.Name x pos'] (.ListComp elt [⟨tg,iter,ifs,0⟩] scope pos) spos) (b4E (a7x own js wi g tc te) (b1j i)):=by
 obtain⟨b,hb⟩:∃b,swapsWith (.ListComp elt [⟨tg,iter,ifs,0⟩] scope pos) (some (.Name x pos')) spos.line X.env=pure b:=⟨_,rfl⟩
 cases b with
 |false=>exact b0k hN hix hx (a5R hcalm hi S hj hg hc he hs) hb hf
 | true=>
  intro pins s σ H Dn I h;rw[exec_Assign_Name_used _ _ _ _ hb]
  have hcl:closureFor scope X.env=pure (K1 X.env.cells scope.names []):=a0M fun y hy e=>I.ok.has y.1 (.inl (S.out y hy e))
  refine wpAny_bind (wpAny_standAt (wpAny_bind ?_))
  show wpAny _ X.A (do let _←comprehension (.ListComp elt [⟨tg,iter,ifs,0⟩] scope pos) scope X.env _ (newList []) false (eval iter X.env) (some (assign (.Name x pos') X.env))) _ _ s
  refine wpAny_bind (wpAny_mono (wpAny_comprehension_free (use:=some (assign (.Name x pos') X.env)) (Q:=fun _ s'=>SP X pins Dn .next s') rfl hs hcl S.kind S.locs
   (a4i hcalm hi S hj hg hc he I h fun D C s5 H4 m5 I5 hn5 c1 c2 c3 c4 c5 q=>?_)) (fun _ s' hq=>wpAny_pure (wpAny_pure hq)) fun _ _ e=>e)
  show wpAny _ X.A (assign (.Name x pos') X.env (.ref D)) _ _ s5
  refine wpAny_assign_Name (a3J (v:=.ref D) I5 hN hix hx rfl (fun s6 I6 ⟨a,sb,ea⟩=>?_) hf)
  have hCa:C≠a:=fun z=>by
   rcases ea with y|y
   · exact c3 (z.trans y)
   · exact c4 x a y z.symm
  exact⟨m5,hn5.sameBut sb hCa,fun h' hs'=>⟨_,H4,I6.turned (t':=s6.toks) (fun b o hb e=>(hs'.2 b hb).trans e) c1 c3 (.inr c2) c4 c5,q⟩⟩
end
def Itz(K:PySem.W.Frag)(l1 l2:Addr):It:=⟨fun i H=>∃xs ys x y,SqL K H l1 xs/\SqL K H l2 ys/\xs[i]? =some x/\ys[i]? =some y,
 fun i H v H'=>∃T x y,H T=none/\v=.ref T/\(∀xs,SqL K H l1 xs->xs[i]? =some x)/\(∀ys,SqL K H l2 ys->ys[i]? =some y)/\H'=upd H T (.tup [x,y]),
 fun i H=>∃xs ys,SqL K H l1 xs/\SqL K H l2 ys/\(xs.length<=i∨ys.length<=i)⟩
theorem a9v{k:Nat}(z TI TO i1 i2 l1 l2:Addr)(D:ZipApart z TI TO i1 i2 l1 l2):
 Turn P w K (.Tuple elts k pos) (Itz K l1 l2) [z,TI,TO,i1,i2] z (fun i h=>IsZip h z TI TO .none/\IsPair h TI (.ref i1) (.ref i2)/\(∃a b,IsPair h TO a b)/\h.IsListIter i1 l1 i/\h.IsListIter i2 l2 i) where
 mem:=by simp
 obj:=fun i h st b hb=>by
  obtain⟨hz,hTI,⟨a,c,hTO⟩,⟨o1,e1,c1,d1⟩,⟨o2,e2,c2,d2⟩⟩:=st;simp only[aB,not_mem_nil,or_false] at hb
  rcases hb with rfl|rfl|rfl|rfl|rfl
  · exact⟨_,hz,fun v q=>by have q':Data.fields _=Data.cell v:=q;cases q'⟩
  · exact⟨_,hTI,fun v q=>by have q':Data.seq _ _=Data.cell v:=q;cases q'⟩
  · exact⟨_,hTO,fun v q=>by have q':Data.seq _ _=Data.cell v:=q;cases q'⟩
  · exact⟨o1,e1,fun v q=>by rw[d1] at q;cases q⟩
  · exact⟨o2,e2,fun v q=>by rw[d2] at q;cases q⟩
 keep:=fun i h h' st k=>by
  obtain⟨hz,hTI,⟨a,c,hTO⟩,h1,h2⟩:=st;exact⟨k z (by simp) _ hz,k TI (by simp) _ hTI,⟨a,c,k TO (by simp) _ hTO⟩,h1.at fun o x=>k i1 (by simp) o x,h2.at fun o x=>k i2 (by simp) o x⟩
 item:=by
  intro X hP hw hK hc i pins s σ H E I hf st hg;subst hP hw hK;obtain⟨hz,hTI,⟨a,c,hTO⟩,h1,h2⟩:=st;obtain⟨xs,ys,x,y,hq1,hq2,hx,hy⟩:=hg;obtain⟨its,rv,p,hz1⟩:=I.list hq1;obtain⟨its',rv',p',hz2⟩:=I.list hq2;obtain⟨u,hu,ru⟩:=rv.get hx;obtain⟨u',hu',ru'⟩:=rv'.get hy
  have hzlt:z<s.heap.objs.size:=Heap.lt_size hz
  refine wpAny_pyNext_zip_item D hz hTI hTO h1 h2 p.isList p'.isList (x:=u) (y:=u') (by simpa using hu) (by simpa using hu') fun h' a1 a2 a3 a4 a5 a6 hk=>?_
  refine⟨_,rfl,wpAny_letOwnedTupleGo_zip a1 fun h3 hz3 hs3=>?_⟩
  have kk:∀b o,b∉[z,TI,TO,i1,i2]->s.heap.get? b=some o->h3.get? b=some o:=fun b o hb q=>by
   have n1:b≠z:=fun w=>hb (by simp[w])
   exact(hs3.2 b n1).trans (hk b o n1 (fun w=>hb (by simp[w])) (fun w=>hb (by simp[w])) (fun w=>hb (by simp[w])) q)
  have hT3:h3.get? s.heap.objs.size=some {cls:=.type "tuple",data:=.seq #[u,u']}:=(hs3.2 _ (Nat.ne_of_gt hzlt)).trans a5
  have I1:Inv X pins σ (upd H s.heap.objs.size (.tup [x,y])) {s with heap:=h3,toks:=s.toks}:=
   I.turnedN (fp:=[z,TI,TO,i1,i2]) hf kk (ai _) ⟨by show 2<=sizeLine;decide,[u,u'],.cons ru (.cons ru' .nil),_,hT3,rfl,rfl,_,rfl⟩
  refine⟨.ref s.heap.objs.size,_,I1,rfl,⟨s.heap.objs.size,x,y,I.hok.fresh (ai _),rfl,fun zs hy=>by rw[I.list_inj hy hq1];exact hx,fun zs hy'=>by rw[I.list_inj hy' hq2];exact hy,rfl⟩,
   ⟨hz3,(hs3.2 _ D.TIz).trans (hk _ _ D.TIz D.TITO D.TIi1 D.TIi2 hTI),⟨_,_,(hs3.2 _ D.TOz).trans a2⟩,a3.at fun o x=>(hs3.2 _ D.i1z).trans x,a4.at fun o x=>(hs3.2 _ D.i2z).trans x⟩,fun b hb=>?_⟩
  have hbs:b<s.heap.objs.size:=by
   obtain⟨o1,e1,_⟩:=h1;obtain⟨o2,e2,_⟩:=h2;simp only[aB,not_mem_nil,or_false] at hb
   rcases hb with rfl|rfl|rfl|rfl|rfl
   · exact hzlt
   · exact Heap.lt_size hTI
   · exact Heap.lt_size hTO
   · exact Heap.lt_size e1
   · exact Heap.lt_size e2
  rw[l8 (Nat.ne_of_lt hbs)];exact(hf b hb).1
 done:=by
  intro X hP hw hK hc i pins s σ H E I hf st hg;subst hP hw hK;obtain⟨hz,hTI,⟨a,c,hTO⟩,h1,h2⟩:=st;obtain⟨xs,ys,hq1,hq2,hx⟩:=hg;obtain⟨its,rv,p,hz1⟩:=I.list hq1;obtain⟨its',rv',p',hz2⟩:=I.list hq2;have hl:=rv.length
  have hl':=rv'.length
  refine wpAny_pyNext_zip_end (I.ok.hd hc) D hz hTI hTO h1 h2 p.isList p'.isList ?_ fun h' eb=>⟨rfl,I.turnedF (t':=s.toks) hf fun b o hb q=>eb b o (fun z=>hb (by simp[z])) (fun z=>hb (by simp[z])) (fun z=>hb (by simp[z])) (fun z=>hb (by simp[z])) q⟩
  rcases hx with hx|hx
  · exact .inl (by simp;omega)
  · exact .inr (by simp;omega)
 self:=fun A i s Q E st h=>wpAny_pyIter_zip st.1 h
section
variable{k:Nat}{tpos:Pos}
def c0r(K:PySem.W.Frag)(ta:TA):TI:=fun σ H R=>ta σ H fun vs H1=>∃l1 l2 xs ys,vs=[.ref l1,.ref l2]/\SqL K H1 l1 xs/\SqL K H1 l2 ys/\R (Itz K l1 l2) H1
theorem b5c{a b:Expr}(hg:Gl X "zip")(hm:X.mg "zip"=none)(ha:PA X [a,b] ta)(hs:starEach [a,b] X.env=(false,eval a X.env)::starEach [b] X.env)(hp:(backTo pos (starEach [b] X.env)).any (·.1)=false):
 PI X (.Tuple elts k tpos) (.Call (.Name "zip" p) [a,b] [] pos) (c0r X.K ta):=by
 intro pins s σ H R I h;refine Call_ (Z7 I hg hm boot_zip (PyProof.Rows.callWith_type1 (thn (ha pos pins s σ H _ I h) fun us s1 ⟨vs,H1,I1,r1,q1⟩=>?_) hs hp))
 obtain⟨l1,l2,xs,ys,e,hq1,hq2,q⟩:=q1;subst e;obtain⟨u,u',rfl,ru,ru'⟩:=a9s r1;cases ru;cases ru';obtain⟨its,rv,pl,hz⟩:=I1.list hq1;obtain⟨its',rv',pl',hz'⟩:=I1.list hq2;refine call_zip_2 pl.isList pl'.isList fun h' a1 a2 a3 a4 a5 a6 hk=>?_
 have I2:Inv X pins σ H1 {s1 with heap:=h'}:=I1.kept (t':=s1.toks) hk
 have lt1:l1<s1.heap.objs.size:=by obtain⟨o,e,_⟩:=pl.isList;exact Heap.lt_size e
 have lt2:l2<s1.heap.objs.size:=by obtain⟨o,e,_⟩:=pl'.isList;exact Heap.lt_size e
 refine wpAny_pyIter_zip a1 ⟨s1.heap.objs.size+4,[s1.heap.objs.size+4,s1.heap.objs.size+2,s1.heap.objs.size+3,s1.heap.objs.size,s1.heap.objs.size+1],_,_,H1,rfl,I2,a9v _ _ _ _ _ l1 l2 (zipApart_new lt1 lt2),⟨a1,a2,⟨_,_,a3⟩,a4,a5⟩,fun b hb=>?_,q⟩
 have hb':s1.heap.objs.size<=b:=by
  simp only[aB,not_mem_nil,or_false] at hb
  rcases hb with rfl|rfl|rfl|rfl|rfl
  · exact Nat.le_add_right _ _
  · exact Nat.le_add_right _ _
  · exact Nat.le_add_right _ _
  · exact ai _
  · exact Nat.le_add_right _ _
 exact I1.fpOk hb' (I1.hok.fresh hb')
end
noncomputable def D7(n:Nat)(x:Str):Str:=⟨(List.replicate n x.cps).foldl (· ++ ·) #[]⟩
theorem a4a(x:Array Nat):∀(n:Nat) (a:Array Nat),((List.replicate n x).foldl (· ++ ·) a).toList=a.toList++(List.replicate n x.toList).flatten
 |0,a=>by simp
 |n+1,a=>by rw[replicate_succ,foldl_cons,a4a x n,replicate_succ,flatten_cons];simp
theorem a5F(n:Nat)(x:Str):(D7 n x).cps.toList=(List.replicate n x.cps.toList).flatten:=by
 unfold D7;rw[a4a];simp
theorem a2x(n:Nat)(x:Str):(D7 n x).length=x.length*n:=by
 show(D7 n x).cps.size=x.cps.size*n
 rw[←Array.length_toList,a5F];simp[List.length_flatten,Nat.mul_comm]
theorem a6J(x:Str):D7 1 x=x:=by
 unfold D7;simp
theorem a6K(n:Nat)(x:Str)(h:x.length=0):D7 n x=x:=by
 have h1:(D7 n x).cps.size=0:=by
  have:=a2x n x
  rw[h,Nat.zero_mul] at this;exact this
 have h2:x.cps.size=0:=h
 have e1:=Array.eq_empty_of_size_eq_zero h1;have e2:=Array.eq_empty_of_size_eq_zero h2;cases x
 simp only at e2
 subst e2;generalize hq:D7 n ⟨#[]⟩=q at e1;cases q
 simp only at e1
 rw[e1]
variable{ys:List V}{us:List Value}
section
def b7H:R2:=fun x y H Q=>∃t k,x=.str t/\y=.int k/\ -(2^63)<=k/\k<2^63/\t.length*k.toNat<=sizeLine/\Q (.str (D7 k.toNat t)) H
theorem b2T:OpR X (binaryOp .Mult) b7H:=by
 intro pins s σ H x y v u Q I rx ry h;obtain⟨t,k,rfl,rfl,h1,h2,h3,q⟩:=h;obtain⟨a,rfl⟩:=rx;obtain⟨b,rfl⟩:=ry;refine P.mul_str ?_ ?_ ?_ ?_
 · rw[bf (by omega),bf (by omega)];rfl
 · intro h4 h5 h6
   have hk:0<k:=by omega
   have h8:(t.length:Int)*k<=2^62:=by
    have h9:((t.length*k.toNat:Nat):Int)<=((sizeLine:Nat):Int):=Int.ofNat_le.mpr h3
    rw[Int.natCast_mul,Int.toNat_of_nonneg (by omega),sizeLine_eq] at h9
    exact Int.le_trans h9 (by decide)
   have h7:(t.length:Int)<=(2^63-1)/k:=by
    rw[Int.le_ediv_iff_mul_le hk];omega
   omega
 · intro h4 h5;simp only[Builtin.Str.tooLong,decide_eq_false_iff_not];omega
 · by_cases c1:k<1
   · rw[av c1]
     have:k.toNat=0:=by omega
     rw[this] at q;exact⟨Nat.zero_le _,.str _,H,I.tok _,⟨_,rfl⟩,q⟩
   · rw [aw c1]
     by_cases c2:(k==1||t.length==0)=true
     · rw [av c2]
       have e:D7 k.toNat t=t:=by
        rw[aZ] at c2
        rcases c2 with c|c
        · have:k=1:=by simpa using c
          subst this;exact a6J t
        · exact a6K _ _ (by simpa using c)
       rw[e] at q;exact⟨.str _,H,I,⟨_,rfl⟩,q⟩
     · rw[aw c2];refine⟨?_,.str _,H,I.tok _,⟨_,rfl⟩,q⟩
       show(D7 k.toNat t).length<=sizeLine
       rw[a2x];exact h3
def a0V:List V->List V->Bool
 |[],[]=>true
 |x::xs,y::ys=>eqV x y&&a0V xs ys
 |_,_=>false
def a0L(xs ys:List V)(j:Nat):Bool:=match xs[j]?,ys[j]? with
 |some x,some y=>eqV x y
 |_,_=>false
theorem a3s:∀(xs ys:List V),xs.length=ys.length->(List.range xs.length).all (a0L xs ys)=a0V xs ys
 |[],[],_=>rfl
 |[],_::_,h=>by simp at h
 |_::_,[],h=>by simp at h
 | x::xs,y::ys,h=>by
  rw[length_cons,List.range_succ_eq_map,all_cons,all_map];have ih:=a3s xs ys (by simpa using h)
  have e:a0L (x::xs) (y::ys)∘Nat.succ=a0L xs ys:=by
   funext j
   simp[a0L]
  rw[e,ih];simp[a0L,a0V]
theorem a3f:∀{xs ys:List V},xs.length≠ys.length->a0V xs ys=false
 |[],[],h=>absurd rfl h
 |[],_::_,h=>rfl
 |_::_,[],h=>rfl
 |x::xs,y::ys,h=>by
  rw[a0V,a3f (fun e=>h (by simp[e])),Bool.and_false]
theorem a7N{xs:List V}(r:k8 xs us)(r':k8 ys vs)(f:xs.all E9=true)(f':ys.all E9=true)(j:Nat)(h1:j<us.toArray.size)(h2:j<vs.toArray.size):SeqAt.EqAt A s us.toArray[j] vs.toArray[j] (a0L xs ys j):=by
 have l1:=r.length;have l2:=r'.length
 have j1:j<xs.length:=by simp at h1;omega
 have j2:j<ys.length:=by simp at h2;omega
 obtain⟨u,hu,ru⟩:=r.get (af j1)
 obtain⟨v,hv,rv⟩:=r'.get (af j2)
 have e1:us.toArray[j]=u:=by
  have:=(ac.mp hu).2
  simpa using this
 have e2:vs.toArray[j]=v:=by
  have:=(ac.mp hv).2
  simpa using this
 rw[e1,e2]
 have e3:a0L xs ys j=eqV xs[j] ys[j]:=by
  unfold a0L;rw[af j1,af j2]
 rw[e3];exact b1F ru rv (aX.mp f _ (bc j1)) (aX.mp f' _ (bc j2))
def b7L(K:PySem.W.Frag)(neg:Bool):R2:=fun x y H Q=>∃a b xs ys,x=.ref a/\y=.ref b/\SqL K H a xs/\SqL K H b ys/\xs.all E9=true/\ys.all E9=true/\Q (.bl (a0V xs ys !=neg)) H
theorem b5t(hu:X.A.units<cLine):OpR X (compareOp .NotEq) (b7L X.K true):=by
 intro pins s σ H x y v u Q I rx ry h;obtain⟨a,b,xs,ys,rfl,rfl,q1,q2,f1,f2,q⟩:=h;cases rx;cases ry;obtain⟨its,r,pl,hz⟩:=I.list q1;obtain⟨its',r',pl',hz'⟩:=I.list q2;have l1:=r.length;have l2:=r'.length
 by_cases hl:xs.length=ys.length
 · refine SeqAt.RcNeAt.lists (e:=a0L xs ys) pl.isList pl'.isList (by simp;omega) hu (fun j h1 h2=>a7N r r' f1 f2 j h1 h2) X.prog X.w _ _ ⟨.bl _,H,I,rfl,?_⟩
   have e:its.toArray.size=xs.length:=by simp;omega
   rw[e,a3s xs ys hl];rw[show(a0V xs ys !=true)=!a0V xs ys by cases a0V xs ys<;>rfl] at q
   exact q
 · refine SeqAt.RcNeAt.lists_lengths pl.isList pl'.isList (by simp;omega) hu X.prog X.w _ _ ⟨.bl _,H,I,rfl,?_⟩
   rw[a3f hl] at q;exact q
theorem b5x(hu:X.A.units<cLine):OpR X (compareOp .Eq) (b7L X.K false):=by
 intro pins s σ H x y v u Q I rx ry h;obtain⟨a,b,xs,ys,rfl,rfl,q1,q2,f1,f2,q⟩:=h;cases rx;cases ry;obtain⟨its,r,pl,hz⟩:=I.list q1;obtain⟨its',r',pl',hz'⟩:=I.list q2;have l1:=r.length;have l2:=r'.length
 by_cases hl:xs.length=ys.length
 · refine SeqAt.RcAt.lists (e:=a0L xs ys) pl.isList pl'.isList (by simp;omega) hu (fun j h1 h2=>a7N r r' f1 f2 j h1 h2) X.prog X.w _ _ ⟨.bl _,H,I,rfl,?_⟩
   have e:its.toArray.size=xs.length:=by simp;omega
   rw[e,a3s xs ys hl];rw[show(a0V xs ys !=false)=a0V xs ys by cases a0V xs ys<;>rfl] at q
   exact q
 · refine SeqAt.RcAt.lists_lengths pl.isList pl'.isList (by simp;omega) hu X.prog X.w _ _ ⟨.bl _,H,I,rfl,?_⟩
   rw[a3f hl] at q;exact q
end
end L2
namespace PySem
open Sem (wp)
theorem a4S:typeLookup (.type "list") "keys"=pure none:=by rw[typeLookup_type,builtinLookup_eq_fast];kernel_rfl
variable{A:Around}{s:Shared}{xs:Array Value}
theorem a8U{prog:Program}{w:World}{E:Value->Shared->Prop}{a:Addr}{o:Obj}{k:Nat}{Q:Option Value->Shared->Prop}
 (hx:s.heap.get? a=some o) (hc:o.cls=.type "list") (hdat:o.data=.seq xs k) (hd:o.dict=none) (hA:A.handled=none)
 (h:∀h' tk,(∀b ob,s.heap.get? b=some ob->h'.get? b=some ob)->Q none {s with heap:=h',toks:=tk}):wpAny (model prog w) A (getAttr? (.ref a) "keys") Q E s:=by
 obtain⟨c,dct,dat,sl⟩:=o
 simp only at hc hdat hd
 subst hc hdat hd;obtain⟨hp,g,d,tk,os⟩:=s
 have hT:∀tk',(⟨hp,g,d,tk',os⟩:Shared).TypeIs (.ref a) "list":=fun _=>⟨_,hx,rfl⟩
 have f1:=sub_AttributeError;have f3:=F.slot_list_getattribute.lookup;have f4:=F.slot_list_getattribute.bind (.ref a);have f5:=am_list_getattr_none;unfold getAttr? getAttrBy? getAttrBy
 repeat (any_goals (first|assumption|exact hT _|((with_reducible show wpAny _ _ (call (Value.builtin "list.__getattribute__") _ _) _ _ _);refine call_meets F.slot_list_getattribute (hT _) am_entry_list_getattribute (F.args_list_getattribute_2 _ _) (meets_getattribute_miss_list a xs k sl "keys" _ a4S (by decide) (by decide)) ⟨hx,hA,fun h' tk' e hx'=>?_⟩)|wp_step))
 obtain⟨t2,u2,he⟩:=hx'.there
 show wpAny _ _ (getattributeRaised _ _ _ _ _ _ _) _ _ _
 unfold getattributeRaised
 repeat (any_goals (first|assumption|wp_step))
 exact h _ _ hx'.keeps
open PyProof.Rows
theorem K3:plainId "dict.update.loop"=true:=by decide+kernel
theorem a0i:entryFor table "dict.update.loop"=some Builtin.«dict.update.loop»:=entryFor_of_tree (by kernel_rfl)
variable{a:Value}{b:Value}{l:Addr}{items:Array Value}{Q:Value->Shared->Prop}
section
variable{prog:Program}{w:World}{K:Type}[DecidableEq K]{knd:KeyKind prog w K}
theorem a6P{E:Value->Shared->Prop}{t:Addr}{Q:List Value->Shared->Prop}(ht:IsTup s.heap t #[a,b])(h:Q [a,b] s):wpAny (model prog w) A (Builtin.Dict.pairItems (.ref t)) Q E s:=by
 obtain⟨o,ho,hc,n,hd⟩:=ht;obtain⟨hp,g,d,tk,os⟩:=s
 have hT:(⟨hp,g,d,tk,os⟩:Shared).TypeIs (.ref t) "tuple":=⟨_,ho,hc⟩
 unfold Builtin.Dict.pairItems
 repeat (any_goals (first|assumption|wp_step))
 rw[hd];exact wpAny_pure (wpAny_pure h)
theorem a9t{d it:Addr}{ps:List (K×Value)}(n1:d≠it)(n2:d≠l)(n3:it≠l)(hsz:items.size=ps.length)(k:Nat):∀(i:Nat) (kvs:List (K×Value)),ps.length-i=k->i<=ps.length->MeetsIn prog w (Builtin.«dict.update.loop» ⟨[.ref d,.ref it,rawInt i,.none],[]⟩)
 (fun A R s=>A.handled=none/\s.heap.IsListIter it l i/\s.heap.IsList l items/\s.heap.DictOf knd d kvs/\kvs.length+(ps.length-i)<=sizeLine∧
  (∀(j:Nat) (p:K×Value),ps[j]? =some p->∃t kv,items[j]? =some (.ref t)/\t≠d/\t≠it/\IsTup s.heap t #[kv,p.2]/\knd.is p.1 kv=true)∧
  ∀h' tk,h'.DictOf knd d (merged kvs (ps.drop i))->(∀b o,b≠d->b≠it->s.heap.get? b=some o->h'.get? b=some o)->R (.ok (.ret .none)) {s with heap:=h',toks:=tk}):=by
 induction k with
 |zero=>
  intro i kvs hk hi A R s h;obtain⟨hA,hit,hl,hd,hz,hq,h⟩:=h
  have hx:items[i]? =none:=by rw[Array.getElem?_eq_none];omega
  have hdr:ps.drop i=[]:=List.drop_eq_nil_of_le (by omega)
  rw[hdr] at h;unfold Builtin.«dict.update.loop»;refine wpAny_bind (wpAny_pyNext_list_end hA hit hl hx fun h' eb=>?_)
  refine wpAny_bind ?_
  unfold Builtin.Dict.addKeywords;refine wpAny_pure (wpAny_pure (h h' s.toks ?_ fun b o n1 n2 e=>eb b o n2 e))
  exact hd.extBut eb n1
 | succ k ih=>
  intro i kvs hk hi A R s h;obtain⟨hA,hit,hl,hd,hz,hq,h⟩:=h
  have hlt:i<ps.length:=by omega
  obtain⟨t,kv,e1,e2,e3,e4,e5⟩:=hq i ps[i] (af hlt)
  have hdr:ps.drop i=ps[i]::ps.drop (i+1):=drop_eq_getElem_cons hlt
  unfold Builtin.«dict.update.loop»;refine wpAny_bind (wpAny_pyNext_list_item hit hl e1 fun h1 st sb=>?_)
  have k1:∀b o,b≠it->s.heap.get? b=some o->h1.get? b=some o:=fun b o n e=>(sb.2 b n).trans e
  refine wpAny_bind (wpAny_holding (wpAny_bind (wpAny_tryCatch (a6P (show IsTup h1 t #[kv,ps[i].2] from let⟨o,ho,r⟩:=e4;⟨o,k1 t o e3 ho,r⟩) ?_))))
  refine wpAny_holding (wpAny_dictSet_pairs (hsz:=by omega) e5 (hd.sameBut sb n1) fun h2 dd sb2=>?_)
  have k2:∀b o,b≠d->b≠it->s.heap.get? b=some o->h2.get? b=some o:=fun b o n n' e=>(sb2.2 b n).trans (k1 b o n' e)
  refine wpAny_pure ⟨plainId_quiet K3 _,codeAny_builtin a0i (by
   rw[Around.under_plainId K3 _,show((i:Nat):Int)+1=((i+1:Nat):Int) by omega]
   refine ih (i+1) (stored kvs ps[i].1 ps[i].2) (by omega) (by omega) A R _ ⟨hA,?_,?_,dd,?_,fun j p hj=>?_,fun h' tk d1 d2=>?_⟩
   · obtain⟨o,ho,r⟩:=st;exact⟨o,(sb2.2 it n1.symm).trans ho,r⟩
   · obtain⟨o,ho,r⟩:=hl;exact⟨o,k2 l o n2.symm n3.symm ho,r⟩
   · have:=stored_length_le kvs ps[i].1 ps[i].2
     omega
   · obtain⟨t,kv,q1,q2,q3,⟨o,ho,r⟩,q5⟩:=hq j p hj;exact⟨t,kv,q1,q2,q3,⟨o,k2 t o q2 q3 ho,r⟩,q5⟩
   · refine h h' tk ?_ fun b o n n' e=>d2 b o n n' (k2 b o n n' e)
     rw[hdr];exact d1)⟩
theorem a2b{E:Value->Shared->Prop}{ol:Obj}{n:Nat}{ps:List (K×Value)}(hA:A.handled=none)(hx:s.heap.get? l=some ol)(hc:ol.cls=.type "list")(hdat:ol.data=.seq items n)(hd:ol.dict=none)(hsz:items.size=ps.length)(hz:ps.length<=sizeLine)
 (hq:∀(j:Nat) (p:K×Value),ps[j]? =some p->∃t kv,items[j]? =some (.ref t)/\IsTup s.heap t #[kv,p.2]/\knd.is p.1 kv=true)
 (h:∀h' tk,h'.DictOf knd s.heap.objs.size (merged [] ps)->(∀b o,s.heap.get? b=some o->h'.get? b=some o)->Q (.ref s.heap.objs.size) {s with heap:=h',toks:=tk}):
 wpAny (model prog w) A (call (.type "dict") [.ref l]) Q E s:=by
 refine callType_codes (Q₁:=fun obj s₁=>obj=.ref s.heap.objs.size/\s₁={s with heap:=s.heap.push {cls:=.type "dict",data:=.dict #[]}}) F.kt_called_dict (F.kt_typeCall_dict_1 _) F.entry_dict_init (kt_code_dict_new _ ⟨rfl,rfl⟩) ?_
 rintro obj s₁ ⟨rfl,rfl⟩
 have hnew:(s.heap.push {cls:=.type "dict",data:=.dict #[]}).DictOf knd s.heap.objs.size []:=Heap.DictOf.new s.heap
 have hx1:(s.heap.push {cls:=.type "dict",data:=.dict #[]}).get? l=some ol:=Heap.get?_push_of_some _ hx
 have ty:Shared.TypeIs {s with heap:=s.heap.push {cls:=.type "dict",data:=.dict #[]}} (.ref l) "list":=⟨_,hx1,hc⟩
 have nl:s.heap.objs.size≠l:=fun e=>absurd (Heap.lt_size hx) (by rw[e];exact aJ _)
 refine⟨hnew.typeIs,F.args_dict_init_2 _ _,?_⟩
 unfold Builtin.«dict.__init__»;refine wpAny_bind ?_
 unfold Builtin.Dict.selfAndRest;refine wpAny_bind (wpAny_notOrdered_dict hnew.typeIs ?_)
 show wpAny _ _ (pure (s.heap.objs.size,[Value.ref l])) _ _ _
 refine wpAny_pure ?_
 show wpAny _ _ (Builtin.Dict.updateFrom "dict.__init__" s.heap.objs.size (.ref l) [] .none) _ _ _
 unfold Builtin.Dict.updateFrom;refine wpAny_bind (wpAny_typeOf ty ?_)
 rw[av (by decide)]
 refine wpAny_bind (a8U hx1 hc hdat hd ?_ fun h1 tk1 k1=>?_)
 · exact hA
 · rw [av (show(none:Option Value).isNone=true from rfl)]
   have hx2:h1.get? l=some ol:=k1 l _ hx1
   have hd2:h1.DictOf knd s.heap.objs.size []:=hnew.keep k1
   have lt1:s.heap.objs.size<h1.objs.size:=by
    obtain⟨o,_,_,ho,_⟩:=hd2;exact Heap.lt_size ho
   refine wpAny_bind (wpAny_rule (wpAny_bind (wpAny_pyIter_list (items:=items) ⟨ol,hx2,hc,n,hdat⟩ ?_)))
   refine wpAny_pure ⟨plainId_quiet K3 _,codeAny_builtin a0i (by
    rw[Around.under_plainId K3 _];refine a9t (knd:=knd) (d:=s.heap.objs.size) (it:=h1.objs.size) (l:=l) (ps:=ps) (Nat.ne_of_lt lt1) nl (fun e=>absurd (Heap.lt_size hx2) (by rw[←e];exact aJ _)) hsz _ 0 [] rfl (Nat.zero_le _) A.in1 _ _ ⟨hA,⟨_,Heap.get?_push_size _ rfl,rfl,rfl⟩,⟨ol,Heap.get?_push_of_some _ hx2,hc,n,hdat⟩,hd2.push _,by simpa using hz,fun j p hj=>?_,fun h' tk d1 d2=>⟨rfl,?_⟩⟩
    · obtain⟨t,kv,q1,⟨o,ho,r⟩,q3⟩:=hq j p hj;have ho1:=k1 t o (Heap.get?_push_of_some _ ho)
      exact⟨t,kv,q1,fun e=>absurd (Heap.lt_size ho) (by rw[e];exact aJ _),fun e=>absurd (Heap.lt_size ho1) (by rw[e];exact aJ _),⟨o,Heap.get?_push_of_some _ ho1,r⟩,q3⟩
    · refine h h' tk (by rwa [drop_zero] at d1) fun b o e=>d2 b o (fun z=>absurd (Heap.lt_size e) (by rw[z];exact aJ _)) (fun z=>?_) (Heap.get?_push_of_some _ (k1 b o (Heap.get?_push_of_some _ e)))
      have:=Heap.lt_size (k1 b o (Heap.get?_push_of_some _ e))
      rw[z] at this;exact absurd this (aJ _))⟩
end
end PySem
namespace L2
open PySem PySem.Spec PyProof.Rows
def PrT(H:Hp):List V->List (Key×V)->Prop:=Paired fun y p=>∃t,y=.ref t/\H t=some (.tup [kV p.1,p.2])
section
variable{X:Cx}
theorem b0n{pins:List (Addr×Obj)}{σ:St}{H:Hp}{s:Shared}(I:Inv X pins σ H s):∀{ys:List V} {kvs:List (Key×V)} {its:List Value},PrT H ys kvs->k8 ys its->∃ps:List (Key×Value),KV kvs ps/\ps.length=its.length/\∀(j:Nat) (p:Key×Value),ps[j]? =some p->∃t kv,its[j]? =some (.ref t)/\IsTup s.heap t #[kv,p.2]/\(u6 X.prog X.w).is p.1 kv=true
 |_,_,_,.nil,.nil=>⟨[],.nil,rfl,fun j p h=>by simp at h⟩
 | _,_,_,.cons h t,.cons r q=>by
  obtain⟨ps,k1,k2,k3⟩:=b0n I t q;obtain⟨a,rfl,ha⟩:=h;cases r;obtain⟨_,its,rv,pa⟩:=I.hok a _ ha;obtain⟨u,w,rfl,ru,rw'⟩:=a9s rv;refine⟨(_,w)::ps,.cons ⟨rfl,rw'⟩ k1,by rw[length_cons,length_cons,k2],fun j p hj=>?_⟩
  cases j with
  |zero=>
   cases hj;exact⟨a,u,rfl,pa.tup,Z9 ru⟩
  |succ j=>exact k3 j p hj
theorem a5q(hc:X.calm=true):G8 X (.type "dict") (fun xs H Q=>∃p ys kvs,xs=[.ref p]/\SqL X.K H p ys/\PrT H ys kvs/\∀d,H d=none->Q (.ref d) (upd H d (.dK (W7 [] kvs)))):=by
 intro pins s σ H xs us Q I r h;obtain⟨p,ys,kvs,rfl,hq,pr,q⟩:=h;obtain⟨u,rfl,rx⟩:=V2 r;cases rx;obtain⟨its,rv,pl,hz⟩:=I.list hq;obtain⟨o,n,e,c,hd,dat⟩:=pl;obtain⟨ps,k1,k2,k3⟩:=b0n I pr rv;have l1:=rv.length;have l2:=Paired.length pr;refine a2b (knd:=u6 X.prog X.w) (items:=its.toArray) (ps:=ps) (I.ok.hd hc) e c dat hd (by simp[k2]) (by omega) (fun j p hj=>?_) fun h' tk dd kp=>?_
 · obtain⟨t,kv,q1,q2,q3⟩:=k3 j p hj;exact⟨t,kv,by simpa using q1,q2,q3⟩
 · have hl:=U6 kvs [];rw[length_nil] at hl;exact⟨.ref s.heap.objs.size,_,I.laid (t':=tk) (fun b o e=>kp b o e) (ai _) (a7l (by omega) (beq_eq_false_iff_ne.mpr (Nat.ne_of_gt I.big)) (k1.merge .nil) dd),rfl,q _ (I.hok.fresh (ai _))⟩
end
end L2
namespace PySem
open Sem (wp)
variable{l:Addr}{items:Array Value}{Q:Value->Shared->Prop}
section
variable{prog:Program}{w:World}{A:Around}{E:Value->Shared->Prop}{s:Shared}
theorem b3e:typeLookup (.type "list_reverseiterator") "__len__"=pure none:=by rw[typeLookup_type,builtinLookup_eq_fast];kernel_rfl
theorem b0K:typeLookup (.type "list_reverseiterator") "__length_hint__"=pure (some (.builtin "list_reverseiterator.__length_hint__")):=by rw[typeLookup_type,builtinLookup_eq_fast];kernel_rfl
theorem a9V{r:Addr}(hT:s.TypeIs (.ref r) "list_reverseiterator"){Q:Bool->Shared->Prop}(h:Q false s):wpAny (model prog w) A (Builtin.List.listLengthHint (.ref r)) Q E s:=by
 unfold Builtin.List.listLengthHint;refine wpAny_bind (wpAny_specialOf hT b3e ?_)
 show wpAny _ A (specialOf (Value.ref r) (Str.ofString "__length_hint__")>>=_) _ _ _
 refine wpAny_bind (wpAny_specialOf hT b0K ?_)
 generalize hid:("list_reverseiterator.__length_hint__":String)=id0
 wp_delta
 rw[show splitId id0=some ("list_reverseiterator","__length_hint__") from by subst hid;decide+kernel]
 subst hid;refine wpAny_bind (wpAny_isInstance (T:="list_reverseiterator") (b:=true) hT (by rw[isSubtype_type];kernel_rfl) ?_)
 refine wpAny_ite_split (fun hab=>absurd hab (by decide)) (fun _=>?_)
 refine wpAny_ite_split (fun _=>?_) (fun hab=>absurd (by decide+kernel) hab)
 refine wpAny_ite_split (fun hab=>absurd hab (by decide)) (fun _=>?_)
 exact wpAny_pure h
theorem a9U{R:Result->Shared->Prop}{S I:Addr}(hh:A.handled=none)(nSI:S≠I)(nS:l≠S)(nI:l≠I)(hn:items.size<=sizeLine)(res:Value){h0:Heap}
 (done:∀(g:Heap) (acc:Array Value) (c:Nat),(∀b o,b≠S->b≠I->h0.get? b=some o->g.get? b=some o)->g.get? S=some {cls:=.type "list",dict:=none,data:=.seq acc c,slots:= #[]}->acc.toList=items.toList.reverse->R (.ok (.ret res)) {s with heap:=g}):
 ∀(k i:Nat) (h:Heap) (c:Nat) (acc:Array Value),items.size-i=k->i<=items.size->h.IsRevIter I l ((items.size:Int)-1-(i:Int))->h.IsList l items->(∀b o,b≠S->b≠I->h0.get? b=some o->h.get? b=some o)→
  h.get? S=some {cls:=.type "list",dict:=none,data:=.seq acc c,slots:= #[]}->acc.toList=items.toList.reverse.take i->codeAny (model prog w) A (.builtin "list.extend.loop" ⟨[.ref S,.ref I,res],[]⟩) R {s with heap:=h}:=by
 intro k
 induction k with
 |zero=>
  intro i h c acc hk hi st hl kp hS ha
  have e:(items.size:Int)-1-(i:Int)= -1:=by omega
  rw[e] at st;refine codeAny_builtin F.entry_extend_loop ?_
  rw[Around.under_plainId F.plain_extend_loop _]
  show wpAny _ A.in1 (pyNext (.ref I)>>=_) _ _ _
  refine wpAny_bind (wpAny_pyNext_rev_end (s:={s with heap:=h}) (A:=A.in1) hh st fun g eb=>wpAny_pure (done g acc c (fun b o b1 b2 e=>eb b o b2 (kp b o b1 b2 e)) (eb S _ nSI hS) ?_))
  rw[ha];exact aU (by rw[length_reverse,Array.length_toList];omega)
 | succ k ih=>
  intro i h c acc hk hi st hl kp hS ha
  have li:i<items.size:=by omega
  have e:(items.size:Int)-1-(i:Int)=((items.size-1-i:Nat):Int):=by omega
  have hx:items[items.size-1-i]? =some (items[items.size-1-i]'(by omega)):=Array.getElem?_eq_getElem (by omega)
  have zs:acc.size=i:=by rw[←Array.length_toList,ha,aG,length_reverse,Array.length_toList];omega
  rw[e] at st;refine codeAny_builtin F.entry_extend_loop ?_
  rw[Around.under_plainId F.plain_extend_loop _]
  show wpAny _ A.in1 (pyNext (.ref I)>>=_) _ _ _
  refine wpAny_bind (wpAny_pyNext_rev_item (s:={s with heap:=h}) st hl hx fun g st2 k2=>?_)
  have e2:((items.size-1-i:Nat):Int)-1=(items.size:Int)-1-((i+1:Nat):Int):=by omega
  rw[e2] at st2;generalize items[items.size-1-i]'(by omega)=x at hx⊢
  have kk:∀b o,b≠I->h.get? b=some o->g.get? b=some o:=fun b o hb e=>(k2.2 b hb).trans e
  have hS2:=kk S _ nSI hS
  have up:∀b o,b≠S->g.get? b=some o->(g.update S (Obj.mapSeq (·.push x))).get? b=some o:=fun b o hb e=>(Heap.get?_update_other _ _ (Ne.symm hb)).trans e
  show wpAny _ A.in1 (updateSeq S (·.push x)>>=_) _ _ _
  refine wpAny_bind (wpAny_updateSeq hS2 rfl (wpAny_pure ⟨plainId_quiet F.plain_extend_loop _,?_⟩) (by rw[zs];omega) (by show(acc.push x).size<=sizeLine+1;rw[Array.size_push,zs];omega))
  refine ih (i+1) _ _ (acc.push x) (by omega) li (st2.at fun o e=>up I o (Ne.symm nSI) e) (hl.at fun o e=>up l o nS (kk l o nI e)) (fun b o b1 b2 e=>up b o b1 (kk b o b2 (kp b o b1 b2 e))) (Heap.get?_update_self _ hS2 rfl) ?_
  have lr:i<items.toList.reverse.length:=by rw[length_reverse,Array.length_toList];exact li
  rw[Array.toList_push,ha,take_succ_eq_append_getElem lr];congr 2
  have:items.toList.reverse[i]? =some x:=by
   rw[List.getElem?_reverse (by rw[Array.length_toList];exact li),Array.length_toList,Array.getElem?_toList]
   exact hx
  exact(au ((af lr).symm.trans this)).symm
theorem b2y{R:Result->Shared->Prop}{I S:Addr}{c0:Nat}(hh:A.handled=none)(hv:s.heap.IsRevIter I l ((items.size:Int)-1))(hl:s.heap.IsList l items)(nSI:S≠I)(nS:l≠S)(nI:l≠I)(res:Value)(hS:s.heap.get? S=some {cls:=.type "list",data:=.seq #[] c0})(hn:items.size<=sizeLine)
 (done:∀(g:Heap) (acc:Array Value) (c:Nat),(∀b o,b≠S->b≠I->s.heap.get? b=some o->g.get? b=some o)->g.get? S=some {cls:=.type "list",dict:=none,data:=.seq acc c,slots:= #[]}->acc.toList=items.toList.reverse->R (.ok (.ret res)) {s with heap:=g}):
 wpAny (model prog w) A.in1 (Builtin.List.listExtendWith (.ref S) (.ref I) res) (fun fin s'=>match fin with|.done f=>R (.ok f) s'|.again c'=>c'.quiet=true/\codeAny (model prog w) A c' R s') (fun e s'=>R (.error e) s') s:=by
 unfold Builtin.List.listExtendWith;refine wpAny_bind (wpAny_typeOf (T:="list_reverseiterator") hv.typeIs ?_)
 have n1:Builtin.List.listSameRef (.ref S) (.ref I)=false:=by simp[Builtin.List.listSameRef,nSI]
 have n2:(Value.type "list_reverseiterator"==Value.type "list")=false:=by decide
 have n3:(Value.type "list_reverseiterator"==Value.type "tuple")=false:=by decide
 simp only[n1,n2,n3,Bool.or_false,Bool.false_eq_true,if_false];refine wpAny_bind (wpAny_pyIter_revIter hv ?_)
 refine wpAny_bind (wpAny_holding (a9V hv.typeIs ?_))
 refine wpAny_ite_split (fun hab=>absurd hab (by decide+kernel)) fun _=>wpAny_pure ⟨plainId_quiet F.plain_extend_loop _,?_⟩
 exact a9U (s:=s) (h0:=s.heap) hh nSI nS nI hn res done items.size 0 s.heap c0 #[] (Nat.sub_zero _) (Nat.zero_le _) (by rw[Int.ofNat_zero,Int.sub_zero];exact hv) hl (fun _ _ _ _ e=>e) hS rfl
theorem a9W{I:Addr}(hh:A.handled=none)(hv:s.heap.IsRevIter I l ((items.size:Int)-1))(hl:s.heap.IsList l items)(nI:l≠I)(hn:items.size<=sizeLine)
 (done:∀(g:Heap) (acc:Array Value) (c:Nat),(∀b o,b≠I->s.heap.get? b=some o->g.get? b=some o)->g.get? s.heap.objs.size=some {cls:=.type "list",dict:=none,data:=.seq acc c,slots:= #[]}->acc.toList=items.toList.reverse->Q (.ref s.heap.objs.size) {s with heap:=g}):
 wpAny (model prog w) A (call (.type "list") [.ref I]) Q E s:=by
 refine callType_codes (Q₁:=fun o s1=>o=.ref s.heap.objs.size/\s1={s with heap:=s.heap.push {cls:=.type "list",data:=.seq #[]}}) F.called_list (F.typeCall_list_1 _) F.entry_list_init (code_list_new _ ⟨rfl,rfl⟩) fun o s1 x=>?_
 obtain⟨rfl,rfl⟩:=x
 have hS:(s.heap.push {cls:=.type "list",data:=.seq #[]}).get? s.heap.objs.size=some {cls:=.type "list",data:=.seq #[]}:=Heap.get?_push_size _ rfl
 have lr:I<s.heap.objs.size:=let⟨_,ho,_⟩:=hv;Heap.lt_size ho
 have ld:l<s.heap.objs.size:=let⟨_,ho,_⟩:=hl;Heap.lt_size ho
 refine⟨⟨_,hS,rfl⟩,F.args_list_init_2 _ _,?_⟩
 show wpAny _ _ (do let old←Builtin.List.listItems (.ref s.heap.objs.size);Builtin.List.listUpdate (.ref s.heap.objs.size) (fun _=> #[]);letGo old.toList.reverse;Builtin.List.listExtendWith (.ref s.heap.objs.size) (.ref I) .none) _ _ _
 refine wpAny_bind ?_
 unfold Builtin.List.listItems;refine wpAny_bind (wpAny_seqItems hS rfl (wpAny_pure ?_))
 show wpAny _ _ (updateSeq s.heap.objs.size (fun _=> #[])>>=fun _=>letGo (#[]:Array Value).toList.reverse>>=fun _=>Builtin.List.listExtendWith (.ref s.heap.objs.size) (.ref I) .none) _ _ _
 refine wpAny_bind (wpAny_updateSeq hS rfl (wpAny_bind (wpAny_letGo ?_)))
 have hS2:=Heap.get?_update_self (Obj.mapSeq (fun _=>(#[]:Array Value))) hS rfl
 have up:∀b o,b≠s.heap.objs.size->s.heap.get? b=some o->((s.heap.push {cls:=.type "list",data:=.seq #[]}).update s.heap.objs.size (Obj.mapSeq (fun _=>(#[]:Array Value)))).get? b=some o:=fun b o hb e=>(Heap.get?_update_other _ _ (Ne.symm hb)).trans (Heap.get?_push_of_some _ e)
 refine b2y (A:=A.in1) hh (hv.at fun o e=>up I o (Nat.ne_of_lt lr) e) (hl.at fun o e=>up l o (Nat.ne_of_lt ld) e) (Nat.ne_of_gt lr) (Nat.ne_of_lt ld) nI .none hS2 hn fun g acc c kp hS3 ha=>⟨rfl,?_⟩
 exact done g acc c (fun b o hb e=>kp b o (Nat.ne_of_lt (Heap.lt_size e)) hb (up b o (Nat.ne_of_lt (Heap.lt_size e)) e)) hS3 ha
end
end PySem
namespace L2
open PySem PySem.Spec PyProof.Rows
section
variable{X:Cx}{o:Expr}{to:TE}{p p2 pos pos2:Pos}
def b9O(to:TE):TE:=fun σ H Q=>to σ H fun x H1=>∃l xs,x=.ref l/\H1 l=some (.lst xs)/\∀p,H1 p=none->Q (.ref p) (upd H1 p (.lst xs.reverse))
theorem b5j(hg:Gl X "list")(hm:X.mg "list"=none)(hg2:Gl X "reversed")(hm2:X.mg "reversed"=none)(hc:X.calm=true)(ho:PE X o to)(hp:starEach [o] X.env=[(false,eval o X.env)]):
 PE X (.Call (.Name "list" p) [.Call (.Name "reversed" p2) [o] [] pos2] [] pos) (b9O to):=by
 intro pins s σ H Q I h;refine Call_ (Z7 I hg hm boot_list (PyProof.Rows.callWith_type1 ?_ rfl rfl))
 show wpAny _ _ (spliced [(false,eval (.Call (.Name "reversed" p2) [o] [] pos2) X.env)]) _ _ s
 refine Calls.spliced_cons (Call_ (Z7 I hg2 hm2 boot_reversed (PyProof.Rows.callWith_type1 ?_ (by rw[hp];rfl) rfl)))
 rw[hp];refine Calls.spliced_cons (thn (ho pins s σ H _ I h) fun v s1 ⟨x,H1,I1,r1,l,xs,ex,hd,q1⟩=>Calls.spliced_nil ?_)
 subst ex;cases r1;obtain⟨z,its,n,vs,e1⟩:=I1.hok l _ hd
 have zl:its.length=xs.length:=(k8.length vs).symm
 have il:s1.heap.IsList l its.toArray:=⟨_,e1,rfl,n,rfl⟩
 have ll:l<s1.heap.objs.size:=Heap.lt_size e1
 refine call_reversed_list il (Calls.spliced_nil ?_)
 refine a9W (I:=s1.heap.objs.size) (l:=l) (items:=its.toArray) (I1.ok.hd hc) ⟨_,Heap.get?_push_size _ rfl,rfl,rfl⟩ (il.at fun o e=>Heap.get?_push_of_some _ e) (Nat.ne_of_lt ll) (by rw[size_toArray,zl];exact z) fun g acc c kp hS ha=>?_
 have kp1:∀b u,s1.heap.get? b=some u->g.get? b=some u:=fun b u e=>kp b u (Nat.ne_of_lt (Heap.lt_size e)) (Heap.get?_push_of_some _ e)
 have gs:s1.heap.objs.size<=(s1.heap.push (revObj l ((its.toArray.size:Int)-1))).objs.size:=by rw[Heap.size_push];exact Nat.le_succ _
 generalize (s1.heap.push (revObj l ((its.toArray.size:Int)-1))).objs.size=S at hS gs⊢;refine⟨.ref S,_,I1.laid (t':=s1.toks) kp1 gs (show B0 X.prog X.w _ _ _ (.lst xs.reverse) from⟨by rw[length_reverse];exact z,its.reverse,c,k8.reverse vs,?_⟩),rfl,q1 S (I1.hok.fresh gs)⟩
 rw[show its.reverse.toArray=acc by apply Array.ext';rw[ha]]
 exact hS
end
section
variable{X:Cx}
theorem a3h{x:V}:∀{xs:List V} {us:List Value},k8 xs us->xs.all E9=true->us.countP (eqU x)=xs.countP fun y=>eqV y x
 |_,_,.nil,_=>rfl
 |y::xs,u::us,.cons r t,f=>by
  rw[all_cons,ae] at f;rw[countP_cons,countP_cons,a5i r f.1,a3h t f.2]
def b7J:V->List V->Hp->VK->Prop:=fun x vs H Q=>∃l xs y,x=.ref l/\vs=[y]/\H l=some (.lst xs)/\E9 y=true/\xs.all E9=true/\Q (.int (xs.countP fun z=>eqV z y:Nat)) H
theorem b3a:MtM X "list.count" b7J:=by
 intro pins s σ H x vs v us Q I rx rv h;obtain⟨l,xs,y,rfl,rfl,hH,fy,fs,q⟩:=h;cases rx;obtain⟨u,rfl,ru⟩:=rv.one;obtain⟨z,its,n,r,hl,e⟩:=I.lstM hH;refine call_meets F.slot_list_count ⟨_,e,rfl⟩ F.entry_list_count (F.args_list_count_2 _ _) (SeqAt.list_countAt l its.toArray n none #[] u (eqU y)) ⟨e,fun w hw=>Q8 ru fy r fs w (by simpa using hw),⟨.int _,H,I.tok _,⟨_,rfl⟩,?_⟩⟩
 rw[show its.toArray.toList.countP (eqU y)=xs.countP fun z=>eqV z y from a3h r fs]
 exact q
def b7I:V->List V->Hp->VK->Prop:=fun x vs H Q=>∃l xs y j,x=.ref l/\vs=[y]/\H l=some (.lst xs)/\E9 y=true/\xs.all E9=true/\(∃w,xs[j]? =some w/\eqV w y=true)/\(∀i w,i<j->xs[i]? =some w->eqV w y=false)/\Q (.int (j:Nat)) H
theorem b2Z:MtM X "list.index" b7I:=by
 intro pins s σ H x vs v us Q I rx rv h;obtain⟨l,xs,y,j,rfl,rfl,hH,fy,fs,⟨w,hw,ew⟩,hno,q⟩:=h;cases rx;obtain⟨u,rfl,ru⟩:=rv.one;obtain⟨z,its,n,r,hl,e⟩:=I.lstM hH
 have hs:sizeLine<2^62:=by rw[sizeLine_eq];decide
 have flat:∀i w,xs[i]? =some w->E9 w=true:=fun i w h=>aX.mp fs w (mem_iff_getElem?.mpr ⟨i,h⟩)
 have at':∀i w,xs[i]? =some w->∀hi:i<its.toArray.size,eqU y its.toArray[i]=eqV w y:=fun i w h hi=>by
  obtain⟨u',hu',ru'⟩:=r.get h
  have:its.toArray[i]=u':=by
   have h2:its[i]? =some its.toArray[i]:=by simp[af (show i<its.length by simpa using hi)]
   rw[hu'] at h2;exact(au h2).symm
  rw[this,a5i ru' (flat i w h)]
 have hj:j<its.toArray.size:=by
  have:=(ac.mp hw).1
  rw[size_toArray];omega
 have hj2:=hj;rw[size_toArray] at hj2;refine call_meets F.slot_list_index ⟨_,e,rfl⟩ F.entry_list_index (F.args_list_index_2 _ _) (SeqAt.list_indexAt l its.toArray n none #[] u (eqU y) j hj (by omega) (by rw[at' j w hw];exact ew) fun m hm hlt=>?_) ⟨e,fun w hw=>Q8 ru fy r fs w (by simpa using hw),⟨.int _,H,I.tok _,⟨_,rfl⟩,q⟩⟩
 have hm2:m<xs.length:=by rw[size_toArray] at hm;omega
 rw[at' m xs[m] (af hm2)]
 exact hno m _ hlt (af hm2)
theorem a5h{a b:Str}:eqV (.str a) (.str b)=decide (a=b):=by
 show(a==b)=decide (a=b)
 by_cases h:a=b
 · subst h;simp
 · simp[h]
theorem flat_strs:∀ts:List Str,(ts.map V.str).all E9=true
 |[]=>rfl
 |_::r=>flat_strs r
def rLm(k:Bool):V->List V->Hp->VK->Prop:=fun x vs H Q=>∃(l:Addr) (ts:List Str) (z:Str),x=.ref l/\vs=[.str z]/\H l=some (.lst (ts.map V.str))/\(if k=true then∃j,ts.findIdx? (fun y=>decide (y=z))=some j/\Q (.int (j:Nat)) H else Q (.int (ts.countP fun y=>decide (y=z):Nat)) H)
theorem b5F:MtM X "list.count" (rLm false):=by
 rintro pins s σ H x vs v us Q I rx rv ⟨l,ts,z,rfl,rfl,hH,q⟩;refine b3a pins s σ H _ _ v us Q I rx rv ⟨l,_,_,rfl,rfl,hH,rfl,flat_strs ts,?_⟩
 rw[List.countP_map,show((fun y=>eqV y (.str z))∘V.str)=fun y=>decide (y=z) from funext fun y=>a5h]
 exact q
theorem b5E:MtM X "list.index" (rLm true):=by
 rintro pins s σ H x vs v us Q I rx rv ⟨l,ts,z,rfl,rfl,hH,j,hj,q⟩;obtain⟨hl,h1,h2⟩:=List.findIdx?_eq_some_iff_getElem.mp hj
 refine b2Z pins s σ H _ _ v us Q I rx rv ⟨l,_,_,j,rfl,rfl,hH,rfl,flat_strs ts,⟨.str ts[j],by rw[aj,af hl];rfl,by rw[a5h];exact h1⟩,fun i w hi e=>?_,q⟩
 rw[aj,af (by omega)] at e
 cases e;rw[a5h]
 have:=h2 i hi
 simpa using this
end
end L2
namespace EV
open PySem L2
inductive D where
 |non|bl (b:Bool)|int (i:Int)|str (x:Str)|tup (l:List D)|ref (n:Nat)
 deriving Inhabited
mutual
def D.dec:(a b:D)->Decidable (a=b)
  | .non,b=>match b with
    |.non=>Decidable.isTrue rfl
    |.bl _=>Decidable.isFalse (fun h=>nomatch h)|.int _=>Decidable.isFalse (fun h=>nomatch h)|.str _=>Decidable.isFalse (fun h=>nomatch h)|.tup _=>Decidable.isFalse (fun h=>nomatch h)|.ref _=>Decidable.isFalse (fun h=>nomatch h)
  | .bl x,b=>match b with
    |.bl y=>if h:x=y then Decidable.isTrue (by rw[h]) else Decidable.isFalse (fun e=>h (by injection e))
    |.non=>Decidable.isFalse (fun h=>nomatch h)|.int _=>Decidable.isFalse (fun h=>nomatch h)|.str _=>Decidable.isFalse (fun h=>nomatch h)|.tup _=>Decidable.isFalse (fun h=>nomatch h)|.ref _=>Decidable.isFalse (fun h=>nomatch h)
  | .int x,b=>match b with
    |.int y=>if h:x=y then Decidable.isTrue (by rw[h]) else Decidable.isFalse (fun e=>h (by injection e))
    |.non=>Decidable.isFalse (fun h=>nomatch h)|.bl _=>Decidable.isFalse (fun h=>nomatch h)|.str _=>Decidable.isFalse (fun h=>nomatch h)|.tup _=>Decidable.isFalse (fun h=>nomatch h)|.ref _=>Decidable.isFalse (fun h=>nomatch h)
  | .str x,b=>match b with
    |.str y=>if h:x=y then Decidable.isTrue (by rw[h]) else Decidable.isFalse (fun e=>h (by injection e))
    |.non=>Decidable.isFalse (fun h=>nomatch h)|.bl _=>Decidable.isFalse (fun h=>nomatch h)|.int _=>Decidable.isFalse (fun h=>nomatch h)|.tup _=>Decidable.isFalse (fun h=>nomatch h)|.ref _=>Decidable.isFalse (fun h=>nomatch h)
  | .tup x,b=>match b with
    | .tup y=>match D.decs x y with
      |.isTrue h=>Decidable.isTrue (by rw[h])
      |.isFalse h=>Decidable.isFalse (fun e=>h (by injection e))
    |.non=>Decidable.isFalse (fun h=>nomatch h)|.bl _=>Decidable.isFalse (fun h=>nomatch h)|.int _=>Decidable.isFalse (fun h=>nomatch h)|.str _=>Decidable.isFalse (fun h=>nomatch h)|.ref _=>Decidable.isFalse (fun h=>nomatch h)
  | .ref x,b=>match b with
    |.ref y=>if h:x=y then Decidable.isTrue (by rw[h]) else Decidable.isFalse (fun e=>h (by injection e))
    |.non=>Decidable.isFalse (fun h=>nomatch h)|.bl _=>Decidable.isFalse (fun h=>nomatch h)|.int _=>Decidable.isFalse (fun h=>nomatch h)|.str _=>Decidable.isFalse (fun h=>nomatch h)|.tup _=>Decidable.isFalse (fun h=>nomatch h)
def D.decs:(a b:List D)->Decidable (a=b)
  | [],b=>match b with
    |[]=>Decidable.isTrue rfl
    |_::_=>Decidable.isFalse (fun h=>nomatch h)
  | x ::xs,b=>match b with
    |[]=>Decidable.isFalse (fun h=>nomatch h)
    | y ::ys=>match D.dec x y with
      | .isTrue h1=>match D.decs xs ys with
        |.isTrue h2=>Decidable.isTrue (by rw[h1,h2])
        |.isFalse h2=>Decidable.isFalse (fun e=>h2 (by injection e))
      |.isFalse h1=>Decidable.isFalse (fun e=>h1 (by injection e))
end
instance:DecidableEq D:=D.dec
inductive Cell where
 |lst (l:List D)|rol (l:List D)|dict (l:List (D×D))|obj (c:Nat) (fs:List (Str×D))
 deriving DecidableEq
abbrev AH:=List Cell
inductive R(α:Type)where
 |ok (a:α) (h:AH)|no
def R.bind{α β:Type}(r:R α)(k:α->AH->R β):R β:=match r with
 |.ok a h=>k a h
 |.no=>.no
@[simp] theorem b8 {α β:Type} (a:α) (h:AH) (k:α->AH->R β):(R.ok a h).bind k=k a h:=rfl
@[simp] theorem b4d {α β:Type} (k:α->AH->R β):(R.no).bind k=.no:=rfl
mutual
def D.flat:D->Bool
  |.tup l=>D.flats l
  |.ref _=>false
  |_=>true
def D.flats:List D->Bool
  |[]=>true
  |d::r=>d.flat&&D.flats r
end
abbrev SL:Nat:=16777216
noncomputable def y9(c:Cell)(h:AH):R D:=.ok (.ref h.length) (h++[c])
noncomputable def rdL(h:AH)(n:Nat):Option (List D):=match h[n]? with
 |some (.lst l)=>some l
 |some (.rol l)=>some l
 |_=>none
noncomputable def a2f:Int->Bool
 |.ofNat n=>Nat.ble n 18446744073709551615
 |.negSucc n=>Nat.ble n 18446744073709551614
noncomputable def a1B:Int->Bool
 |.ofNat n=>Nat.ble n 16777216
 |.negSucc n=>Nat.ble n 16777216
theorem a2z:∀{i:Int},a2f i=true-> -(2^64)<i/\i<2^64
 |.ofNat n,h=>by
  have h:=Nat.le_of_ble_eq_true h
  show-(2^64)<(n:Int)/\(n:Int)<2^64
  omega
 |.negSucc n,h=>by
  have h:=Nat.le_of_ble_eq_true h;rw[Int.negSucc_eq];omega
theorem Q4:∀{i:Int},a1B i=true-> -(2^62)<=i/\i<2^62
 |.ofNat n,h=>by
  have h:=Nat.le_of_ble_eq_true h
  show-(2^62)<=(n:Int)/\(n:Int)<2^62
  omega
 |.negSucc n,h=>by
  have h:=Nat.le_of_ble_eq_true h;rw[Int.negSucc_eq];omega
def V8(h:AH):D->D->R D
 |.int i,.int j=>.ok (.int (i+j)) h
 |.str x,.str y=>if x.length+y.length<=SL then .ok (.str (x++y)) h else .no
 |.ref a,.ref b=>match h[a]?,h[b]? with
  |some (.lst xs),some (.lst ys)=>if xs.length+ys.length<=SL then y9 (.lst (xs++ys)) h else .no
  |_,_=>.no
 |.tup xs,.tup ys=>if xs≠[]/\xs.length+ys.length<=SL then .ok (.tup (xs++ys)) h else .no
 |_,_=>.no
noncomputable def a5S(h:AH):D->D->R D
 |.int i,.int j=>.ok (.int (i-j)) h
 |_,_=>.no
def N2(h:AH):D->D->R D
 |.int i,.int j=>if(a2f i||a2f j)=true then .ok (.int (i*j)) h else .no
 |.ref a,.int k=>match h[a]? with
  |some (.lst xs)=>if a1B k=true/\xs.length*k.toNat<=SL then y9 (.lst (List.replicate k.toNat xs).flatten) h else .no
  |_=>.no
 |.str x,.int k=>if a1B k=true/\x.length*k.toNat<=SL then .ok (.str (D7 k.toNat x)) h else .no
 |_,_=>.no
noncomputable def w8(h:AH):D->D->R D
 |.int i,.int j=>if 0<j/\j<1073741824 then .ok (.int (i/j)) h else .no
 |_,_=>.no
noncomputable def u9(h:AH):D->D->R D
 |.int i,.int j=>if 0<j then .ok (.int (i%j)) h else .no
 |_,_=>.no
noncomputable def eqS:D->D->Option Bool
 |.non,.non=>some true|.non,.int _=>some false|.int _,.non=>some false|.non,.bl _=>some false|.bl _,.non=>some false|.non,.str _=>some false|.str _,.non=>some false
 |.int i,.int j=>some (decide (i=j))|.bl i,.bl j=>some (decide (i=j))|.str i,.str j=>some (decide (i=j))
 |.int _,.str _=>some false|.str _,.int _=>some false|.bl _,.str _=>some false|.str _,.bl _=>some false
 |_,_=>none
noncomputable def E6(p:Int->Int->Bool)(h:AH):D->D->R D
 |.int i,.int j=>.ok (.bl (p i j)) h
 |_,_=>.no
noncomputable def a4M(i j:Str):Bool:=!(Builtin.Str.occurrences j i 0 j.length 1).isEmpty
noncomputable def w6:D->Bool
 |.non=>true|.bl _=>true|.int _=>true|.str _=>true
 |_=>false
noncomputable def eqF:D->D->Bool
 |.non,.non=>true
 |.bl a,.bl b=>a==b
 |.bl a,.int b=>(if a then 1 else 0)==b
 |.int a,.bl b=>a==(if b then 1 else 0)
 |.int a,.int b=>a==b
 |.str a,.str b=>a==b
 |_,_=>false
def inD(x:D)(xs:List D):Bool:=xs.any fun y=>eqF y x
def b1D:List D->List D->Bool
 |[],[]=>true
 |x::xs,y::ys=>eqF x y&&b1D xs ys
 |_,_=>false
def b1C(h:AH):D->D->Option Bool
 |.ref i,.ref j=>match rdL h i,rdL h j with
  |some xs,some ys=>if xs.all w6&&ys.all w6 then some (b1D xs ys) else none
  |_,_=>none
 |_,_=>none
def C0(h:AH)(a b:D):R D:=match eqS a b with
 |some c=>.ok (.bl c) h
 |none=>match b1C h a b with
  |some c=>.ok (.bl (c !=false)) h
  |none=>.no
def a1h(h:AH)(a b:D):R D:=match eqS a b with
 |some c=>.ok (.bl (!c)) h
 |none=>match b1C h a b with
  |some c=>.ok (.bl (c !=true)) h
  |none=>.no
noncomputable def J6:D->Option Key
 |.int i=>some (.inl i)
 |.str x=>some (.inr x)
 |_=>none
def E7:List D->Option (List Key)
 |[]=>some []
 |d::r=>match J6 d,E7 r with
  |some k,some ks=>some (k::ks)
  |_,_=>none
def J0:D->Option Bool
 |.int _=>some false
 |.str _=>some false
 |.tup l=>if(E7 l).isSome then some true else none
 |_=>none
def F9(k:D)(kvs:List (D×D)):Bool:=(J0 k).isSome&&kvs.all fun p=>J0 p.1==J0 k
noncomputable def n9(kvs:List (D×D))(k:D):Option D:=(kvs.find? fun p=>decide (p.1=k)).map (·.2)
noncomputable def a1g(kvs:List (D×D))(k v:D):List (D×D):=if(kvs.any fun p=>decide (p.1=k))=true then kvs.map (fun p=>if p.1=k then(p.1,v) else p) else kvs++[(k,v)]
def O1(neg:Bool)(h:AH):D->D->R D
 |.str i,.str j=>.ok (.bl (a4M i j !=neg)) h
 |x,.tup xs=>if w6 x&&xs.all w6 then .ok (.bl (inD x xs !=neg)) h else .no
 |x,.ref n=>match h[n]? with
  |some (.lst xs)=>if w6 x&&xs.all w6 then .ok (.bl (inD x xs !=neg)) h else .no
  |some (.rol xs)=>if w6 x&&xs.all w6 then .ok (.bl (inD x xs !=neg)) h else .no
  |some (.dict kvs)=>if F9 x kvs then .ok (.bl ((n9 kvs x).isSome !=neg)) h else .no
  |_=>.no
 |_,_=>.no
inductive B where
 |add|sub|mul|div|mod|eq|ne|lt|le|gt|ge|isin|notin
 deriving DecidableEq
def op2(o:B)(h:AH)(a b:D):R D:=match o with
 |.add=>V8 h a b|.sub=>a5S h a b|.mul=>N2 h a b|.div=>w8 h a b|.mod=>u9 h a b
 |.eq=>C0 h a b|.ne=>a1h h a b
 |.lt=>E6 (fun i j=>decide (i<j)) h a b|.le=>E6 (fun i j=>decide (i<=j)) h a b|.gt=>E6 (fun i j=>decide (j<i)) h a b|.ge=>E6 (fun i j=>decide (j<=i)) h a b
 |.isin=>O1 false h a b|.notin=>O1 true h a b
def ixD (h:AH):D->D->R D
 |.tup xs,.int i=>match atI xs i with
  |some d=>.ok d h
  |none=>.no
 |.str x,.int i=>if x.length<=SL then(match atI x.cps.toList i with
  |some c=>.ok (.str ⟨#[c]⟩) h
  |none=>.no) else .no
 | .ref n,k=>match h[n]? with
  | some (.lst xs)=>(match k with
   |.int i=>(match atI xs i with
    |some d=>.ok d h
    |none=>.no)
   |_=>.no)
  | some (.rol xs)=>(match k with
   |.int i=>(match atI xs i with
    |some d=>.ok d h
    |none=>.no)
   |_=>.no)
  |some (.dict kvs)=>if F9 k kvs then(match n9 kvs k with
   |some d=>.ok d h
   |none=>.no) else .no
  |_=>.no
 |_,_=>.no
def S8(xs:List D)(lo hi:Option Int):List D:=(xs.drop (HT.sIx xs.length 0 lo)).take (HT.sIx xs.length xs.length hi-HT.sIx xs.length 0 lo)
def slD(h:AH)(lo hi:Option Int):D->R D
 |.str x=>if x.length<=SL then .ok (.str (Txt.slice x lo hi)) h else .no
 |.tup xs=>if HT.sIx xs.length 0 lo=0/\HT.sIx xs.length xs.length hi=xs.length then .no else .ok (.tup (S8 xs lo hi)) h
 |.ref n=>match rdL h n with
  |some xs=>y9 (.lst (S8 xs lo hi)) h
  |none=>.no
 |_=>.no
noncomputable def X0(h:AH)(f:Str):D->R D
 | .ref n=>match h[n]? with
  |some (.obj _ fs)=>(match fs.lookup f with
   |some d=>.ok d h
   |none=>.no)
  |_=>.no
 |_=>.no
inductive Bi where
 |len|str|int|list|tuple|all|any|dict
 deriving DecidableEq
noncomputable def a6y:List D->Option (List Bool)
 |[]=>some []
 |.bl b::r=>(a6y r).map (b:: ·)
 |_::_=>none
noncomputable def a1O:List D->Option (List Str)
 |[]=>some []
 |.str x::r=>(a1O r).map (x:: ·)
 |_::_=>none
def a8I:List D->Option (List (D×D))
 |[]=>some []
 |.tup [k,v]::r=>if(J6 k).isSome then(a8I r).map ((k,v):: ·) else none
 |_::_=>none
def biD (b:Bi) (h:AH):List D->R D
 | [.str x]=>match b with
  |.len=>if x.length<=SL then .ok (.int x.length) h else .no
  |.int=>if x.length<=640 then(match PySem.intText? x with
   |some n=>.ok (.int n) h
   |none=>.no) else .no
  |_=>.no
 |[.tup xs]=>match b with
  |.len=>.ok (.int xs.length) h
  |.list=>y9 (.lst xs) h
  |.tuple=>.ok (.tup xs) h
  |_=>.no
 |[.int i]=>match b with
  |.str=>if i.natAbs.log2<1920 then .ok (.str (toString i)) h else .no
  |.int=>.ok (.int i) h
  |_=>.no
 |[.bl k]=>match b with
  |.int=>.ok (.int (if k then 1 else 0)) h
  |_=>.no
 | [.ref n]=>match h[n]? with
  |some (.dict kvs)=>(match b with
   |.len=>if F9 (.int 0) kvs then .ok (.int kvs.length) h else .no
   |_=>.no)
  | _=>match rdL h n with
   | some xs=>(match b with
    |.len=>.ok (.int xs.length) h
    |.list=>y9 (.lst xs) h
    |.tuple=>.ok (.tup xs) h
    |.all=>(match a6y xs with
     |some bs=>.ok (.bl (bs.all id)) h
     |none=>.no)
    |.any=>(match a6y xs with
     |some bs=>.ok (.bl (bs.any id)) h
     |none=>.no)
    |.dict=>(match a8I xs with
     |some kvs=>y9 (.dict (kvs.foldl (fun a p=>a1g a p.1 p.2) [])) h
     |none=>.no)
    |_=>.no)
   |none=>.no
 |_=>.no
inductive Mt where
 |append|split|join|starts|extend
 deriving DecidableEq
def mtD (b:Mt) (h:AH):D->List D->R D
 | .ref n,[d]=>match b,h[n]? with
  |.append,some (.lst xs)=>if xs.length<SL then .ok .non (h.set n (.lst (xs++[d]))) else .no
  | .extend,some (.lst xs)=>(match d with
   |.ref k=>(match h[k]? with
    |some (.lst ys)=>if xs.length+ys.length<=SL then .ok .non (h.set n (.lst (xs++ys))) else .no
    |_=>.no)
   |_=>.no)
  |_,_=>.no
 |.str x,[.str y]=>match b with
  |.split=>if 0<y.length/\x.length+2<=SL then y9 (.lst ((Txt.split x y).map D.str)) h else .no
  |.starts=>.ok (.bl (Txt.startswith x y)) h
  |_=>.no
 | .str x,[.ref n]=>match b with
  | .join=>(match rdL h n with
   |some xs=>(match a1O xs with
    |some ts=>if JoinOk x ts=true then .ok (.str (Txt.join x ts)) h else .no
    |none=>.no)
   |none=>.no)
  |_=>.no
 |_,_=>.no
def mtT(b:Mt)(h:AH):D->Bool
 |.str _=>match b with
  |.split=>true|.join=>true|.starts=>true
  |_=>false
 |.ref n=>match b with
  |.append=>(rdL h n).isSome
  |.extend=>(rdL h n).isSome
  |_=>false
 |_=>false
def a6p(h:AH):D->D->D->R D
 |.ref n,k,x=>match h[n]? with
  |some (.dict kvs)=>if F9 k kvs&&(J6 k).isSome&&!kvs.isEmpty then .ok ((n9 kvs k).getD x) h else .no
  |_=>.no
 |_,_,_=>.no
noncomputable def b0Y(h:AH):D->Bool
 |.ref n=>match h[n]? with
  |some (.dict _)=>true
  |_=>false
 |_=>false
def a0I (h:AH) (o i v:D):R Unit:=match o with
 | .ref n=>match h[n]? with
  | some (.lst xs)=>(match i with
   |.int k=>(match ixN xs.length k with
    |some j=>.ok () (h.set n (.lst (xs.set j v)))
    |none=>.no)
   |_=>.no)
  |some (.dict kvs)=>if F9 i kvs=true/\kvs.length<SL then .ok () (h.set n (.dict (a1g kvs i v))) else .no
  |_=>.no
 |_=>.no
noncomputable def a3P(f:Str)(v:D):List (Str×D)->List (Str×D)
 |[]=>[(f,v)]
 |(g,x)::r=>if g=f then(g,v)::r else(g,x)::a3P f v r
def a4z(h:AH)(o:D)(f:Str)(v:D):R Unit:=match o with
 |.ref n=>match h[n]? with
  |some (.obj c fs)=>if fs.length<1000 then .ok () (h.set n (.obj c (a3P f v fs))) else .no
  |_=>.no
 |_=>.no
theorem D.ind{P:D->Prop}{Q:List D->Prop}(h0:P .non)(h1:∀b,P (.bl b))(h2:∀i,P (.int i))(h3:∀x,P (.str x))(h4:∀l,Q l->P (.tup l))(h5:∀n,P (.ref n))(q0:Q [])(q1:∀d r,P d->Q r->Q (d::r)):
 (∀d,P d)/\∀l,Q l:=
 ⟨fun d=>D.rec (motive_1:=P) (motive_2:=Q) h0 h1 h2 h3 h4 h5 q0 q1 d,fun l=>by
  induction l with
  |nil=>exact q0
  |cons d r ih=>exact q1 d r (D.rec (motive_1:=P) (motive_2:=Q) h0 h1 h2 h3 h4 h5 q0 q1 d) ih⟩
mutual
def Rp(m:List Addr)(H:Hp):D->V->Prop
  |.non,v=>v=.non
  |.bl b,v=>v=.bl b
  |.int i,v=>v=.int i
  |.str x,v=>v=.str x
  |.tup l,v=>∃a vs,v=.ref a/\H a=some (.tup vs)/\Rps m H l vs
  |.ref n,v=>∃a,v=.ref a/\m[n]? =some a
def Rps(m:List Addr)(H:Hp):List D->List V->Prop
  |[],vs=>vs=[]
  |d::r,vs=>∃v t,vs=v::t/\Rp m H d v/\Rps m H r t
end
def Im:HO->Prop
 |.tup _=>True
 |.xd _=>True
 |_=>False
abbrev KIm(H H':Hp):Prop:=∀b o,Im o->H b=some o->H' b=some o
structure Keep(m m':List Addr)(H H':Hp):Prop where
 im:∀b o,Im o->H b=some o->H' b=some o
 out:∀b o,b∉m->H b=some o->H' b=some o
 fr:∀a,a∈m'->a∈m∨H a=none
theorem Keep.refl(m:List Addr)(H:Hp):Keep m m H H:=⟨fun _ _ _ h=>h,fun _ _ _ h=>h,fun _ h=>.inl h⟩
variable{m:List Addr}{m1:List Addr}{H:Hp}{H1:Hp}
theorem Keep.trans{m2:List Addr}{H2:Hp}(a:Keep m m1 H H1)(b:Keep m1 m2 H1 H2):Keep m m2 H H2:=by
 refine⟨fun c o i h=>b.im c o i (a.im c o i h),fun c o n h=>b.out c o (fun z=>?_) (a.out c o n h),fun c h=>?_⟩
 · rcases a.fr c z with q|q
   · exact n q
   · rw[h] at q;cases q
 · rcases b.fr c h with q|q
   · exact a.fr c q
   · by_cases hc:c∈m
     · exact .inl hc
     · cases e:H c with
       |none=>exact .inr rfl
       |some o=>rw[a.out c o hc e] at q;cases q
theorem Keep.new{p:Addr}{o:HO}(hp:H p=none):Keep m m H (upd H p o):=
 ⟨fun b ob _ h=>by rw[l8 (u0 h hp)];exact h,fun b ob _ h=>by rw[l8 (u0 h hp)];exact h,fun _ h=>.inl h⟩
theorem Keep.newc{p:Addr}{o:HO}(hp:H p=none):Keep m (m++[p]) H (upd H p o):=
 ⟨fun b ob _ h=>by rw[l8 (u0 h hp)];exact h,fun b ob _ h=>by rw[l8 (u0 h hp)];exact h,fun a h=>by
  rcases aF.mp h with q|q
  · exact .inl q
  · simp at q;subst q;exact .inr hp⟩
variable{o':HO}
theorem Keep.put{p:Addr}{o:HO}{k:Nat}(hm:m[k]? =some p)(hp:H p=some o)(ni:¬Im o):Keep m m H (upd H p o'):=by
 refine⟨fun b ob i h=>?_,fun b ob n h=>?_,fun _ h=>.inl h⟩
 · have:b≠p:=fun e=>by rw[e,hp] at h;cases h;exact ni i
   rw[l8 this];exact h
 · have:b≠p:=fun e=>n (by rw[e];exact aC hm)
   rw[l8 this];exact h
theorem Keep.tup{m m':List Addr}{H H':Hp}(k:Keep m m' H H'){a:Addr}{vs:List V}(h:H a=some (.tup vs)):H' a=some (.tup vs):=k.im a _ trivial h
abbrev Pre(m m':List Addr):Prop:=∃t,m'=m++t
theorem Pre.refl(m:List Addr):Pre m m:=⟨[],by simp⟩
theorem Pre.trans{a b c:List Addr}(h:Pre a b)(k:Pre b c):Pre a c:=by
 obtain⟨t,rfl⟩:=h;obtain⟨u,rfl⟩:=k;exact⟨t++u,by simp⟩
theorem Pre.snoc(m:List Addr)(p:Addr):Pre m (m++[p]):=⟨[p],rfl⟩
variable{m':List Addr}{n:Nat}
theorem Pre.get(h:Pre m m'){a:Addr}(e:m[n]? =some a):m'[n]? =some a:=by
 obtain⟨t,rfl⟩:=h;rw[ap (ac.mp e).1];exact e
variable{H':Hp}
theorem a2h(p:Pre m m')(k:KIm H H'):(∀d v,Rp m H d v->Rp m' H' d v)/\∀l vs,Rps m H l vs->Rps m' H' l vs:=by
 refine D.ind (P:=fun d=>∀v,Rp m H d v->Rp m' H' d v) (Q:=fun l=>∀vs,Rps m H l vs->Rps m' H' l vs) ?_ ?_ ?_ ?_ ?_ ?_ ?_ ?_
 · intro v h;exact h
 · intro b v h;exact h
 · intro b v h;exact h
 · intro b v h;exact h
 · rintro l ih v ⟨a,vs,rfl,e,q⟩;exact⟨a,vs,rfl,k _ _ trivial e,ih vs q⟩
 · rintro n v ⟨a,rfl,e⟩;exact⟨a,rfl,p.get e⟩
 · intro vs h;exact h
 · rintro d r ih ihs vs ⟨v,t,rfl,q1,q2⟩;exact⟨v,t,rfl,ih v q1,ihs t q2⟩
variable{d:D}{v:V}
theorem Rp.mono(h:Rp m H d v)(p:Pre m m')(k:Keep m m' H H'):Rp m' H' d v:=(a2h p k.im).1 d v h
theorem Rp.mono'(h:Rp m H d v)(p:Pre m m')(k:KIm H H'):Rp m' H' d v:=(a2h p k).1 d v h
variable{l:List D}{vs:List V}
theorem Rps.mono(h:Rps m H l vs)(p:Pre m m')(k:Keep m m' H H'):Rps m' H' l vs:=(a2h p k.im).2 l vs h
theorem Rps.mono'(h:Rps m H l vs)(p:Pre m m')(k:KIm H H'):Rps m' H' l vs:=(a2h p k).2 l vs h
theorem a4D:(∀d v,D.flat d=true->Rp m H d v->Rp m' H d v)/\∀l vs,D.flats l=true->Rps m H l vs->Rps m' H l vs:=by
 refine D.ind (P:=fun d=>∀v,D.flat d=true->Rp m H d v->Rp m' H d v) (Q:=fun l=>∀vs,D.flats l=true->Rps m H l vs->Rps m' H l vs) ?_ ?_ ?_ ?_ ?_ ?_ ?_ ?_
 · intro v _ h;exact h
 · intro b v _ h;exact h
 · intro b v _ h;exact h
 · intro b v _ h;exact h
 · rintro l ih v f ⟨a,vs,rfl,e,q⟩;exact⟨a,vs,rfl,e,ih vs f q⟩
 · intro n v f;exact absurd f (by simp[D.flat])
 · intro vs _ h;exact h
 · rintro d r ih ihs vs f ⟨v,t,rfl,q1,q2⟩;rw[D.flats,ae] at f;exact⟨v,t,rfl,ih v f.1 q1,ihs t f.2 q2⟩
section
theorem Rps.len:∀{l:List D} {vs:List V},Rps m H l vs->vs.length=l.length
 |[],vs,h=>by rw[show vs=[] from h];rfl
 |d::r,vs,⟨v,t,e,_,q⟩=>by rw[e,length_cons,length_cons,Rps.len q]
theorem Rps.get:∀{l:List D} {vs:List V} {i:Nat} {d:D},Rps m H l vs->l[i]? =some d->∃v,vs[i]? =some v/\Rp m H d v
 |d'::r,vs,0,d,⟨v,t,e,q,_⟩,h=>by
  simp at h;subst h;exact⟨v,by rw[e];rfl,q⟩
 |d'::r,vs,i+1,d,⟨v,t,e,_,q⟩,h=>by
  obtain⟨w,h1,h2⟩:=Rps.get (i:=i) q (by simpa using h)
  exact⟨w,by rw[e];simpa using h1,h2⟩
 |[],_,_,_,_,h=>by simp at h
theorem Rps.app:∀{l l':List D} {vs vs':List V},Rps m H l vs->Rps m H l' vs'->Rps m H (l++l') (vs++vs')
 |[],_,vs,_,h,k=>by rw[show vs=[] from h];exact k
 |d::r,_,vs,_,⟨v,t,e,q1,q2⟩,k=>by subst e;exact⟨v,_,rfl,q1,Rps.app q2 k⟩
theorem Rps.snoc(h:Rps m H l vs)(q:Rp m H d v):Rps m H (l++[d]) (vs++[v]):=h.app ⟨v,[],rfl,q,rfl⟩
theorem Rps.drop:∀{l:List D} {vs:List V} (n:Nat),Rps m H l vs->Rps m H (l.drop n) (vs.drop n)
 |[],vs,n,h=>by rw[show vs=[] from h];simp[Rps]
 |d::r,vs,0,h=>h
 |d::r,vs,n+1,⟨v,t,e,_,q⟩=>by subst e;exact Rps.drop n q
theorem Rps.take:∀{l:List D} {vs:List V} (n:Nat),Rps m H l vs->Rps m H (l.take n) (vs.take n)
 |[],vs,n,h=>by rw[show vs=[] from h];simp[Rps]
 |d::r,vs,0,h=>by simp[Rps]
 |d::r,vs,n+1,⟨v,t,e,q1,q⟩=>by subst e;exact⟨v,_,rfl,q1,Rps.take n q⟩
theorem Rps.set:∀{l:List D} {vs:List V} {d:D} {v:V} (n:Nat),Rps m H l vs->Rp m H d v->Rps m H (l.set n d) (vs.set n v)
 |[],vs,_,_,n,h,_=>by rw[show vs=[] from h];simp[Rps]
 |d::r,vs,_,_,0,⟨v,t,e,q1,q⟩,k=>by subst e;exact⟨_,t,rfl,k,q⟩
 |d::r,vs,_,_,n+1,⟨v,t,e,q1,q⟩,k=>by subst e;exact⟨v,_,rfl,q1,Rps.set n q k⟩
theorem Rps.rep{l:List D}{vs:List V}(h:Rps m H l vs):∀k:Nat,Rps m H (List.replicate k l).flatten (List.replicate k vs).flatten
 |0=>rfl
 |k+1=>by
  rw[replicate_succ,replicate_succ,flatten_cons,flatten_cons];exact h.app (Rps.rep h k)
theorem Rps.strs:∀{ts:List Str},Rps m H (ts.map D.str) (ts.map V.str)
 |[]=>rfl
 |x::r=>⟨_,_,rfl,rfl,Rps.strs⟩
theorem Rps.cut(h:Rps m H l vs)(lo hi:Option Int):Rps m H (S8 l lo hi) (a6q vs lo hi):=by
 unfold S8 a6q;rw[h.len];exact(h.drop _).take _
theorem Rps.at{i:Int}(h:Rps m H l vs)(e:atI l i=some d):∃v,atI vs i=some v/\Rp m H d v:=by
 unfold atI at e⊢;rw[h.len]
 cases q:ixN l.length i with
 |none=>rw[q] at e;cases e
 |some j=>rw[q] at e;exact h.get e
theorem a2D:∀{l:List D} {ts:List Str} {vs:List V},a1O l=some ts->Rps m H l vs->vs=ts.map V.str
 |[],ts,vs,e,h=>by cases e;exact h
 |d::r,ts,vs,e,⟨v,t,ev,q1,q2⟩=>by
  subst ev
  cases d<;>simp only[a1O] at e<;>try cases e
  rename_i x
  cases q:a1O r with
  |none=>rw[q] at e;cases e
  |some us=>rw[q] at e;cases e;rw[a2D q q2,show v=V.str x from q1];rfl
theorem a4A:∀{l:List D} {ts:List Bool} {vs:List V},a6y l=some ts->Rps m H l vs->vs=ts.map V.bl
 |[],ts,vs,e,h=>by cases e;exact h
 |d::r,ts,vs,e,⟨v,t,ev,q1,q2⟩=>by
  subst ev
  cases d<;>simp only[a6y] at e<;>try cases e
  rename_i x
  cases q:a6y r with
  |none=>rw[q] at e;cases e
  |some us=>rw[q] at e;cases e;rw[a4A q q2,show v=V.bl x from q1];rfl
end
structure Gm where
 K:PySem.W.Frag
 cA:Nat->Addr
 ob:List Nat
 xs:List Nat
def Fl(m:List Addr)(H:Hp):List (Str×D)->List (Str×V)->Prop:=Paired fun p q=>p.1=q.1/\Rp m H p.2 q.2
def DK(m:List Addr)(H:Hp):List (D×D)->List (Key×V)->Prop:=Paired fun p q=>J6 p.1=some q.1/\Rp m H p.2 q.2
def DT(m:List Addr)(H:Hp):List (D×D)->List (List Key×V)->Prop:=Paired fun p q=>(∃l,p.1=.tup l/\E7 l=some q.1)/\Rp m H p.2 q.2
def E2(Γ:Gm)(m:List Addr)(H:Hp)(a:Addr):Cell->Prop
 |.lst l=>∃vs,H a=some (.lst vs)/\Rps m H l vs
 |.rol l=>∃vs,SqL Γ.K H a vs/\Rps m H l vs/\∃o,H a=some (.frz o (.lst vs))
 |.dict l=>(∃kvs,H a=some (.dK kvs)/\DK m H l kvs)∨∃kvs,H a=some (.dT kvs)/\DT m H l kvs
 |.obj c fs=>∃dx gs,H a=some (.ins (Γ.cA c) dx gs)/\Fl m H fs gs/\c∈Γ.ob
variable{Γ:Gm}
theorem E2.there{a:Addr}{c:Cell}(h:E2 Γ m H a c):∃o,H a=some o/\¬Im o:=by
 cases c with
 |lst l=>obtain⟨vs,e,_⟩:=h;exact⟨_,e,fun z=>z⟩
 |rol l=>obtain⟨vs,_,_,o,e⟩:=h;exact⟨_,e,fun z=>z⟩
 |dict l=>
  rcases h with⟨kvs,e,_⟩|⟨kvs,e,_⟩
  · exact⟨_,e,fun z=>z⟩
  · exact⟨_,e,fun z=>z⟩
 |obj c fs=>obtain⟨dx,gs,e,_⟩:=h;exact⟨_,e,fun z=>z⟩
theorem Fl.mono{fs:List (Str×D)}{gs:List (Str×V)}(h:Fl m H fs gs)(p:Pre m m')(k:KIm H H'):Fl m' H' fs gs:=Paired.mapP h fun _ _ z=>⟨z.1,z.2.mono' p k⟩
variable{gs:List (Key×V)}
theorem DK.mono{fs:List (D×D)}(h:DK m H fs gs)(p:Pre m m')(k:KIm H H'):DK m' H' fs gs:=Paired.mapP h fun _ _ z=>⟨z.1,z.2.mono' p k⟩
theorem DT.mono{fs:List (D×D)}{gs:List (List Key×V)}(h:DT m H fs gs)(p:Pre m m')(k:KIm H H'):DT m' H' fs gs:=Paired.mapP h fun _ _ z=>⟨z.1,z.2.mono' p k⟩
theorem E2.mono'{a:Addr}{c:Cell}(h:E2 Γ m H a c)(p:Pre m m')(k:KIm H H')(e:H' a=H a):E2 Γ m' H' a c:=by
 cases c with
 |lst l=>obtain⟨vs,q,r⟩:=h;exact⟨vs,e.trans q,r.mono' p k⟩
 |rol l=>obtain⟨vs,s,r,o,q⟩:=h;exact⟨vs,.inl (.inr ⟨o,e.trans q⟩),r.mono' p k,o,e.trans q⟩
 |dict l=>
  rcases h with⟨kvs,q,r⟩|⟨kvs,q,r⟩
  · exact .inl ⟨kvs,e.trans q,r.mono p k⟩
  · exact .inr ⟨kvs,e.trans q,r.mono p k⟩
 |obj c fs=>obtain⟨dx,gs,q,r,z⟩:=h;exact⟨dx,gs,e.trans q,r.mono p k,z⟩
theorem E2.mono{a:Addr}{c:Cell}(h:E2 Γ m H a c)(p:Pre m m')(k:Keep m m' H H')(e:H' a=H a):E2 Γ m' H' a c:=h.mono' p k.im e
structure Sim(Γ:Gm)(ah:AH)(m:List Addr)(H:Hp):Prop where
 len:m.length=ah.length
 nd:m.Nodup
 cell:∀(n:Nat) (a:Addr) (c:Cell),m[n]? =some a->ah[n]? =some c->E2 Γ m H a c
section
variable{ah:AH}
theorem Sim.at(s:Sim Γ ah m H){a:Addr}{c:Cell}(h:m[n]? =some a)(e:ah[n]? =some c):E2 Γ m H a c:=s.cell n a c h e
theorem Sim.has(s:Sim Γ ah m H){a:Addr}(h:m[n]? =some a):∃c,ah[n]? =some c:=by
 have h:=(ac.mp h).1
 rw[s.len] at h;exact⟨ah[n],af h⟩
theorem Sim.fresh(s:Sim Γ ah m H){p:Addr}(hp:H p=none):p∉m:=fun hm=>by
 obtain⟨n,hn⟩:=List.getElem?_of_mem hm
 obtain⟨c,hc⟩:=s.has hn;obtain⟨o,e,_⟩:=(s.at hn hc).there;rw[hp] at e;cases e
theorem Sim.keep(s:Sim Γ ah m H)(k:Keep m m H H')(e:∀(n:Nat) (a:Addr),m[n]? =some a->H' a=H a):Sim Γ ah m H':=
 ⟨s.len,s.nd,fun n a c h q=>(s.at h q).mono (Pre.refl m) k (e n a h)⟩
theorem Sim.same(s:Sim Γ ah m H)(k:c0S H H'):Sim Γ ah m H':=
 s.keep ⟨fun b o _ h=>k b o h,fun b o _ h=>k b o h,fun _ h=>.inl h⟩ fun n a h=>by
  obtain⟨c,hc⟩:=s.has h;obtain⟨o,e,_⟩:=(s.at h hc).there;rw[e];exact k a o e
theorem Sim.new{p:Addr}{o:HO}(s:Sim Γ ah m H)(hp:H p=none):Sim Γ ah m (upd H p o):=s.same fun b ob h=>by rw[l8 (u0 h hp)];exact h
theorem a0Q{m:List Addr}{p:Addr}(nd:m.Nodup)(hp:p∉m):(m++[p]).Nodup:=by
 rw[nodup_append];refine⟨nd,by simp,fun a ha b hb=>?_⟩
 simp at hb;subst hb
 rintro rfl;exact hp ha
theorem Sim.alloc{p:Addr}{o:HO}{c:Cell}(s:Sim Γ ah m H)(hp:H p=none)(h:E2 Γ (m++[p]) (upd H p o) p c):Sim Γ (ah++[c]) (m++[p]) (upd H p o):=by
 refine⟨by simp[s.len],a0Q s.nd (s.fresh hp),fun n a c' hn hc=>?_⟩
 by_cases hl:n<m.length
 · rw[ap hl] at hn
   rw[ap (by rw[←s.len];exact hl)] at hc
   have ok:=s.at hn hc;refine ok.mono (Pre.snoc m p) (Keep.newc hp) ?_
   obtain⟨o',e,_⟩:=ok.there;rw[l8 (u0 e hp)]
 · have hn':n=m.length:=by
    have:=(ac.mp hn).1
    simp at this;omega
   subst hn';rw[ao (ai _)] at hn
   rw[s.len,ao (ai _)] at hc
   simp at hn hc;subst hn;subst hc
   exact h
theorem Sim.write{k:Nat}{q:Addr}{o:HO}{c:Cell}(s:Sim Γ ah m H)(hk:m[k]? =some q)(hq:H q=some o)(ni:¬Im o)(h:E2 Γ m (upd H q o') q c):Sim Γ (ah.set k c) m (upd H q o'):=by
  refine⟨by simp[s.len],s.nd,fun n a c' hn hc=>?_⟩
  by_cases e:n=k
  · subst e;rw[hk] at hn;cases hn
    rw[List.getElem?_set_self (by rw[←s.len];exact(ac.mp hk).1)] at hc
    cases hc;exact h
  · rw[List.getElem?_set_ne (Ne.symm e)] at hc
    have ne:a≠q:=fun z=>by subst z;exact e (nodup_ixA s.nd hn hk)
    exact(s.at hn hc).mono (Pre.refl m) (Keep.put hk hq ni) (l8 ne)
where
  nodup_ixA {m:List Addr} (hN:m.Nodup) {i j:Nat} {x:Addr} (a:m[i]? =some x) (b:m[j]? =some x):i=j:=by
    obtain⟨h1,e1⟩:=ac.mp a
    obtain⟨h2,e2⟩:=ac.mp b
    exact(getElem_inj hN).mp (e1.trans e2.symm)
theorem Sim.lst(s:Sim Γ ah m H){n:Nat}{l:List D}(e:ah[n]? =some (.lst l)){v:V}(r:Rp m H (.ref n) v):∃a vs,v=.ref a/\m[n]? =some a/\H a=some (.lst vs)/\Rps m H l vs:=by
 obtain⟨a,rfl,hm⟩:=r;obtain⟨vs,e1,e2⟩:=s.at hm e;exact⟨a,vs,rfl,hm,e1,e2⟩
theorem Sim.rdL(s:Sim Γ ah m H)(e:rdL ah n=some l)(r:Rp m H (.ref n) v):∃a vs,v=.ref a/\m[n]? =some a/\SqL Γ.K H a vs/\Rps m H l vs:=by
 obtain⟨a,rfl,hm⟩:=r;unfold EV.rdL at e
 split at e
 · rename_i l' q;cases e;obtain⟨vs,e1,e2⟩:=s.at hm q;exact⟨a,vs,rfl,hm,.inl (.inl e1),e2⟩
 · rename_i l' q;cases e;obtain⟨vs,e1,e2,_⟩:=s.at hm q;exact⟨a,vs,rfl,hm,e1,e2⟩
 · cases e
end
abbrev o9:=List (Option D)
structure EnvRel(m:List Addr)(H:Hp)(env:o9)(σ:St):Prop where
 len:env.length=σ.length
 val:∀(i:Nat) (d:D),env[i]? =some (some d)->∃v,σ[i]? =some (some v)/\Rp m H d v
variable{env:o9}{σ:St}
theorem EnvRel.mono(h:EnvRel m H env σ)(p:Pre m m')(k:Keep m m' H H'):EnvRel m' H' env σ:=
 ⟨h.len,fun i d e=>let⟨v,a,b⟩:=h.val i d e;⟨v,a,b.mono p k⟩⟩
variable{i:Nat}
theorem EnvRel.set(h:EnvRel m H env σ)(r:Rp m H d v):EnvRel m H (env.set i (some d)) (σ.set i (some v)):=by
 refine⟨by simp[h.len],fun j d' e=>?_⟩
 by_cases q:j=i
 · subst q
   by_cases hl:j<env.length
   · rw[List.getElem?_set_self hl] at e
     cases e;exact⟨v,List.getElem?_set_self (by rw[←h.len];exact hl),r⟩
   · rw[aO (by simp;omega)] at e;cases e
 · rw[List.getElem?_set_ne (Ne.symm q)] at e⊢
   exact h.val j d' e
structure Rel(Γ:Gm)(env:o9)(ah:AH)(σ:St)(H:Hp)(m:List Addr):Prop where
 sim:Sim Γ ah m H
 env:EnvRel m H env σ
def g9(Γ:Gm)(E:XK)(m:List Addr)(H:Hp)(r:R D)(Q:VK):Prop:=match r with
 |.ok d ah'=>∀m' H' v,Pre m m'->Keep m m' H H'->Sim Γ ah' m' H'->Rp m' H' d v->Q v H'
 |.no=>False
def j9{α:Type}(Γ:Gm)(E:XK)(m:List Addr)(H:Hp)(r:R α)(Q:α->AH->List Addr->Hp->Prop):Prop:=match r with
 |.ok a ah'=>∀m' H',Pre m m'->Keep m m' H H'->Sim Γ ah' m' H'->Q a ah' m' H'
 |.no=>False
variable{r:R D}{Q:VK}{α:Type}{β:Type}{ah:AH}
section
variable{E:XK}
theorem g9.later(h:g9 Γ E m H r Q)(p:Pre m m')(k:Keep m m' H H'):g9 Γ E m' H' r Q:=by
 cases r with
 |ok d ah=>exact fun m2 H2 v p2 k2 s2 r2=>h m2 H2 v (p.trans p2) (k.trans k2) s2 r2
 |no=>exact h
theorem g9.bind{r:R α}{f:α->AH->R D}(h:g9 Γ E m H (r.bind f) Q):j9 Γ E m H r (fun a ah1 m1 H1=>g9 Γ E m1 H1 (f a ah1) Q):=by
 cases r with
 |ok d ah=>exact fun m2 H2 p2 k2 s2=>g9.later h p2 k2
 |no=>exact h
theorem j9.later{r:R α}{Q:α->AH->List Addr->Hp->Prop}(h:j9 Γ E m H r Q)(p:Pre m m')(k:Keep m m' H H'):j9 Γ E m' H' r Q:=by
 cases r with
 |ok d ah=>exact fun m2 H2 p2 k2 s2=>h m2 H2 (p.trans p2) (k.trans k2) s2
 |no=>exact h
theorem j9.bind{r:R α}{f:α->AH->R β}{Q:β->AH->List Addr->Hp->Prop}(h:j9 Γ E m H (r.bind f) Q):j9 Γ E m H r (fun a ah1 m1 H1=>j9 Γ E m1 H1 (f a ah1) Q):=by
 cases r with
 |ok d ah=>exact fun m2 H2 p2 k2 s2=>j9.later h p2 k2
 |no=>exact h
theorem j9.val{P:D->AH->List Addr->Hp->Prop}(h:j9 Γ E m H r P)(k:∀d ah1 m1 H1 v,Pre m m1->Keep m m1 H H1->Sim Γ ah1 m1 H1->Rp m1 H1 d v->P d ah1 m1 H1->Q v H1):g9 Γ E m H r Q:=by
 cases r with
 |ok d ah=>exact fun m2 H2 v p2 k2 s2 r2=>k d ah m2 H2 v p2 k2 s2 r2 (h m2 H2 p2 k2 s2)
 |no=>exact h
theorem g9.ok(h:g9 Γ E m H (.ok d ah) Q)(s:Sim Γ ah m H)(r:Rp m H d v):Q v H:=h m H v (Pre.refl m) (Keep.refl m H) s r
theorem g9.newc{c:Cell}{p:Addr}{o:HO}(h:g9 Γ E m H (y9 c ah) Q)(s:Sim Γ ah m H)(hp:H p=none)(ok:E2 Γ (m++[p]) (upd H p o) p c):Q (.ref p) (upd H p o):=by
 refine h (m++[p]) (upd H p o) (.ref p) (Pre.snoc m p) (Keep.newc hp) (s.alloc hp ok) ⟨p,rfl,?_⟩
 rw[←s.len,ao (ai _)];simp
theorem g9.newt{p:Addr}(h:g9 Γ E m H (.ok (.tup l) ah) Q)(s:Sim Γ ah m H)(hp:H p=none)(r:Rps m H l vs):Q (.ref p) (upd H p (.tup vs)):=
 h m _ (.ref p) (Pre.refl m) (Keep.new hp) (s.new hp) ⟨p,vs,rfl,d0,r.mono (Pre.refl m) (Keep.new hp)⟩
end
open PySem PySem.Spec L2
open PyProof.Rows hiding St
theorem O4:SL=sizeLine:=by rw[sizeLine_eq]
theorem a5J{l:List α}{x:α}(h:l[n]? =some x):l.set n x=l:=by
 refine ext_getElem? fun i=>?_
 by_cases e:i=n
 · subst e;rw[List.getElem?_set_self (ac.mp h).1,h]
 · rw[List.getElem?_set_ne (Ne.symm e)]
variable{op:CmpOp}{pins:List (Addr×Obj)}{kvs:List (D×D)}
section
variable{X:Cx}{E:XK}
noncomputable def rOf(Γ:Gm)(E:XK)(g:AH->D->D->R D):R2:=fun x y H Q=>∃d1 d2 ah m,Sim Γ ah m H/\Rp m H d1 x/\Rp m H d2 y/\g9 Γ E m H (g ah d1 d2) Q
theorem OpR.imp{f:Value->Value->Sem Value}{r r':R2}(h:OpR X f r)(i:∀x y H Q,r' x y H Q->r x y H Q):OpR X f r':=fun pins s σ H x y v u Q I rx ry q=>h pins s σ H x y v u Q I rx ry (i _ _ _ _ q)
theorem b8Q:OpR X (binaryOp .Add) (rOf Γ E V8):=by
 refine OpR.imp (b5z.or (a6Q.or (b5y.or b2V))) ?_
 rintro x y H Q ⟨d1,d2,ah,m,s,r1,r2,q⟩;unfold V8 at q
 split at q
 · cases r1;cases r2
   exact .inl ⟨_,_,rfl,rfl,q.ok s rfl⟩
 · cases r1;cases r2
   split at q
   · rename_i h;exact .inr (.inl ⟨_,_,rfl,rfl,by rw[←O4];exact h,q.ok s rfl⟩)
   · exact q.elim
 · split at q
   · rename_i e1 e2
     split at q
     · rename_i h;obtain⟨a,vs,rfl,ha,h1,q1⟩:=s.lst e1 r1;obtain⟨b,ws,rfl,hb,h2,q2⟩:=s.lst e2 r2;refine .inr (.inr (.inl ⟨a,b,vs,ws,rfl,rfl,h1,h2,by rw[q1.len,q2.len,←O4];exact h,fun p hp=>q.newc s hp ⟨_,d0,?_⟩⟩))
       exact(q1.app q2).mono (Pre.snoc m p) (Keep.newc hp)
     · exact q.elim
   · exact q.elim
 · split at q
   · rename_i xs ys h;obtain⟨a,vs,rfl,h1,q1⟩:=r1;obtain⟨b,ws,rfl,h2,q2⟩:=r2;refine .inr (.inr (.inr ⟨a,b,vs,ws,rfl,rfl,.inl (.inl h1),.inl (.inl h2),fun e=>h.1 ?_,by rw[q1.len,q2.len,←O4];exact h.2,fun e=>?_,fun _ p hp=>q.newt s hp (q1.app q2)⟩))
     · have:=q1.len;rw[e] at this;exact length_eq_zero_iff.mp this.symm
     · have:=q2.len;rw[e] at this
       have z:ys=[]:=length_eq_zero_iff.mp this.symm
       subst z;rw[aQ] at q;exact q.ok s ⟨a,vs,rfl,h1,q1⟩
   · exact q.elim
 · exact q.elim
theorem b8J:OpR X (binaryOp .Sub) (rOf Γ E a5S):=by
 refine OpR.imp b5r ?_
 rintro x y H Q ⟨d1,d2,ah,m,s,r1,r2,q⟩;unfold a5S at q
 split at q
 · cases r1;cases r2
   exact⟨_,_,rfl,rfl,q.ok s rfl⟩
 · exact q.elim
theorem b8K:OpR X (binaryOp .Mult) (rOf Γ E N2):=by
 refine OpR.imp ((b5u.or b5s).or b2T) ?_
 rintro x y H Q ⟨d1,d2,ah,m,s,r1,r2,q⟩;unfold N2 at q
 split at q
 · cases r1;cases r2
   split at q
   · rename_i h;rw[aZ] at h;exact .inl (.inl ⟨_,_,rfl,rfl,h.imp a2z a2z,q.ok s rfl⟩)
   · exact q.elim
 · split at q
   · rename_i e1
     split at q
     · rename_i h;obtain⟨a,vs,rfl,ha,h1,q1⟩:=s.lst e1 r1;cases r2;refine .inl (.inr ⟨a,_,vs,rfl,rfl,h1,(by have:=Q4 h.1;omega),(by have:=Q4 h.1;omega),by rw[q1.len,←O4];exact h.2,fun p hp=>q.newc s hp ⟨_,d0,?_⟩⟩)
       exact(q1.rep _).mono (Pre.snoc m p) (Keep.newc hp)
     · exact q.elim
   · exact q.elim
 · cases r1;cases r2
   split at q
   · rename_i h;exact .inr ⟨_,_,rfl,rfl,(by have:=Q4 h.1;omega),(by have:=Q4 h.1;omega),by rw[←O4];exact h.2,q.ok s rfl⟩
   · exact q.elim
 · exact q.elim
theorem b8O:OpR X (binaryOp .FloorDiv) (rOf Γ E w8):=by
 refine OpR.imp b2U ?_
 rintro x y H Q ⟨d1,d2,ah,m,s,r1,r2,q⟩;unfold w8 at q
 split at q
 · cases r1;cases r2
   split at q
   · rename_i h;exact⟨_,_,rfl,rfl,h,q.ok s rfl⟩
   · exact q.elim
 · exact q.elim
theorem b8L:OpR X (binaryOp .Mod) (rOf Γ E u9):=by
 refine OpR.imp b5v ?_
 rintro x y H Q ⟨d1,d2,ah,m,s,r1,r2,q⟩;unfold u9 at q
 split at q
 · cases r1;cases r2
   split at q
   · rename_i h;exact⟨_,_,rfl,rfl,h,q.ok s rfl⟩
   · exact q.elim
 · exact q.elim
theorem c0C{x y:V}{b:Bool}(h:b=true↔x=y):b=decide (x=y):=by
 by_cases e:x=y
 · rw[aR e];exact h.mpr e
 · rw[bf e]
   cases b with
   |false=>rfl
   |true=>exact absurd (h.mp rfl) e
theorem b1B{d1 d2:D}{x y:V}{b:Bool}(e:eqS d1 d2=some b)(r1:Rp m H d1 x)(r2:Rp m H d2 y):scal x y=true/\b=decide (x=y):=by
 unfold eqS at e
 split at e<;>first|(cases e;done)|(cases e;cases r1;cases r2;refine⟨rfl,?_⟩;first|rfl|(refine c0C ⟨fun h=>?_,fun h=>?_⟩<;>first|(rw[aq h])|(injection h with h;exact aR h)))
theorem a8m{p:Int->Int->Bool}(h:OpR X (compareOp op) (rI0 fun i j=>.bl (p i j))):OpR X (compareOp op) (rOf Γ E (E6 p)):=by
 refine OpR.imp h ?_
 rintro x y H Q ⟨d1,d2,ah,m,s,r1,r2,q⟩;unfold E6 at q
 split at q
 · cases r1;cases r2
   exact⟨_,_,rfl,rfl,q.ok s rfl⟩
 · exact q.elim
theorem T3{x:V}(r:Rp m H d x)(f:w6 d=true):E9 x=true:=by
 cases d<;>first|(cases r;rfl)|(simp[w6] at f)
theorem G4{m:List Addr}{H:Hp}:∀{l:List D} {vs:List V},Rps m H l vs->l.all w6=true->vs.all E9=true
 |[],vs,h,_=>by rw[show vs=[] from h];rfl
 |d::r,vs,⟨v,t,e,q1,q2⟩,f=>by
  subst e;rw[all_cons,ae] at f⊢;exact⟨T3 q1 f.1,G4 q2 f.2⟩
theorem b1E{e:D}{x y:V}(r1:Rp m H d x)(r2:Rp m H e y)(f1:w6 d=true)(f2:w6 e=true):eqF d e=eqV x y:=by
 cases d<;>first|(simp[w6] at f1;done)|(cases e<;>first|(simp[w6] at f2;done)|(cases r1;cases r2;rfl))
theorem a0b{m:List Addr}{H:Hp}{d:D}{x:V}(r:Rp m H d x)(f:w6 d=true):∀{l:List D} {vs:List V},Rps m H l vs->l.all w6=true->inD d l=inV x vs
 |[],vs,h,_=>by rw[show vs=[] from h];rfl
 |e::t,vs,⟨v,u,ev,q1,q2⟩,fl=>by
  subst ev;rw[all_cons,ae] at fl;have ih:=a0b r f q2 fl.2;unfold inD inV at ih⊢;rw[any_cons,any_cons,b1E q1 r fl.1 f,ih]
theorem a8l{m:List Addr}{H:Hp}:∀{xs ys:List D} {vs ws:List V},Rps m H xs vs->Rps m H ys ws->xs.all w6=true->ys.all w6=true->b1D xs ys=a0V vs ws
 |[],[],vs,ws,h1,h2,_,_=>by rw[show vs=[] from h1,show ws=[] from h2];rfl
 |[],y::ys,vs,ws,h1,⟨v,t,e,_,_⟩,_,_=>by rw[show vs=[] from h1,e];rfl
 |x::xs,[],vs,ws,⟨v,t,e,_,_⟩,h2,_,_=>by rw[show ws=[] from h2,e];rfl
 |x::xs,y::ys,vs,ws,⟨v,t,e,q1,q2⟩,⟨v',t',e',q1',q2'⟩,f,f'=>by
  subst e e';rw[all_cons,ae] at f f';rw[b1D,a0V,b1E q1 q1' f.1 f'.1,a8l q2 q2' f.2 f'.2]
theorem a8k{e:D}{x y:V}{c:Bool}(s:Sim Γ ah m H)(r1:Rp m H d x)(r2:Rp m H e y)(h:b1C ah d e=some c):∃a b xs ys,x=.ref a/\y=.ref b/\SqL Γ.K H a xs/\SqL Γ.K H b ys/\xs.all E9=true/\ys.all E9=true/\a0V xs ys=c:=by
 unfold b1C at h
 split at h
 · split at h
   · rename_i xs ys e1 e2
     split at h
     · rename_i hf;cases h;rw[ae] at hf;obtain⟨a,vs,rfl,_,h1,q1⟩:=s.rdL e1 r1;obtain⟨b,ws,rfl,_,h2,q2⟩:=s.rdL e2 r2;exact⟨a,b,vs,ws,rfl,rfl,h1,h2,G4 q1 hf.1,G4 q2 hf.2,(a8l q1 q2 hf.1 hf.2).symm⟩
     · cases h
   · cases h
 · cases h
theorem hu1(h:n+8<cLine):n+1<cLine:=Nat.lt_of_le_of_lt (by omega) h
theorem c0B(hu:X.A.units+8<cLine)(hK:X.K=Γ.K):OpR X (compareOp .Eq) (rOf Γ E C0):=by
 refine OpR.imp (b7Z.or (b5x (X:=X) (by omega))) ?_
 rintro x y H Q ⟨d1,d2,ah,m,s,r1,r2,q⟩;unfold C0 at q
 split at q
 · rename_i c e;obtain⟨h1,h2⟩:=b1B e r1 r2;exact .inl ⟨h1,by rw[←h2];exact q.ok s rfl⟩
 · split at q
   · rename_i c e;obtain⟨a,b,xs,ys,e1,e2,s1,s2,f1,f2,z⟩:=a8k s r1 r2 e;exact .inr ⟨a,b,xs,ys,e1,e2,by rw[hK];exact s1,by rw[hK];exact s2,f1,f2,by rw[z];exact q.ok s rfl⟩
   · exact q.elim
theorem c0z(hu:X.A.units+8<cLine)(hK:X.K=Γ.K):OpR X (compareOp .NotEq) (rOf Γ E a1h):=by
 refine OpR.imp (b7U.or (b5t (X:=X) (by omega))) ?_
 rintro x y H Q ⟨d1,d2,ah,m,s,r1,r2,q⟩;unfold a1h at q
 split at q
 · rename_i c e;obtain⟨h1,h2⟩:=b1B e r1 r2;exact .inl ⟨h1,by rw[←h2];exact q.ok s rfl⟩
 · split at q
   · rename_i c e;obtain⟨a,b,xs,ys,e1,e2,s1,s2,f1,f2,z⟩:=a8k s r1 r2 e;exact .inr ⟨a,b,xs,ys,e1,e2,by rw[hK];exact s1,by rw[hK];exact s2,f1,f2,by rw[z];exact q.ok s rfl⟩
   · exact q.elim
theorem b4P{s:Shared}{a:Addr}(I:Inv X pins σ H s)(h:H a=some (.dK [])):Inv X pins σ (upd H a (.dT [])) s:=by
 obtain⟨z,hd,vs,rel,o,es,ep,ho,hx,hdt,hes,hp,hh⟩:=I.hok a _ h;cases rel
 have e0:es.toList=[]:=by cases q:es.toList with
  |nil=>rfl
  |cons x r=>rw[q] at hp;cases hp
 exact I.write (x:=a) (e:=a) (h':=s.heap) (t':=s.toks) (by rw[h];trivial) (.inl rfl) (fun b u _ q=>q) ⟨o,ho⟩ ⟨z,hd,[],.nil,o,es,ep,ho,hx,hdt,e0,nodup_nil⟩
theorem b4Q{s:Shared}{a:Addr}(I:Inv X pins σ H s)(h:H a=some (.dT [])):Inv X pins σ (upd H a (.dK [])) s:=by
 obtain⟨z,hd,xs,rel,o,es,ep,ho,hx,hdt,hes,hh⟩:=I.hok a _ h;cases rel
 have e0:es= #[]:=Array.toList_inj.mp hes
 subst e0;refine I.write (x:=a) (e:=a) (h':=s.heap) (t':=s.toks) (by rw[h];trivial) (.inl rfl) (fun b u _ q=>q) ⟨o,ho⟩ ⟨z,hd,[],.nil,o,#[],ep,ho,hx,hdt,fun e he=>?_,.nil,nodup_nil⟩
 simp at he
theorem a0v{k:Key}(e:J6 d=some k)(r:Rp m H d v):v=kV k:=by
 cases d<;>simp only[J6] at e<;>first|(cases e;done)|(cases e;cases r;rfl)
theorem a2W{m:List Addr}{H:Hp}:∀{l:List D} {vs:List V} {ks:List Key},E7 l=some ks->Rps m H l vs->vs=ks.map kV
 |[],vs,ks,e,h=>by cases e;exact h
 |d::r,vs,ks,e,⟨v,t,ev,q1,q2⟩=>by
  subst ev;unfold E7 at e
  split at e
  · rename_i k ks' e1 e2;cases e;rw[map_cons,a0v e1 q1,a2W e2 q2]
  · cases e
theorem Z8{a b:D}{k:Key}(h1:J6 a=some k)(h2:J6 b=some k):a=b:=by
 cases a<;>simp only[J6] at h1<;>first|(cases h1;done)|(cases h1;cases b<;>simp only[J6] at h2<;>first|(cases h2;done)|(cases h2;rfl))
theorem a1H:∀{a b:List D} {k:List Key},E7 a=some k->E7 b=some k->a=b
 |[],[],_,_,_=>rfl
 |[],y::ys,k,h1,h2=>by
  cases h1;unfold E7 at h2
  split at h2<;>cases h2
 |x::xs,[],k,h1,h2=>by
  cases h2;unfold E7 at h1
  split at h1<;>cases h1
 |x::xs,y::ys,k,h1,h2=>by
  unfold E7 at h1 h2
  split at h1
  · rename_i k1 ks1 e1 e2;cases h1
    split at h2
    · rename_i k2 ks2 e3 e4;cases h2;rw[Z8 e1 e3,a1H e2 e4]
    · cases h2
  · cases h1
theorem a4T(h:J0 d=some false):∃k,J6 d=some k:=by
 cases d<;>simp only[J0] at h<;>first|(cases h;done)|exact⟨_,rfl⟩|(split at h<;>cases h)
theorem a2X(h:J0 d=some true):∃l ks,d=.tup l/\E7 l=some ks:=by
 cases d<;>simp only[J0] at h<;>first|(cases h;done)|skip
 rename_i l
 split at h
 · rename_i e;obtain⟨ks,hk⟩:=Option.isSome_iff_exists.mp e;exact⟨l,ks,rfl,hk⟩
 · cases h
theorem DK.val{l:List (D×D)}{kvs:List (Key×V)}(r:DK m H l kvs){k:Key}(e:J6 d=some k):
 (∀c,n9 l d=some c->∃v,V3 kvs k=some v/\Rp m H c v)/\(n9 l d=none->V3 kvs k=none):=by
 induction r with
 |nil=>exact⟨fun c h=>(by cases h),fun _=>rfl⟩
 | @cons p q ps qs h t ih=>
  by_cases z:p.1=d
  · have z':q.1=k:=by have:=h.1;rw[z,e] at this;exact(au this).symm
    rw[Y7 z',show n9 (p::ps) d=some p.2 from by simp[n9,List.find?_cons,z]]
    exact⟨fun c hc=>by cases hc;exact⟨q.2,rfl,h.2⟩,fun hc=>by cases hc⟩
  · have z':¬q.1=k:=fun y=>z (Z8 (by rw[h.1,y]) e)
    rw[Y8 z',show n9 (p::ps) d=n9 ps d from by simp[n9,List.find?_cons,z]]
    exact ih
theorem DT.val{l:List (D×D)}{kvs:List (List Key×V)}(r:DT m H l kvs){d:List D}{k:List Key}(e:E7 d=some k):
 (∀c,n9 l (.tup d)=some c->∃v,V3 kvs k=some v/\Rp m H c v)/\(n9 l (.tup d)=none->V3 kvs k=none):=by
 induction r with
 |nil=>exact⟨fun c h=>(by cases h),fun _=>rfl⟩
 | @cons p q ps qs h t ih=>
  obtain⟨⟨l',e1,e2⟩,h2⟩:=h
  by_cases z:p.1=.tup d
  · have z':q.1=k:=by rw[e1] at z;injection z with z;rw[z,e] at e2;exact(au e2).symm
    rw[Y7 z',show n9 (p::ps) (.tup d)=some p.2 from by simp[n9,List.find?_cons,z]]
    exact⟨fun c hc=>by cases hc;exact⟨q.2,rfl,h2⟩,fun hc=>by cases hc⟩
  · have z':¬q.1=k:=fun y=>z (e1.trans (congrArg D.tup (a1H (e2.trans (congrArg some y)) e)))
    rw[Y8 z',show n9 (p::ps) (.tup d)=n9 ps (.tup d) from by simp[n9,List.find?_cons,z]]
    exact ih
theorem DK.put {l:List (D×D)} {kvs:List (Key×V)} (r:DK m H l kvs) {c:D} {k:Key} (e:J6 d=some k) (rv:Rp m H c v):DK m H (a1g l d c) (N9 kvs k v):=by
 have any:(l.any fun p=>decide (p.1=d))=kvs.any fun p=>decide (p.1=k):=by
  induction r with
  |nil=>rfl
  | @cons p q ps qs h t ih=>
   rw[any_cons,any_cons,ih];congr 1;refine decide_eq_decide.mpr ⟨fun(z:p.1=d)=>?_,fun(z:q.1=k)=>Z8 (by rw[h.1,z]) e⟩
   have:=h.1;rw[z,e] at this;exact(au this).symm
 unfold a1g N9;rw[any]
 split
 · clear any
   induction r with
   |nil=>exact .nil
   | @cons p q ps qs h t ih=>
    rename_i hh;rw[map_cons,map_cons];refine .cons ?_ ?_
    · by_cases z:p.1=d
      · have z':q.1=k:=by have:=h.1;rw[z,e] at this;exact(au this).symm
        rw[av z,av z'];exact⟨h.1,rv⟩
      · have z':¬q.1=k:=fun y=>z (Z8 (by rw[h.1,y]) e)
        rw[aw z,aw z'];exact h
    · clear hh ih h
      induction t with
      |nil=>exact .nil
      | @cons p q ps qs h t ih=>
       rw[map_cons,map_cons];refine .cons ?_ ih
       by_cases z:p.1=d
       · have z':q.1=k:=by have:=h.1;rw[z,e] at this;exact(au this).symm
         rw[av z,av z'];exact⟨h.1,rv⟩
       · have z':¬q.1=k:=fun y=>z (Z8 (by rw[h.1,y]) e)
         rw[aw z,aw z'];exact h
 · exact Paired.snoc r ⟨e,rv⟩
theorem DT.put{l:List (D×D)}{kvs:List (List Key×V)}(r:DT m H l kvs){d:List D}{c:D}{k:List Key}(e:E7 d=some k)(rv:Rp m H c v):DT m H (a1g l (.tup d) c) (N9 kvs k v):=by
 have one:∀{p:D×D} {q:List Key×V},(∃l,p.1=.tup l/\E7 l=some q.1)->(p.1=.tup d↔q.1=k):=by
  rintro p q ⟨l',e1,e2⟩;refine⟨fun(z:p.1=.tup d)=>?_,fun(z:q.1=k)=>e1.trans (congrArg D.tup (a1H (e2.trans (congrArg some z)) e))⟩
  rw[e1] at z;injection z with z;rw[z,e] at e2;exact(au e2).symm
 have any:(l.any fun p=>decide (p.1=.tup d))=kvs.any fun p=>decide (p.1=k):=by
  induction r with
  |nil=>rfl
  | @cons p q ps qs h t ih=>
   rw[any_cons,any_cons,ih];congr 1;exact decide_eq_decide.mpr (one h.1)
 unfold a1g N9;rw[any]
 split
 · have go:∀{l:List (D×D)} {kvs:List (List Key×V)},DT m H l kvs->DT m H (l.map fun p=>if p.1=.tup d then(p.1,c) else p) (kvs.map fun p=>if p.1=k then(p.1,v) else p):=by
    intro l kvs r
    induction r with
    |nil=>exact .nil
    | @cons p q ps qs h t ih=>
     rw[map_cons,map_cons];refine .cons ?_ ih
     by_cases z:p.1=.tup d
     · rw[av z,av ((one h.1).mp z)];exact⟨h.1,rv⟩
     · rw[aw z,aw fun y=>z ((one h.1).mpr y)];exact h
   exact go r
 · exact Paired.snoc r ⟨⟨d,rfl,e⟩,rv⟩
theorem S7{s:Shared}{k:D}(I:Inv X pins σ H s)(S:Sim Γ ah m H)(e:ah[n]? =some (.dict kvs))(ok:F9 k kvs=true){a:Addr}(hm:m[n]? =some a):
 ∃H',Inv X pins σ H' s/\Keep m m H H'/\Sim Γ ah m H'/\((∃ks gs,J6 k=some ks/\H' a=some (.dK gs)/\DK m H' kvs gs)∨∃l ks gs,k=.tup l/\E7 l=some ks/\H' a=some (.dT gs)/\DT m H' kvs gs):=by
 unfold F9 at ok;rw[ae] at ok;obtain⟨ok1,ok2⟩:=ok;obtain⟨b,hb⟩:=Option.isSome_iff_exists.mp ok1
 rcases S.at hm e with⟨gs,h1,h2⟩|⟨gs,h1,h2⟩
 · cases b with
   |false=>
    obtain⟨ks,hk⟩:=a4T hb;exact⟨H,I,Keep.refl m H,S,.inl ⟨ks,gs,hk,h1,h2⟩⟩
   | true=>
    obtain⟨l,ks,rfl,hk⟩:=a2X hb
    cases h2 with
    |nil=>
     have kp:Keep m m H (upd H a (.dT [])):=Keep.put hm h1 fun z=>z
     have S':=S.write (o':=.dT []) (c:=.dict []) hm h1 (fun z=>z) (.inr ⟨[],d0,.nil⟩)
     rw[show ah.set n (.dict [])=ah from a5J e] at S';exact⟨_,b4P I h1,kp,S',.inr ⟨l,ks,[],rfl,hk,d0,.nil⟩⟩
    | @cons p q ps qs h t=>
     rw[all_cons,ae,hb] at ok2
     exfalso
     have:=eq_of_beq ok2.1
     obtain⟨l',ks',e1,_⟩:=a2X this;have h1:=h.1;rw[e1] at h1;cases h1
 · cases b with
   |true=>
    obtain⟨l,ks,rfl,hk⟩:=a2X hb;exact⟨H,I,Keep.refl m H,S,.inr ⟨l,ks,gs,rfl,hk,h1,h2⟩⟩
   | false=>
    obtain⟨ks,hk⟩:=a4T hb
    cases h2 with
    |nil=>
     have kp:Keep m m H (upd H a (.dK [])):=Keep.put hm h1 fun z=>z
     have S':=S.write (o':=.dK []) (c:=.dict []) hm h1 (fun z=>z) (.inl ⟨[],d0,.nil⟩)
     rw[show ah.set n (.dict [])=ah from a5J e] at S';exact⟨_,b4Q I h1,kp,S',.inl ⟨ks,[],hk,d0,.nil⟩⟩
    | @cons p q ps qs h t=>
     rw[all_cons,ae,hb] at ok2
     exfalso
     have:=eq_of_beq ok2.1
     obtain⟨ks',hk'⟩:=a4T this;obtain⟨⟨l',e1,_⟩,_⟩:=h;rw[e1] at hk';cases hk'
end
variable{o:B}{h:AH}{ds:List D}
section
variable{X:Cx}{E:XK}
theorem a3o(b:Bool):(b !=false)=b:=by cases b<;>rfl
theorem a3n(b:Bool):(b !=true)=!b:=by cases b<;>rfl
theorem DK.some_eq{l:List (D×D)}{kvs:List (Key×V)}(r:DK m H l kvs){k:Key}(e:J6 d=some k):(n9 l d).isSome=(V3 kvs k).isSome:=by
 obtain⟨h1,h2⟩:=r.val e
 cases q:n9 l d with
 |none=>rw[h2 q];rfl
 |some c=>obtain⟨v,hv,_⟩:=h1 c q;rw[hv];rfl
theorem DT.some_eq{l:List (D×D)}{kvs:List (List Key×V)}(r:DT m H l kvs){d:List D}{k:List Key}(e:E7 d=some k):(n9 l (.tup d)).isSome=(V3 kvs k).isSome:=by
 obtain⟨h1,h2⟩:=r.val e
 cases q:n9 l (.tup d) with
 |none=>rw[h2 q];rfl
 |some c=>obtain⟨v,hv,_⟩:=h1 c q;rw[hv];rfl
theorem a1t{k:D}{x:V}{a:Addr}(kp:Keep m m H H')(r:Rp m H k x)
 (h:(∃ks gs,J6 k=some ks/\H' a=some (.dK gs)/\DK m H' kvs gs)∨∃l ks gs,k=.tup l/\E7 l=some ks/\H' a=some (.dT gs)/\DT m H' kvs gs):
 ∃o,a7u H' a x o/\(n9 kvs k).isSome=o.isSome/\∀c,n9 kvs k=some c->∃v,o=some v/\Rp m H' c v:=by
 rcases h with⟨ks,gs,hk,ha,dk⟩|⟨l,ks,gs,rfl,hk,ha,dt⟩
 · obtain⟨h1,h2⟩:=dk.val hk;exact⟨V3 gs ks,.inl ⟨gs,ks,.inl ha,a0v hk r,rfl⟩,dk.some_eq hk,fun c hc=>h1 c hc⟩
 · obtain⟨h1,h2⟩:=dt.val hk;obtain⟨b,vs,rfl,hb,rs⟩:=r;have hv:=a2W hk rs;subst hv;exact⟨V3 gs ks,.inr ⟨gs,ks,b,.inl ha,rfl,kp.tup hb,rfl⟩,dt.some_eq hk,fun c hc=>h1 c hc⟩
theorem c0A(hu:X.A.units+8<cLine)(hK:X.K=Γ.K):OpR X (compareOp .In) (rOf Γ E (O1 false)):=by
 rintro pins s σ H x y v u Q I rx ry ⟨d1,d2,ah,m,S,r1,r2,q⟩;unfold O1 at q
 split at q
 · cases r1;cases r2
   rw[a3o] at q;exact a8N pins s σ H _ _ v u Q I rx ry ⟨_,_,rfl,rfl,q.ok S rfl⟩
 · split at q
   · rename_i h;rw[ae] at h;obtain⟨a,vs,rfl,h1,q1⟩:=r2;refine a0t pins s σ H _ _ v u Q I rx ry ⟨a,vs,rfl,.inr (.inl (.inl h1)),T3 r1 h.1,G4 q1 h.2,?_⟩
     rw[a3o,a0b r1 h.1 q1 h.2] at q;exact q.ok S rfl
   · exact q.elim
 · split at q
   · rename_i xs e
     split at q
     · rename_i h;rw[ae] at h;obtain⟨a,vs,rfl,_,h1,q1⟩:=S.lst e r2;refine a0t pins s σ H _ _ v u Q I rx ry ⟨a,vs,rfl,.inl (.inl (.inl h1)),T3 r1 h.1,G4 q1 h.2,?_⟩
       rw[a3o,a0b r1 h.1 q1 h.2] at q;exact q.ok S rfl
     · exact q.elim
   · rename_i xs e
     split at q
     · rename_i h;rw[ae] at h;obtain⟨a,vs,rfl,_,h1,q1⟩:=S.rdL (l:=xs) (by unfold rdL;rw[e]) r2
       refine a0t pins s σ H _ _ v u Q I rx ry ⟨a,vs,rfl,.inl (by rw[hK];exact h1),T3 r1 h.1,G4 q1 h.2,?_⟩
       rw[a3o,a0b r1 h.1 q1 h.2] at q;exact q.ok S rfl
     · exact q.elim
   · rename_i kvs e
     split at q
     · rename_i h;obtain⟨a,rfl,hm⟩:=r2;obtain⟨H',I',kp,S',hd⟩:=S7 I S e h hm;obtain⟨o,g,h1,_⟩:=a1t kp r1 hd
       cases (show u=Value.ref a from ry)
       refine c0D (hu1 hu) I' g rx fun s' I''=>⟨.bl o.isSome,H',I'',rfl,?_⟩
       rw[a3o,h1] at q;exact q m H' _ (Pre.refl m) kp S' rfl
     · exact q.elim
   · exact q.elim
 · exact q.elim
theorem b3O(hu:X.A.units+8<cLine)(hK:X.K=Γ.K):OpR X (compareOp .NotIn) (rOf Γ E (O1 true)):=by
 rintro pins s σ H x y v u Q I rx ry ⟨d1,d2,ah,m,S,r1,r2,q⟩;unfold O1 at q
 split at q
 · cases r1;cases r2
   rw[a3n] at q;exact a4K pins s σ H _ _ v u Q I rx ry ⟨_,_,rfl,rfl,q.ok S rfl⟩
 · split at q
   · rename_i h;rw[ae] at h;obtain⟨a,vs,rfl,h1,q1⟩:=r2;refine O6 pins s σ H _ _ v u Q I rx ry ⟨a,vs,rfl,.inr (.inl (.inl h1)),T3 r1 h.1,G4 q1 h.2,?_⟩
     rw[a3n,a0b r1 h.1 q1 h.2] at q;exact q.ok S rfl
   · exact q.elim
 · split at q
   · rename_i xs e
     split at q
     · rename_i h;rw[ae] at h;obtain⟨a,vs,rfl,_,h1,q1⟩:=S.lst e r2;refine O6 pins s σ H _ _ v u Q I rx ry ⟨a,vs,rfl,.inl (.inl (.inl h1)),T3 r1 h.1,G4 q1 h.2,?_⟩
       rw[a3n,a0b r1 h.1 q1 h.2] at q;exact q.ok S rfl
     · exact q.elim
   · rename_i xs e
     split at q
     · rename_i h;rw[ae] at h;obtain⟨a,vs,rfl,_,h1,q1⟩:=S.rdL (l:=xs) (by unfold rdL;rw[e]) r2
       refine O6 pins s σ H _ _ v u Q I rx ry ⟨a,vs,rfl,.inl (by rw[hK];exact h1),T3 r1 h.1,G4 q1 h.2,?_⟩
       rw[a3n,a0b r1 h.1 q1 h.2] at q;exact q.ok S rfl
     · exact q.elim
   · rename_i kvs e
     split at q
     · rename_i h;obtain⟨a,rfl,hm⟩:=r2;obtain⟨H',I',kp,S',hd⟩:=S7 I S e h hm;obtain⟨o,g,h1,_⟩:=a1t kp r1 hd
       cases (show u=Value.ref a from ry)
       refine b3S (hu1 hu) I' g rx fun s' I''=>⟨.bl (!o.isSome),H',I'',rfl,?_⟩
       rw[a3n,h1] at q;exact q m H' _ (Pre.refl m) kp S' rfl
     · exact q.elim
   · exact q.elim
 · exact q.elim
noncomputable def B.cmp:B->Option CmpOp
 |.eq=>some .Eq|.ne=>some .NotEq|.lt=>some .Lt|.le=>some .LtE|.gt=>some .Gt|.ge=>some .GtE|.isin=>some .In|.notin=>some .NotIn
 |_=>none
noncomputable def B.bin:B->Option Operator
 |.add=>some .Add|.sub=>some .Sub|.mul=>some .Mult|.div=>some .FloorDiv|.mod=>some .Mod
 |_=>none
theorem b8P{op:Operator}(h:o.bin=some op):OpR X (binaryOp op) (rOf Γ E (op2 o)):=by
 cases o<;>cases h
 · exact b8Q
 · exact b8J
 · exact b8K
 · exact b8O
 · exact b8L
theorem a1L(hu:X.A.units+8<cLine)(hK:X.K=Γ.K)(h:o.cmp=some op):OpR X (compareOp op) (rOf Γ E (op2 o)):=by
 cases o<;>cases h
 · exact c0B hu hK
 · exact c0z hu hK
 · exact a8m b7V
 · exact a8m b7W
 · exact a8m b7X
 · exact a8m b7Y
 · exact c0A hu hK
 · exact b3O hu hK
theorem b8M (hu:X.A.units+8<cLine) (hK:X.K=Γ.K):IxR X (rOf Γ E ixD):=by
  rintro value slice pins s σ H x y v u Q I rx ry ⟨d1,d2,ah,m,S,r1,r2,q⟩ hs;unfold ixD at q
  split at q
  · split at q
    · rename_i d e;obtain⟨a,vs,rfl,h1,q1⟩:=r1;cases r2;obtain⟨w,hw,rw'⟩:=q1.at e;exact ix_tup value slice pins s σ H _ _ v u Q I rx ry ⟨a,vs,_,w,rfl,rfl,.inl (.inl h1),hw,q.ok S rw'⟩ hs
    · exact q.elim
  · split at q
    · rename_i hl
      split at q
      · rename_i c e
        cases r1;cases r2
        exact ix_str value slice pins s σ H _ _ v u Q I rx ry ⟨_,_,c,rfl,rfl,by rw[←O4];exact hl,e,q.ok S rfl⟩ hs
      · exact q.elim
    · exact q.elim
  · split at q
    · rename_i xs e
      split at q
      · split at q
        · rename_i d e2;obtain⟨a,vs,rfl,_,h1,q1⟩:=S.lst e r1;cases r2;obtain⟨w,hw,rw'⟩:=q1.at e2;exact a7V value slice pins s σ H _ _ v u Q I rx ry ⟨a,vs,_,w,rfl,rfl,.inl (.inl h1),hw,q.ok S rw'⟩ hs
        · exact q.elim
      · exact q.elim
    · rename_i xs e
      split at q
      · split at q
        · rename_i d e2;obtain⟨a,vs,rfl,_,h1,q1⟩:=S.rdL (l:=xs) (by unfold rdL;rw[e]) r1
          cases r2;obtain⟨w,hw,rw'⟩:=q1.at e2;exact a7V value slice pins s σ H _ _ v u Q I rx ry ⟨a,vs,_,w,rfl,rfl,by rw[hK];exact h1,hw,q.ok S rw'⟩ hs
        · exact q.elim
      · exact q.elim
    · rename_i kvs e
      split at q
      · rename_i h
        split at q
        · rename_i d e2;obtain⟨a,rfl,hm⟩:=r1;obtain⟨H',I',kp,S',hd⟩:=S7 I S e h hm;obtain⟨o,g,h1,h2⟩:=a1t kp r2 hd;obtain⟨w,hw,rw'⟩:=h2 d e2;subst hw
          cases (show v=Value.ref a from rx)
          refine ixd_tail (a6o I' g) hs ?_
          exact a9k (hu1 hu) I' g ry fun w' s' I'' r''=>⟨w,H',I'',r'',q m H' _ (Pre.refl m) kp S' rw'⟩
        · exact q.elim
      · exact q.elim
    · exact q.elim
  · exact q.elim
where
  ixd_tail {value slice:Expr} {v u:Value} {Q:Value->Shared->Prop} {s:Shared} (hT:s.TypeIs v "dict") (hs:subscripted slice false v u=operate [v,u] (getItem v u)) (h:wpAny (model X.prog X.w) X.A (getItem v u) Q X.xe s):
      wpAny (model X.prog X.w) X.A (subscriptTail value slice v u) Q X.xe s:=by
    unfold subscriptTail;refine wpAny_bind ?_
    rw[getitemInPython_of_ne hT.not_modules];refine wpAny_bind (wpAny_specialOf hT PySem.F.slot_dict_getitem.lookup ?_)
    have fin:wpAny (model X.prog X.w) X.A (subscripted slice false v u) (fun r s₃=>wpAny (model X.prog X.w) X.A (letTemporaryGo value v r>>=fun _=>pure r) Q X.xe s₃) X.xe s:=by
      rw[hs];exact wpAny_operating (wpAny_mono h (fun r s₃ h₃=>wpAny_bind (wpAny_letTemporaryGo (wpAny_pure h₃))) fun _ _ x=>x)
    first
      |exact wpAny_pure (wpAny_bind fin)
      |exact wpAny_bind (wpAny_pure (wpAny_bind fin))
      |exact wpAny_bind fin
theorem c0y(hK:X.K=Γ.K):SlR X (fun x lo hi H Q=>∃d ah m,Sim Γ ah m H/\Rp m H d x/\g9 Γ E m H (slD ah lo hi d) Q):=by
 rintro pins s σ H x v vl vu lo hi sl Q I rx hs pl pu ⟨d,ah,m,S,r,q⟩;unfold slD at q
 split at q
 · split at q
   · rename_i hl;cases r;exact b4H pins s σ H _ v vl vu lo hi sl Q I rx hs pl pu ⟨_,rfl,by rw[←O4];exact hl,q.ok S rfl⟩
   · exact q.elim
 · split at q
   · exact q.elim
   · rename_i hw;obtain⟨a,vs,rfl,h1,q1⟩:=r;refine b4G pins s σ H _ v vl vu lo hi sl Q I rx hs pl pu ⟨a,vs,rfl,.inl (.inl h1),by rw[q1.len];exact hw,fun p hp=>q.newt S hp (q1.cut lo hi)⟩
 · split at q
   · rename_i xs e;obtain⟨a,vs,rfl,_,h1,q1⟩:=S.rdL e r;refine b2o pins s σ H _ v vl vu lo hi sl Q I rx hs pl pu ⟨a,vs,rfl,by rw[hK];exact h1,fun p hp=>q.newc S hp ⟨_,d0,(q1.cut lo hi).mono (Pre.snoc m p) (Keep.newc hp)⟩⟩
   · exact q.elim
 · exact q.elim
def rBi(Γ:Gm)(E:XK)(b:Bi):List V->Hp->VK->Prop:=fun xs H Q=>∃ds ah m,Sim Γ ah m H/\Rps m H ds xs/\g9 Γ E m H (biD b ah ds) Q
theorem V5{xs:List V}(h:Rps m H [d] xs):∃x,xs=[x]/\Rp m H d x:=by
 obtain⟨v,t,rfl,q,e⟩:=h;exact⟨v,by rw[show t=[] from e],q⟩
theorem c0b{e:D}{xs:List V}(h:Rps m H [d,e] xs):∃x y,xs=[x,y]/\Rp m H d x/\Rp m H e y:=by
 obtain⟨v,t,rfl,q,h2⟩:=h;obtain⟨y,rfl,q2⟩:=V5 h2;exact⟨v,y,rfl,q,q2⟩
theorem b8Z(hK:X.K=Γ.K):G8 X (.builtin "len") (rBi Γ E .len):=by
 rintro pins s σ H xs us Q I r ⟨ds,ah,m,S,rs,q⟩;unfold biD at q
 split at q
 · obtain⟨x,rfl,r1⟩:=V5 rs;cases r1
   simp only at q
   split at q
   · rename_i hl;exact a5o pins s σ H _ us Q I r ⟨_,rfl,by rw[←O4];exact hl,q.ok S rfl⟩
   · exact q.elim
 · obtain⟨x,rfl,a,vs,rfl,h1,q1⟩:=V5 rs;exact a1w pins s σ H _ us Q I r ⟨a,vs,rfl,.inr (.inl (.inl h1)),by rw[q1.len];exact q.ok S rfl⟩
 · exact q.elim
 · exact q.elim
 · rename_i n;obtain⟨x,rfl,r1⟩:=V5 rs
   split at q
   · rename_i kvs e
     simp only at q
     split at q
     · rename_i h;obtain⟨a,rfl,hm⟩:=r1;obtain⟨H',I',kp,S',hd⟩:=S7 I S e h hm
       rcases hd with⟨ks,gs,hk,ha,dk⟩|⟨l,ks,gs,e0,_⟩
       · obtain⟨u,rfl,ru⟩:=V2 r
         cases (show u=Value.ref a from ru)
         refine b8U I' (.inl ha) fun t s' I''=>⟨.int gs.length,H',I'',⟨t,rfl⟩,?_⟩
         rw[←Paired.length dk];exact q m H' _ (Pre.refl m) kp S' rfl
       · cases e0
     · exact q.elim
   · split at q
     · rename_i ys e
       simp only at q
       obtain⟨a,vs,rfl,_,h1,q1⟩:=S.rdL e r1;exact a1w pins s σ H _ us Q I r ⟨a,vs,rfl,.inl (by rw[hK];exact h1),by rw[q1.len];exact q.ok S rfl⟩
     · exact q.elim
 · exact q.elim
theorem b8Y:G8 X (.type "str") (rBi Γ E .str):=by
 rintro pins s σ H xs us Q I r ⟨ds,ah,m,S,rs,q⟩;unfold biD at q
 split at q<;>(try exact q.elim)
 · simp only at q
   split at q
   · rename_i hl;obtain⟨x,rfl,r1⟩:=V5 rs;cases r1;exact a5n pins s σ H _ us Q I r ⟨_,rfl,hl,q.ok S rfl⟩
   · exact q.elim
 · split at q
   · exact q.elim
   · split at q<;>exact q.elim
theorem b9a:G8 X (.type "int") (rBi Γ E .int):=by
 rintro pins s σ H xs us Q I r ⟨ds,ah,m,S,rs,q⟩;unfold biD at q
 split at q<;>(try exact q.elim)
 · simp only at q
   split at q
   · rename_i hl
     split at q
     · rename_i n e;obtain⟨x,rfl,r1⟩:=V5 rs;cases r1;exact a5p pins s σ H _ us Q I r ⟨_,n,rfl,hl,e,q.ok S rfl⟩
     · exact q.elim
   · exact q.elim
 · obtain⟨x,rfl,r1⟩:=V5 rs;cases r1;exact a4j pins s σ H _ us Q I r (.inl ⟨_,rfl,q.ok S rfl⟩)
 · obtain⟨x,rfl,r1⟩:=V5 rs;cases r1;exact a4j pins s σ H _ us Q I r (.inr ⟨_,rfl,q.ok S rfl⟩)
 · split at q
   · exact q.elim
   · split at q<;>exact q.elim
theorem b6I(hK:X.K=Γ.K):G8 X (.type "list") (rBi Γ E .list):=by
 rintro pins s σ H xs us Q I r ⟨ds,ah,m,S,rs,q⟩;unfold biD at q
 split at q<;>(try exact q.elim)
 · obtain⟨x,rfl,a,vs,rfl,h1,q1⟩:=V5 rs;exact a1v pins s σ H _ us Q I r ⟨a,vs,rfl,.inr (.inl (.inl h1)),fun p hp=>q.newc S hp ⟨_,d0,q1.mono (Pre.snoc m p) (Keep.newc hp)⟩⟩
 · split at q
   · exact q.elim
   · split at q
     · rename_i ys e;obtain⟨x,rfl,r1⟩:=V5 rs;obtain⟨a,vs,rfl,_,h1,q1⟩:=S.rdL e r1;exact a1v pins s σ H _ us Q I r ⟨a,vs,rfl,.inl (by rw[hK];exact h1),fun p hp=>g9.newc q S hp ⟨_,d0,q1.mono (Pre.snoc m p) (Keep.newc hp)⟩⟩
     · exact q.elim
theorem b3Y(hK:X.K=Γ.K):G8 X (.type "tuple") (rBi Γ E .tuple):=by
 rintro pins s σ H xs us Q I r ⟨ds,ah,m,S,rs,q⟩;unfold biD at q
 split at q<;>(try exact q.elim)
 · obtain⟨x,rfl,a,vs,rfl,h1,q1⟩:=V5 rs;exact a0N pins s σ H _ us Q I r ⟨a,vs,rfl,.inr ⟨.inl (.inl h1),g9.ok q S ⟨a,vs,rfl,h1,q1⟩⟩⟩
 · split at q
   · exact q.elim
   · split at q
     · rename_i ys e;obtain⟨x,rfl,r1⟩:=V5 rs;obtain⟨a,vs,rfl,_,h1,q1⟩:=S.rdL e r1;exact a0N pins s σ H _ us Q I r ⟨a,vs,rfl,.inl ⟨by rw[hK];exact h1,fun p hp=>g9.newt q S hp q1⟩⟩
     · exact q.elim
theorem b0m{m:List Addr}{H:Hp}:∀{l:List D} {kvs:List (D×D)} {vs:List V},a8I l=some kvs->Rps m H l vs->∃gs,PrT H vs gs/\DK m H kvs gs
 |[],kvs,vs,h,r=>by cases h;rw[show vs=[] from r];exact⟨[],.nil,.nil⟩
 |d::l,kvs,vs,h,⟨v,t,e,q1,q2⟩=>by
  unfold a8I at h
  split at h
  · rename_i e0;cases e0
  · rename_i k x r e0;cases e0
    split at h
    · rename_i hk;obtain⟨kvs',h1,rfl⟩:=Option.map_eq_some_iff.mp h;obtain⟨gs,g1,g2⟩:=b0m h1 q2;obtain⟨kk,hk⟩:=Option.isSome_iff_exists.mp hk;obtain⟨a,ws,rfl,ha,rs⟩:=q1;obtain⟨y,z,rfl,r1,r2⟩:=c0b rs
      have:=a0v hk r1
      subst this;rw[e];exact⟨(kk,z)::gs,.cons ⟨a,rfl,ha⟩ g1,.cons ⟨hk,r2⟩ g2⟩
    · cases h
  · cases h
theorem b1G(h:DK m H kvs gs):∀{acc:List (D×D)} {ag:List (Key×V)},DK m H acc ag->DK m H (kvs.foldl (fun a p=>a1g a p.1 p.2) acc) (W7 ag gs):=by
 unfold DK at h
 induction h with
 |nil=>exact fun r=>r
 |cons h t ih=>exact fun r=>ih (DK.put r h.1 h.2)
theorem b6J(hc:X.calm=true)(hK:X.K=Γ.K):G8 X (.type "dict") (rBi Γ E .dict):=by
 rintro pins s σ H xs us Q I r ⟨ds,ah,m,S,rs,q⟩;unfold biD at q
 split at q<;>(try exact q.elim)
 split at q
 · exact q.elim
 · split at q
   · rename_i ys e
     simp only at q
     split at q
     · rename_i kvs e2;obtain⟨x,rfl,r1⟩:=V5 rs;obtain⟨a,vs,rfl,_,h1,q1⟩:=S.rdL e r1;obtain⟨gs,g1,g2⟩:=b0m e2 q1;exact a5q hc pins s σ H _ us Q I r ⟨a,vs,gs,rfl,by rw[hK];exact h1,g1,fun d hd=>q.newc S hd (.inl ⟨_,d0,(b1G g2 .nil).mono (Pre.snoc m d) (Keep.newc (m:=m) hd).im⟩)⟩
     · exact q.elim
   · exact q.elim
theorem b9c(hc:X.calm=true)(hK:X.K=Γ.K):G8 X (.builtin "all") (rBi Γ E .all):=by
 rintro pins s σ H xs us Q I r ⟨ds,ah,m,S,rs,q⟩;unfold biD at q
 split at q<;>(try exact q.elim)
 split at q
 · exact q.elim
 · split at q
   · rename_i ys e
     simp only at q
     split at q
     · rename_i bs e2;obtain⟨x,rfl,r1⟩:=V5 rs;obtain⟨a,vs,rfl,_,h1,q1⟩:=S.rdL e r1;rw[a4A e2 q1] at h1;exact b1K hc pins s σ H _ us Q I r ⟨a,bs,rfl,by rw[hK];exact h1,q.ok S rfl⟩
     · exact q.elim
   · exact q.elim
theorem b9b(hc:X.calm=true)(hK:X.K=Γ.K):G8 X (.builtin "any") (rBi Γ E .any):=by
 rintro pins s σ H xs us Q I r ⟨ds,ah,m,S,rs,q⟩;unfold biD at q
 split at q<;>(try exact q.elim)
 split at q
 · exact q.elim
 · split at q
   · rename_i ys e
     simp only at q
     split at q
     · rename_i bs e2;obtain⟨x,rfl,r1⟩:=V5 rs;obtain⟨a,vs,rfl,_,h1,q1⟩:=S.rdL e r1;rw[a4A e2 q1] at h1;exact b1J hc pins s σ H _ us Q I r ⟨a,bs,rfl,by rw[hK];exact h1,q.ok S rfl⟩
     · exact q.elim
   · exact q.elim
def rMt(Γ:Gm)(E:XK)(b:Mt):V->List V->Hp->VK->Prop:=fun x xs H Q=>∃d ds ah m,Sim Γ ah m H/\Rp m H d x/\Rps m H ds xs/\g9 Γ E m H (mtD b ah d ds) Q
theorem b0J:MtR X "list.append" (rMt Γ E .append):=by
 rintro pins s σ H x xs v us Q I rx r ⟨d,ds,ah,m,S,rd,rs,q⟩;unfold mtD at q
 split at q<;>(try exact q.elim)
 · rename_i n e0;obtain⟨y,rfl,r1⟩:=V5 rs
   split at q
   · rename_i l e
     split at q
     · rename_i hl;obtain⟨a,vs,rfl,hm,h1,q1⟩:=S.lst e rd;refine a3T pins s σ H _ _ v us Q I rx r ⟨a,vs,y,rfl,rfl,h1,by rw[q1.len,←O4];exact hl,?_⟩
       have kp:Keep m m H (upd H a (.lst (vs++[y]))):=Keep.put hm h1 fun z=>z
       exact q m _ _ (Pre.refl m) kp (S.write hm h1 (fun z=>z) ⟨_,d0,(q1.snoc r1).mono (Pre.refl m) kp⟩) rfl
     · exact q.elim
   · contradiction
   · exact q.elim
theorem b0I:MtR X "list.extend" (rMt Γ E .extend):=by
 rintro pins s σ H x xs v us Q I rx r ⟨d,ds,ah,m,S,rd,rs,q⟩;unfold mtD at q
 split at q<;>(try exact q.elim)
 · rename_i n e0;obtain⟨y,rfl,r1⟩:=V5 rs
   split at q
   · contradiction
   · rename_i l e
     split at q
     · split at q
       · rename_i ys e2
         split at q
         · rename_i hl;obtain⟨a,vs,rfl,hm,h1,q1⟩:=S.lst e rd;obtain⟨b,ws,rfl,hm2,h2,q2⟩:=S.lst e2 r1;refine a8T pins s σ H _ _ v us Q I rx r ⟨a,b,vs,ws,rfl,rfl,h1,h2,by rw[q1.len,q2.len,←O4];exact hl,?_⟩
           have kp:Keep m m H (upd H a (.lst (vs++ws))):=Keep.put hm h1 fun z=>z
           exact q m _ _ (Pre.refl m) kp (S.write hm h1 (fun z=>z) ⟨_,d0,(q1.app q2).mono (Pre.refl m) kp⟩) rfl
         · exact q.elim
       · exact q.elim
     · exact q.elim
   · exact q.elim
theorem b3d:MtR X "str.split" (rMt Γ E .split):=by
 rintro pins s σ H x xs v us Q I rx r ⟨d,ds,ah,m,S,rd,rs,q⟩;unfold mtD at q
 split at q<;>(try exact q.elim)
 · simp only at q
   split at q
   · rename_i h;obtain⟨y,rfl,r1⟩:=V5 rs
     cases rd;cases r1
     refine b0E pins s σ H _ _ v us Q I rx r ⟨_,_,rfl,rfl,h.1,by rw[←O4];exact h.2,fun p hp=>q.newc S hp ⟨_,d0,Rps.strs⟩⟩
   · exact q.elim
theorem b0H:MtR X "str.startswith" (rMt Γ E .starts):=by
 rintro pins s σ H x xs v us Q I rx r ⟨d,ds,ah,m,S,rd,rs,q⟩;unfold mtD at q
 split at q<;>(try exact q.elim)
 · obtain⟨y,rfl,r1⟩:=V5 rs
   cases rd;cases r1
   exact a8S pins s σ H _ _ v us Q I rx r ⟨_,_,rfl,rfl,q.ok S rfl⟩
theorem b5H(hK:X.K=Γ.K):MtR X "str.join" (rMt Γ E .join):=by
 rintro pins s σ H x xs v us Q I rx r ⟨d,ds,ah,m,S,rd,rs,q⟩;unfold mtD at q
 split at q<;>(try exact q.elim)
 · simp only at q
   split at q
   · rename_i l e
     split at q
     · rename_i ts e2
       split at q
       · rename_i hj;obtain⟨y,rfl,r1⟩:=V5 rs;obtain⟨a,vs,rfl,_,h1,q1⟩:=S.rdL e r1;rw[a2D e2 q1] at h1;cases rd;exact b3b pins s σ H _ _ v us Q I rx r ⟨_,a,ts,rfl,rfl,by rw[hK];exact h1,hj,q.ok S rfl⟩
       · exact q.elim
     · exact q.elim
   · exact q.elim
theorem b9Z(hu:X.A.units+8<cLine):b7f X (fun o i v H Q=>∃d1 d2 d3 ah m,Sim Γ ah m H/\Rp m H d1 o/\Rp m H d2 i/\Rp m H d3 v/\j9 Γ E m H (a0I ah d1 d2 d3) (fun _ _ _ H'=>Q H')):=by
 rintro pins s σ H o i v ov iv u Q I ro ri rv ⟨d1,d2,d3,ah,m,S,r1,r2,r3,q⟩;unfold a0I at q
 split at q
 · split at q
   · rename_i xs e
     split at q
     · rename_i k
       split at q
       · rename_i j e2;obtain⟨a,vs,rfl,hm,h1,q1⟩:=S.lst e r1;cases r2;refine a9I pins s σ H _ _ _ ov iv u Q I ro ri rv ⟨a,vs,_,j,rfl,rfl,h1,by rw[q1.len];exact e2,?_⟩
         have kp:Keep m m H (upd H a (.lst (vs.set j v))):=Keep.put hm h1 fun z=>z
         exact q m _ (Pre.refl m) kp (S.write hm h1 (fun z=>z) ⟨_,d0,(q1.set j r3).mono (Pre.refl m) kp⟩)
       · exact q.elim
     · exact q.elim
   · rename_i kvs e
     split at q
     · rename_i h;obtain⟨a,rfl,hm⟩:=r1
       cases (show ov=Value.ref a from ro)
       obtain⟨H',I',kp,S',hd⟩:=S7 I S e h.1 hm
       have r3':=r3.mono (Pre.refl m) kp
       rcases hd with⟨ks,gs,hk,ha,dk⟩|⟨l,ks,gs,rfl,hk,ha,dt⟩
       · have kp2:Keep m m H' (upd H' a (.dK (N9 gs ks v))):=Keep.put hm ha fun z=>z
         refine a4g (v:=v) (H':=upd H' a (.dK (N9 gs ks v))) (hu1 hu) I' (.inl ⟨gs,ks,ha,a0v hk r2,by rw[←Paired.length dk,←O4];exact h.2,rfl⟩) ri rv fun s' I''=>⟨_,I'',?_⟩
         exact q m _ (Pre.refl m) (kp.trans kp2) (S'.write hm ha (fun z=>z) (.inl ⟨_,d0,(dk.put hk r3').mono (Pre.refl m) kp2.im⟩))
       · have kp2:Keep m m H' (upd H' a (.dT (N9 gs ks v))):=Keep.put hm ha fun z=>z
         obtain⟨b,vs,rfl,hb,rs⟩:=r2;have hv:=a2W hk rs;subst hv;refine a4g (v:=v) (H':=upd H' a (.dT (N9 gs ks v))) (hu1 hu) I' (.inr ⟨gs,ks,b,ha,rfl,kp.tup hb,by rw[←Paired.length dt,←O4];exact h.2,rfl⟩) ri rv fun s' I''=>⟨_,I'',?_⟩
         exact q m _ (Pre.refl m) (kp.trans kp2) (S'.write hm ha (fun z=>z) (.inr ⟨_,d0,(dt.put hk r3').mono (Pre.refl m) kp2.im⟩))
     · exact q.elim
   · exact q.elim
 · exact q.elim
theorem Fl.put{f:Str}(r:Rp m H d v){fs:List (Str×D)}{gs:List (Str×V)}(h:Fl m H fs gs):Fl m H (a3P f d fs) (W6 f v gs):=by
 induction h with
 |nil=>exact .cons ⟨rfl,r⟩ .nil
 | @cons p q ps qs h t ih=>
  obtain⟨n,x⟩:=p;obtain⟨n',x'⟩:=q
  have e:n=n':=h.1
  subst e;unfold a3P W6
  split
  · exact .cons ⟨rfl,r⟩ t
  · exact .cons h ih
theorem Fl.look{f:Str}{fs:List (Str×D)}{gs:List (Str×V)}(h:Fl m H fs gs)(e:fs.lookup f=some d):∃v,gs.lookup f=some v/\Rp m H d v:=by
 induction h with
 |nil=>cases e
 | @cons p q ps qs h t ih=>
  obtain⟨n,x⟩:=p;obtain⟨n',x'⟩:=q
  have e1:n=n':=h.1
  subst e1;rw[lookup_cons] at e⊢
  cases z:f==n with
  |true=>rw[z] at e;cases e;exact⟨x',rfl,h.2⟩
  |false=>rw[z] at e;exact ih e
end
set_option genInjectivity false
mutual
inductive Pat where
  |nm (i:Nat)|tp (ps:Pats)
inductive Pats where
  |nil|cons (p:Pat) (r:Pats)
end
mutual
inductive E where
  |v (i:Nat)|k (d:D)|bin (o:B) (a b:E)|isN (a:E)|notN (a:E)|neg (a:E)|nt (a:E)|an (a b:E)|orr (a b:E)|chn (o p:B) (a b c:E)
  |ix (a b:E)|sl (a:E) (lo hi:O)|fld (a:E) (f:Str)|lst (es:Es)|tup (es:Es)|dnew|call (f:Nat) (es:Es)|mk (c:Nat) (es:Es)|bi (b:Bi) (es:Es)|mt (b:Mt) (o:E) (es:Es)
  |comp (p:Pat) (it:I) (n:Nat) (fr:List Nat) (t:T) (e:E)|gin (neg:Bool) (a:E) (ds:List D)|gdin (neg:Bool) (a:E) (kvs:List (D×D))|gdix (a:E) (kvs:List (D×D))|dlit (kvs:List (D×D))|isl (a:E)|iss (a:E)|ist (a:E)|dget (a k x:E)|rev (a:E)|rvs (a:E)|lm (k:Bool) (a x:E)
inductive Es where
  |nil|cons (e:E) (r:Es)
inductive T where
  |yes|val (e:E)|cmp (o:B) (a b:E)|isN (a:E)|notN (a:E)|chn (o p:B) (a b c:E)|an (a b:T)|orr (a b:T)|nt (a:T)
inductive O where
  |no|at(e:E)
inductive I where
  |seq (e:E)|rng1 (a:E)|enum (e:E)|zip (a b:E)
end
mutual
inductive S where
  |set (i:Nat) (e:E)|ex (e:E)|ret (e:E)|iff (t:T) (a b:Ss)|for (p:Pat) (it:I) (b:Ss)|whl (t:T) (b:Ss)|bad|six (a i v:E)|sfl (a:E) (f:Str) (v:E)
inductive Ss where
  |nil|cons (s:S) (r:Ss)
end
set_option genInjectivity true
inductive Out where
 |nx (env:o9)|rt (d:D)
abbrev CF:=Nat->List D->AH->R D
structure CT where
 init:Nat->Nat
mutual
def D6:Pat->D->o9->Option o9
  |.nm i,d,env=>some (env.set i (some d))
  | .tp ps,d,env=>match d with
    |.tup ds=>O3 ps ds env
    |_=>none
def O3:Pats->List D->o9->Option o9
  | .nil,ds,env=>match ds with
    |[]=>some env
    |_::_=>none
  | .cons p r,ds,env=>match ds with
    |[]=>none
    | d::t=>match D6 p d env with
      |some env'=>O3 r t env'
      |none=>none
end
noncomputable def gOk(g:List (Nat×Cell))(h:AH):Bool:=g.all fun p=>decide (h[p.1]? =some p.2)
noncomputable def asB(r:R D):R Bool:=r.bind fun d h=>match d with
 |.bl b=>.ok b h
 |_=>.no
def K6(g:List (Nat×Cell))(p:Pat)(body:o9->AH->R Out):List D->o9->AH->R Out
 |[],env,h=>if gOk g h=true then .ok (.nx env) h else .no
 | x::r,env,h=>if gOk g h=true then(match D6 p x env with
  |none=>.no
  |some env'=>(body env' h).bind fun o h'=>match o with
   |.nx env''=>K6 g p body r env'' h'
   |.rt d=>.ok (.rt d) h') else .no
def N6(g:List (Nat×Cell))(p:Pat)(t:o9->AH->R Bool)(elt:o9->AH->R D)(env0:o9):List D->List D->AH->R (List D)
 |[],acc,h=>if gOk g h=true then .ok acc h else .no
 | x::r,acc,h=>if gOk g h=true then(match D6 p x env0 with
  |none=>.no
  |some env=>(t env h).bind fun b h1=>if b=true then((elt env h1).bind fun d h2=>if acc.length<SL then N6 g p t elt env0 r (acc++[d]) h2 else .no)
   else N6 g p t elt env0 r acc h1) else .no
def a2u:Nat:=1000000
noncomputable def a3v(t:o9->AH->R Bool)(body:o9->AH->R Out):Nat->o9->AH->R Out
 |0,_,_=>.no
 |n+1,env,h=>(t env h).bind fun b h1=>if b=true then((body env h1).bind fun o h'=>match o with
  |.nx env''=>a3v t body n env'' h'
  |.rt d=>.ok (.rt d) h') else .ok (.nx env) h1
noncomputable def B8:Nat->List D->List D
 |_,[]=>[]
 |n,x::r=>.tup [.int n,x]::B8 (n+1) r
noncomputable def Y2(x:Str):List D:=x.cps.toList.map fun c=>.str ⟨#[c]⟩
noncomputable def a9Q(lo:Int)(n:Nat):List D:=(List.range n).map fun i=>.int (lo+(i:Nat))
abbrev Its:=List D×List (Nat×Cell)
def L4(h:AH):D->R Its
 |.str x=>.ok (Y2 x,[]) h
 |.tup l=>.ok (l,[]) h
 |.ref n=>match h[n]? with
  |some (.lst l)=>.ok (l,[(n,.lst l)]) h
  |some (.rol l)=>.ok (l,[(n,.rol l)]) h
  |_=>.no
 |_=>.no
def a9P(h:AH):D->D->R Its
 |.int i,.int j=>if a1B i=true/\a1B j=true then .ok (a9Q i (j-i).toNat,[]) h else .no
 |_,_=>.no
def a1s(h:AH):D->R Its
 |.ref n=>match h[n]? with
  |some (.lst l)=>.ok (B8 0 l,[(n,.lst l)]) h
  |some (.rol l)=>.ok (B8 0 l,[(n,.rol l)]) h
  |_=>.no
 |_=>.no
noncomputable def a3W(h:AH)(n:Nat):Option (List D×Cell):=match h[n]? with
 |some (.lst l)=>some (l,.lst l)
 |some (.rol l)=>some (l,.rol l)
 |_=>none
noncomputable def a0E:List D->List D->List D
 |x::xs,y::ys=>.tup [x,y]::a0E xs ys
 |_,_=>[]
def a9q(h:AH):D->D->R Its
 |.ref i,.ref j=>match a3W h i,a3W h j with
  |some a,some b=>.ok (a0E a.1 b.1,[(i,a.2),(j,b.2)]) h
  |_,_=>.no
 |_,_=>.no
def a9Z(h:AH):D->R D
 |.ref n=>match h[n]? with
  |some (.lst xs)=>y9 (.lst xs.reverse) h
  |_=>.no
 |_=>.no
def lmD (k:Bool) (h:AH):D->D->R D
 | .ref n,.str x=>match h[n]? with
  | some (.lst xs)=>(match a1O xs with
   |some ts=>if k=true then(match ts.findIdx? fun y=>decide (y=x) with
    |some j=>.ok (.int (j:Nat)) h
    |none=>.no) else .ok (.int (ts.countP fun y=>decide (y=x):Nat)) h
   |none=>.no)
  |_=>.no
 |_,_=>.no
noncomputable def a7b(h:AH):D->Bool
 |.ref n=>match h[n]? with
  |some (.lst _)=>true
  |_=>false
 |_=>false
noncomputable def A9(n:Nat)(fr:List Nat)(env:o9):o9:=List.replicate n none++fr.map fun j=>(env[j]?).join
noncomputable def a8a(r:R D):R (Option Int):=r.bind fun d h=>match d with
 |.int i=>.ok (some i) h
 |_=>.no
section
variable(ct:CT)(c:CF)
mutual
def ev:E->o9->AH->R D
  | .v i,env,h=>match env[i]? with
    |some (some d)=>.ok d h
    |_=>.no
  |.k d,_,h=>.ok d h
  |.bin o a b,env,h=>(ev a env h).bind fun x h1=>(ev b env h1).bind fun y h2=>op2 o h2 x y
  |.isN a,env,h=>(ev a env h).bind fun x h1=>.ok (.bl (decide (x=.non))) h1
  |.notN a,env,h=>(ev a env h).bind fun x h1=>.ok (.bl (!decide (x=.non))) h1
  | .neg a,env,h=>(ev a env h).bind fun x h1=>match x with
    |.int i=>.ok (.int (-i)) h1
    |_=>.no
  |.nt a,env,h=>(asB (ev a env h)).bind fun b h1=>.ok (.bl (!b)) h1
  |.an a b,env,h=>(asB (ev a env h)).bind fun x h1=>if x=true then ev b env h1 else .ok (.bl false) h1
  |.orr a b,env,h=>(asB (ev a env h)).bind fun x h1=>if x=true then .ok (.bl true) h1 else ev b env h1
  |.chn o p a b e,env,h=>(ev a env h).bind fun x h1=>(ev b env h1).bind fun y h2=>(asB (op2 o h2 x y)).bind fun k h3=>if k=true then(ev e env h3).bind fun z h4=>op2 p h4 y z else .ok (.bl false) h3
  |.ix a b,env,h=>(ev a env h).bind fun x h1=>(ev b env h1).bind fun y h2=>ixD h2 x y
  |.sl a lo hi,env,h=>(ev a env h).bind fun x h1=>(evo lo env h1).bind fun l h2=>(evo hi env h2).bind fun u h3=>slD h3 l u x
  |.fld a f,env,h=>(ev a env h).bind fun x h1=>X0 h1 f x
  |.lst es,env,h=>(evs es env h).bind fun ds h1=>if ds.length<=SL then y9 (.lst ds) h1 else .no
  |.tup es,env,h=>(evs es env h).bind fun ds h1=>if ds.length<=SL then .ok (.tup ds) h1 else .no
  |.dnew,_,h=>y9 (.dict []) h
  |.call f es,env,h=>(evs es env h).bind fun ds h1=>c f ds h1
  | .mk k es,env,h=>(evs es env h).bind fun ds h1=>(c (ct.init k) (.ref h1.length::ds) (h1++[.obj k []])).bind fun r h2=>match r with
    |.non=>.ok (.ref h1.length) h2
    |_=>.no
  |.bi b es,env,h=>(evs es env h).bind fun ds h1=>biD b h1 ds
  |.mt b o es,env,h=>(ev o env h).bind fun x h1=>if mtT b h1 x=true then(evs es env h1).bind fun ds h2=>mtD b h2 x ds else .no
  |.comp p it n fr t e,env,h=>(evi it env h).bind fun x h1=>(N6 x.2 p (tst t) (ev e) (A9 n fr env) x.1 [] h1).bind fun ds h2=>y9 (.lst ds) h2
  |.gin neg a ds,env,h=>(ev a env h).bind fun x h1=>if w6 x=true/\ds.all w6=true then .ok (.bl (inD x ds !=neg)) h1 else .no
  |.gdin neg a kvs,env,h=>(ev a env h).bind fun x h1=>if(J6 x).isSome=true then .ok (.bl ((n9 kvs x).isSome !=neg)) h1 else .no
  | .gdix a kvs,env,h=>(ev a env h).bind fun x h1=>if(J6 x).isSome=true then(match n9 kvs x with
    |some d=>.ok d h1
    |none=>.no) else .no
  |.dlit kvs,_,h=>y9 (.dict kvs) h
  |.dget a k x,env,h=>(ev a env h).bind fun o h1=>if b0Y h1 o=true then(ev k env h1).bind fun y h2=>(ev x env h2).bind fun z h3=>a6p h3 o y z else .no
  |.rev a,env,h=>(ev a env h).bind fun x h1=>a9Z h1 x
  | .rvs a,env,h=>(ev a env h).bind fun x h1=>match x with
    | .ref n=>(match h1[n]? with
      |some (.lst l)=>.ok .non (h1.set n (.lst l.reverse))
      |_=>.no)
    |_=>.no
  |.lm k a x,env,h=>(ev a env h).bind fun o h1=>if a7b h1 o=true then(ev x env h1).bind fun y h2=>lmD k h2 o y else .no
  | .ist a,env,h=>(ev a env h).bind fun x h1=>match x with
    |.tup _=>.ok (.bl true) h1
    |_=>.no
  | .iss a,env,h=>(ev a env h).bind fun x h1=>match x with
    |.str _=>.ok (.bl true) h1
    |_=>.no
  |.isl a,env,h=>(ev a env h).bind fun x h1=>if a7b h1 x=true then .ok (.bl true) h1 else .no
def evs:Es->o9->AH->R (List D)
  |.nil,_,h=>.ok [] h
  |.cons e r,env,h=>(ev e env h).bind fun d h1=>(evs r env h1).bind fun ds h2=>.ok (d::ds) h2
def tst:T->o9->AH->R Bool
  |.yes,_,h=>.ok true h
  |.val e,env,h=>asB (ev e env h)
  |.cmp o a b,env,h=>asB ((ev a env h).bind fun x h1=>(ev b env h1).bind fun y h2=>op2 o h2 x y)
  |.isN a,env,h=>(ev a env h).bind fun x h1=>.ok (decide (x=.non)) h1
  |.notN a,env,h=>(ev a env h).bind fun x h1=>.ok (!decide (x=.non)) h1
  |.chn o p a b e,env,h=>asB ((ev a env h).bind fun x h1=>(ev b env h1).bind fun y h2=>(asB (op2 o h2 x y)).bind fun k h3=>if k=true then(ev e env h3).bind fun z h4=>op2 p h4 y z else .ok (.bl false) h3)
  |.an a b,env,h=>(tst a env h).bind fun x h1=>if x=true then tst b env h1 else .ok false h1
  |.orr a b,env,h=>(tst a env h).bind fun x h1=>if x=true then .ok true h1 else tst b env h1
  |.nt a,env,h=>(tst a env h).bind fun x h1=>.ok (!x) h1
def evo:O->o9->AH->R (Option Int)
  |.no,_,h=>.ok none h
  |.at e,env,h=>a8a (ev e env h)
def evi:I->o9->AH->R Its
  |.seq e,env,h=>(ev e env h).bind fun d h1=>L4 h1 d
  |.rng1 a,env,h=>(ev a env h).bind fun d h1=>a9P h1 (.int 0) d
  |.enum e,env,h=>(ev e env h).bind fun d h1=>a1s h1 d
  |.zip a b,env,h=>(ev a env h).bind fun x h1=>(ev b env h1).bind fun y h2=>a9q h2 x y
end
mutual
def ex:S->o9->AH->R Out
  |.set i e,env,h=>(ev ct c e env h).bind fun d h1=>.ok (.nx (env.set i (some d))) h1
  |.ex e,env,h=>(ev ct c e env h).bind fun _ h1=>.ok (.nx env) h1
  |.ret e,env,h=>(ev ct c e env h).bind fun d h1=>.ok (.rt d) h1
  |.iff t a b,env,h=>(tst ct c t env h).bind fun x h1=>if x=true then exs a env h1 else exs b env h1
  |.for p it b,env,h=>(evi ct c it env h).bind fun x h1=>K6 x.2 p (exs b) x.1 env h1
  |.whl t b,env,h=>a3v (tst ct c t) (exs b) a2u env h
  |.bad,_,_=>.no
  |.six a i v,env,h=>(ev ct c v env h).bind fun x h1=>(ev ct c a env h1).bind fun o h2=>(ev ct c i env h2).bind fun k h3=>(a0I h3 o k x).bind fun _ h4=>.ok (.nx env) h4
  |.sfl a f v,env,h=>(ev ct c v env h).bind fun x h1=>(ev ct c a env h1).bind fun o h2=>(a4z h2 o f x).bind fun _ h3=>.ok (.nx env) h3
def exs:Ss->o9->AH->R Out
  |.nil,env,h=>.ok (.nx env) h
  | .cons s r,env,h=>(ex s env h).bind fun o h1=>match o with
    |.nx env'=>exs r env' h1
    |.rt d=>.ok (.rt d) h1
end
end
structure Fn where
 np:Nat
 ns:Nat
 gc:Nat
 body:Ss
noncomputable def Cell.flat:Cell->Bool
 |.lst l=>D.flats l
 |.dict l=>l.all fun p=>p.1.flat&&p.2.flat
 |_=>false
def gcR (n:Nat) (h:AH):R D->R D
 | .ok d h'=>if n=0 then .ok d h' else if n=1 then(if h'.take h.length=h/\d.flat=true then .ok d h else .no)
  else(match d with
   |.ref k=>(match h'[k]? with
    |some c=>if h'.take h.length=h/\h.length<=k/\c.flat=true then .ok (.ref h.length) (h++[c]) else .no
    |none=>.no)
   |_=>.no)
 |.no=>.no
def b4(ct:CT)(F:Nat->Option Fn):Nat->CF
 |0=>fun _ _ _=>.no
 | k+1=>fun f ds h=>match F f with
  |none=>.no
  |some fd=>if ds.length=fd.np then gcR fd.gc h (match exs ct (b4 ct F k) fd.body (ds.map some++List.replicate (fd.ns-fd.np) none) h with
   |.ok (.nx _) h'=>.ok .non h'
   |.ok (.rt d) h'=>.ok d h'
   |.no=>.no) else .no
structure GT where
 fn:List (Str×Nat×Nat)
 scal:List (Str×D)
 tups:List (Str×List D)
 dicts:List (Str×List (D×D))
 obj:List (Str×Nat)
 atts:List Str
 blt:List Str
noncomputable def b9d:Operator->Option B
 |.Add=>some .add|.Sub=>some .sub|.Mult=>some .mul|.FloorDiv=>some .div|.Mod=>some .mod
 |_=>none
noncomputable def a7p:CmpOp->Option B
 |.Eq=>some .eq|.NotEq=>some .ne|.Lt=>some .lt|.LtE=>some .le|.Gt=>some .gt|.GtE=>some .ge|.In=>some .isin|.NotIn=>some .notin
 |_=>none
noncomputable def b0W(sc:Scope)(x:Str):Bool:=match sc.names.lookup x with
 |some .local=>true|some .cell=>true|some .free=>true
 |_=>false
noncomputable def G2(sc:Scope)(x:Str):Bool:=decide (sc.names.lookup x=some .globalImplicit)&&decide (x≠"__debug__")&&decide (x≠"__name__")
def slot(N:List Str)(sc:Scope)(x:Str):Option Nat:=if b0W sc x&&decide (x≠"__debug__")&&decide (x≠"__classdict__") then N.idxOf? x else none
noncomputable def b0X(dfn:Bool)(sc:Scope)(x:Str):Bool:=match sc.names.lookup x with
 |some .local=>true|some .cell=>dfn
 |_=>false
def a2B(dfn:Bool)(N:List Str)(sc:Scope)(x:Str):Option Nat:=if b0X dfn sc x then N.idxOf? x else none
noncomputable def b6M(x:Str):Option Bi:=if x="len" then some .len else if x="str" then some .str else if x="int" then some .int else if x="tuple" then some .tuple else if x="list" then some .list
 else if x="all" then some .all else if x="any" then some .any else if x="dict" then some .dict else none
noncomputable def b5G(x:Str):Option Mt:=if x="append" then some .append else if x="extend" then some .extend else if x="split" then some .split else if x="join" then some .join else if x="startswith" then some .starts else none
noncomputable def o6:Expr->Bool
 |.Starred _ _=>false
 |_=>true
noncomputable def O0:Expr->Bool
 |.Call (.Name _ _) [] [] _=>false
 |_=>true
noncomputable def a2n:Expr->Bool
 |.Slice .. =>false
 |_=>true
noncomputable def a1i:Expr->Bool
 |.Set .. =>false
 |_=>true
noncomputable def a7J(sc scope:Scope):Scope:={scope with names:=scope.names.map fun(n,k)=>if(k==NameKind.free&&sc.kind==.function&&sc.names.lookup n==some .cell) then(n,NameKind.cell) else(n,k)}
noncomputable def b5a:Expr->Bool
 |.Name .. =>true|.Call .. =>true|.Subscript .. =>true|.Attribute .. =>true
 |_=>false
mutual
def a9o (dfn:Bool) (N:List Str) (sc:Scope):Nat->Expr->Option Pat
  |0,_=>none
  | n+1,e=>match e with
    |.Name x _=>(a2B dfn N sc x).map .nm
    |.Tuple es _ _=>(a3m dfn N sc n es).map .tp
    |_=>none
def a3m (dfn:Bool) (N:List Str) (sc:Scope):Nat->List Expr->Option Pats
  |0,_=>none
  | n +1,es=>match es with
    |[]=>some .nil
    | e::r=>match a9o dfn N sc n e,a3m dfn N sc n r with
      |some p,some ps=>some (.cons p ps)
      |_,_=>none
end
mutual
def K4:Pat->List Nat
  |.nm i=>[i]
  |.tp ps=>a0s ps
def a0s:Pats->List Nat
  |.nil=>[]
  |.cons p r=>K4 p++a0s r
end
mutual
def t8:Nat->Expr->List Str
  |0,_=>[]
  | n+1,e=>match e with
    |.Name x _=>[x]
    |.Tuple es _ _=>a3Q n es
    |_=>[]
def a3Q:Nat->List Expr->List Str
  |0,_=>[]
  | n+1,es=>match es with
    |[]=>[]
    |e::r=>t8 n e++a3Q n r
end
noncomputable def C8(scope:Scope):List Str:=(scope.names.filter fun y=>decide (y.2=.free)).map (·.1)
noncomputable def b3l(N:List Str):List Str->Option (List Nat)
 |[]=>some []
 |x::r=>match N.idxOf? x,b3l N r with
  |some i,some is=>some (i::is)
  |_,_=>none
structure Rec where
 E:List Str->Scope->Expr->Option E
 Es:List Str->Scope->List Expr->Option Es
 T:List Str->Scope->Expr->Option T
 O:List Str->Scope->Option Expr->Option O
 I:List Str->Scope->Expr->Expr->Option I
noncomputable def b5X:Expr->Bool
 |.Constant k _ _=>(match k with
  |.none=>true
  |_=>false)
 |_=>false
noncomputable def a6R:CmpOp->Option Bool
 |.Is=>some true
 |.IsNot=>some false
 |_=>none
noncomputable def b7y:Expr->Option (Option Expr×Option Expr)
 |.Slice lo hi st _=>(match st with
  |none=>some (lo,hi)
  |some _=>none)
 |_=>none
noncomputable def b7D:Const->Option E
 |.int i=>some (.k (.int i))
 |.str x=>some (.k (.str x))
 |.bool b=>some (.k (.bl b))
 |.none=>some (.k .non)
 |_=>none
noncomputable def sUn(G:GT)(r:Rec)(N:List Str)(sc:Scope)(a:Expr):UnaryOp->Option E
 |.USub=>(r.E N sc a).map .neg
 |.Not=>(r.E N sc a).map .nt
 |_=>none
noncomputable def sBo (G : GT) (r:Rec) (N:List Str) (sc:Scope) (p:Pos) (op:BoolOp):List Expr->Option E
 |[]=>none
 | a :: t => match t with
   |[]=>r.E N sc a
   | b::l=>match op with
     |.And=>(match r.E N sc a,r.E N sc (.BoolOp .And (b::l) p) with
             |some x,some y=>some (.an x y)
             |_,_=>none)
     |.Or=>(match r.E N sc a,r.E N sc (.BoolOp .Or (b::l) p) with
             |some x,some y=>some (.orr x y)
             |_,_=>none)
def b7F (G:GT) (r:Rec) (N:List Str) (sc:Scope) (a:Expr) (op:CmpOp) (b:Expr):Option E:=
 if b5X b&&(a6R op).isSome then(match a6R op with
  |some true=>(r.E N sc a).map .isN
  |_=>(r.E N sc a).map .notN) else
 if a1i b then(match a7p op,r.E N sc a,r.E N sc b with
  |some o,some x,some y=>some (.bin o x y)
  | some o,some x,none=>(match b with
   |.Name y _=>if G2 sc y then(match op,G.tups.lookup y with
    |.In,some ds=>some (.gin false x ds)
    |.NotIn,some ds=>some (.gin true x ds)
    |.In,none=>(G.dicts.lookup y).map (.gdin false x)
    |.NotIn,none=>(G.dicts.lookup y).map (.gdin true x)
    |_,_=>none) else none
   |_=>none)
  |_,_,_=>none) else none
def b7E(G:GT)(r:Rec)(N:List Str)(sc:Scope)(a:Expr)(op op':CmpOp)(b d:Expr):Option E:=if a1i d then(match a7p op,a7p op',r.E N sc a,r.E N sc b,r.E N sc d with
 |some o,some p,some x,some y,some z=>some (.chn o p x y z)
 |_,_,_,_,_=>none) else none
def sSl (G:GT) (r:Rec) (N:List Str) (sc:Scope) (a b:Expr):Option E:=match b7y b with
 | some (lo,hi)=>(match r.E N sc a,r.O N sc lo,r.O N sc hi with
         |some x,some l,some u=>some (.sl x l u)
         |_,_,_=>none)
 |none=>if a2n b then(match r.E N sc a,r.E N sc b with
     |some x,some y=>some (.ix x y)
     | none,some y=>(match a with
       |.Name z _=>if G2 sc z then(G.dicts.lookup z).map (.gdix y) else none
       |_=>none)
     |_,_=>none) else none
noncomputable def b6E:Expr->Option Str
 |.Constant k _ _=>(match k with
  |.str x=>some x
  |_=>none)
 |_=>none
noncomputable def b6F:Expr->Option Int
 |.Constant k _ _=>(match k with
  |.int i=>some i
  |_=>none)
 |_=>none
def a9j:List (Option Expr)->List Expr->Option (List (D×D))
 |[],vs=>if vs.isEmpty then some [] else none
 | k::ks,vs=>(match vs with
  |[]=>none
  |v::r=>(match k.bind b6E,b6F v,a9j ks r with
   |some x,some i,some l=>some ((.str x,.int i)::l)
   |_,_,_=>none))
noncomputable def a4N:List D->Bool
 |[]=>true
 |d::r=>!(r.any fun e=>decide (e=d))&&a4N r
def b6C(kvs:List (D×D)):Bool:=decide (kvs.length<=15)&&a4N (kvs.map (·.1))
noncomputable def b1Z:List Expr->Option (Expr×Expr)
 |[]=>none
 |a::r=>(match r with
  |[]=>none
  |b::q=>if q.isEmpty then some (a,b) else none)
noncomputable def b0C:List Expr->Option Expr
 |[]=>none
 |a::r=>if r.isEmpty then some a else none
noncomputable def a8R:Expr->Option Str
 |.Name x _=>some x
 |_=>none
def a9Y(as:List Expr):Option Expr:=match b0C as with
 |some e=>(match e with
  |.Call f bs ks _=>if ks.isEmpty&&decide (a8R f=some "reversed") then b0C bs else none
  |_=>none)
 |none=>none
def sCn (G:GT) (r:Rec) (N:List Str) (sc:Scope) (x:Str) (as:List Expr):Option E:=if G2 sc x then(match G.fn.lookup x with
 |some (f,np)=>if as.length=np&&decide (as≠[]) then(r.Es N sc as).map (.call f) else none
 | none=>match G.obj.lookup x with
  |some k=>if as=[] then some (.mk k .nil) else none
  | none=>if G.blt.contains x then(if x="isinstance" then(match b1Z as with
   |some (a,b)=>if o6 a then(if decide (a8R b=some "list")&&G2 sc "list"&&G.blt.contains "list" then(r.E N sc a).map .isl else if decide (a8R b=some "str")&&G2 sc "str"&&G.blt.contains "str" then(r.E N sc a).map .iss else if decide (a8R b=some "tuple")&&G2 sc "tuple"&&G.blt.contains "tuple" then(r.E N sc a).map .ist else none) else none
   |none=>none)
   else match(if decide (x="list")&&G2 sc "reversed"&&G.blt.contains "reversed" then a9Y as else none) with
    |some a=>if o6 a then(r.E N sc a).map .rev else none
    |none=>match b6M x with
    |some b=>if as≠[] then(r.Es N sc as).map (.bi b) else none
    |none=>none) else none) else none
def b7C(G:GT)(r:Rec)(N:List Str)(sc:Scope)(o:Expr)(as:List Expr):Option E:=match b1Z as with
 |some (a,b)=>if o6 a&&o6 b then(match r.E N sc o,r.E N sc a,r.E N sc b with
  |some x,some y,some z=>some (.dget x y z)
  |_,_,_=>none) else none
 |none=>none
def sLm(G:GT)(r:Rec)(N:List Str)(sc:Scope)(k:Bool)(o:Expr)(as:List Expr):Option E:=match b0C as with
 |some a=>if o6 a then(match r.E N sc o,r.E N sc a with
  |some x,some y=>some (.lm k x y)
  |_,_=>none) else none
 |none=>none
def sCa(G:GT)(r:Rec)(N:List Str)(sc:Scope)(o:Expr)(m:Str)(apos:Pos)(as:List Expr)(cpos:Pos):Option E:=if O0 o&&(apos.endLine==cpos.line)&&decide (m="get") then b7C G r N sc o as else if O0 o&&(apos.endLine==cpos.line)&&decide (m="reverse") then(if as.isEmpty then(r.E N sc o).map .rvs else none) else if O0 o&&(apos.endLine==cpos.line)&&decide (m="count") then sLm G r N sc false o as else if O0 o&&(apos.endLine==cpos.line)&&decide (m="index") then sLm G r N sc true o as else if O0 o&&(apos.endLine==cpos.line)&&decide (as.length<20)&&decide (as≠[]) then(match b5G m,r.E N sc o,r.Es N sc as with
 |some b,some x,some xs=>some (.mt b x xs)
 |_,_,_=>none) else none
def sLc (G:GT) (r:Rec) (N:List Str) (sc:Scope) (elt tg iter:Expr) (ifs:List Expr) (scope:Scope):Option E:=match r.I N sc tg iter with
 | some it=>match b3l N (C8 scope) with
  | some js=>if b6G sc scope (t8 8 tg) (C8 scope)&&a1i iter then(match a9o false (t8 8 tg++C8 scope) (a7J sc scope) 8 tg,r.E (t8 8 tg++C8 scope) (a7J sc scope) elt with
   |some p,some x=>if(K4 p).all (fun i=>decide (i<(t8 8 tg).length)) then(match ifs with
    |[]=>some (.comp p it (t8 8 tg).length js .yes x)
    |[t]=>(r.T (t8 8 tg++C8 scope) (a7J sc scope) t).map fun z=>.comp p it (t8 8 tg).length js z x
    |_=>none) else none
   |_,_=>none) else none
  |none=>none
 |none=>none
def sE (G:GT) (r:Rec) (N:List Str) (sc:Scope) (e:Expr):Option E:=match e with
 |.Constant k _ _=>b7D k
 |.Name x _=>match slot N sc x with
  |some i=>some (.v i)
  |none=>if G2 sc x then(G.scal.lookup x).map .k else none
 |.BinOp a op b _=>match b9d op,r.E N sc a,r.E N sc b with
  |some o,some x,some y=>some (.bin o x y)
  |_,_,_=>none
 |.UnaryOp op a _=>sUn G r N sc a op
 |.BoolOp op l p=>sBo G r N sc p op l
 | .Compare a ops bs _=>(match ops with
  |[]=>none
  | op::t=>(match bs with
   |[]=>none
   | b::u=>(match t with
    |[]=>(match u with
     |[]=>b7F G r N sc a op b
     |_::_=>none)
    |op'::t'=>(match u with
     |[]=>none
     |d::u'=>if t'.isEmpty&&u'.isEmpty then b7E G r N sc a op op' b d else none))))
 |.Subscript a b _=>sSl G r N sc a b
 |.Attribute a f _=>if O0 a&&G.atts.contains f then(r.E N sc a).map (.fld · f) else none
 |.List es _=>(r.Es N sc es).map .lst
 |.Tuple es _ _=>(r.Es N sc es).map .tup
 | .Dict ks vs _=>(match ks with
  |[]=>(match vs with
   |[]=>some .dnew
   |_::_=>none)
  |_::_=>(a9j ks vs).bind fun kvs=>if b6C kvs then some (.dlit kvs) else none)
 |.Call f as ks cpos=>if ks.isEmpty then(match f with
  |.Name x _=>sCn G r N sc x as
  |.Attribute o m apos=>sCa G r N sc o m apos as cpos
  |_=>none) else none
 |.ListComp elt gens scope _=>(match gens with
  |[]=>none
  |g::t=>if t.isEmpty&&decide (g.is_async=0) then sLc G r N sc elt g.target g.iter g.ifs scope else none)
 |_=>none
def sEs(G:GT)(r:Rec)(N:List Str)(sc:Scope)(es:List Expr):Option Es:=match es with
 |[]=>some .nil
 |e::l=>if o6 e then(match r.E N sc e,r.Es N sc l with
  |some x,some xs=>some (.cons x xs)
  |_,_=>none) else none
def sTd(G:GT)(r:Rec)(N:List Str)(sc:Scope)(e:Expr):Option T:=if b5a e then(r.E N sc e).map .val else none
def b7A (G:GT) (r:Rec) (N:List Str) (sc:Scope) (a:Expr) (op:CmpOp) (b:Expr):Option T:=
 if b5X b&&(a6R op).isSome then(match a6R op with
  |some true=>(r.E N sc a).map .isN
  |_=>(r.E N sc a).map .notN) else
 if a1i b then(match a7p op,r.E N sc a,r.E N sc b with
  |some o,some x,some y=>some (.cmp o x y)
  | some o,some x,none=>(match b with
   |.Name y _=>if G2 sc y then(match op,G.tups.lookup y with
    |.In,some ds=>some (.val (.gin false x ds))
    |.NotIn,some ds=>some (.val (.gin true x ds))
    |.In,none=>(G.dicts.lookup y).map fun kvs=>.val (.gdin false x kvs)
    |.NotIn,none=>(G.dicts.lookup y).map fun kvs=>.val (.gdin true x kvs)
    |_,_=>none) else none
   |_=>none)
  |_,_,_=>none) else none
def b7z(G:GT)(r:Rec)(N:List Str)(sc:Scope)(a:Expr)(op op':CmpOp)(b d:Expr):Option T:=if a1i d then(match a7p op,a7p op',r.E N sc a,r.E N sc b,r.E N sc d with
 |some o,some p,some x,some y,some z=>some (.chn o p x y z)
 |_,_,_,_,_=>none) else none
def sT (G:GT) (r:Rec) (N:List Str) (sc:Scope) (e:Expr):Option T:=match e with
 |.UnaryOp op a p=>(match op with
  |.Not=>(r.T N sc a).map .nt
  |op=>sTd G r N sc (.UnaryOp op a p))
 | .BoolOp op l p=>(match l with
  |[]=>sTd G r N sc (.BoolOp op [] p)
  | a::t=>(match t with
   |[]=>r.T N sc a
   | b::l=>(match op with
    |.And=>(match r.T N sc a,r.T N sc (.BoolOp .And (b::l) p) with
     |some x,some y=>some (.an x y)
     |_,_=>none)
    |.Or=>(match r.T N sc a,r.T N sc (.BoolOp .Or (b::l) p) with
     |some x,some y=>some (.orr x y)
     |_,_=>none))))
 | .Compare a ops bs p=>(match ops with
  |[]=>none
  | op::t=>(match bs with
   |[]=>none
   | b::u=>(match t with
    |[]=>(match u with
     |[]=>b7A G r N sc a op b
     |_::_=>none)
    |op'::t'=>(match u with
     |[]=>none
     |d::u'=>if t'.isEmpty&&u'.isEmpty then b7z G r N sc a op op' b d else none))))
 |e=>sTd G r N sc e
noncomputable def sO(G:GT)(r:Rec)(N:List Str)(sc:Scope)(o:Option Expr):Option O:=match o with
 |none=>some .no
 |some e=>(r.E N sc e).map .at
def sI (G:GT) (r:Rec) (N:List Str) (sc:Scope) (tg e:Expr):Option I:=match e with
 | .Call (.Name x p) as [] q=>if G2 sc x&&G.blt.contains x&&decide (x="range") then(match as with
  |[a]=>if o6 a then(r.E N sc a).map .rng1 else none
  |_=>none)
  else if G2 sc x&&G.blt.contains x&&decide (x="enumerate") then(match as,tg with
   |[a],.Tuple _ _ _=>if o6 a then(r.E N sc a).map .enum else none
   |_,_=>none)
  else if G2 sc x&&G.blt.contains x&&decide (x="zip") then(match as,tg with
   |[a,b],.Tuple _ _ _=>if o6 a&&o6 b then(match r.E N sc a,r.E N sc b with
    |some u,some v=>some (.zip u v)
    |_,_=>none) else none
   |_,_=>none)
  else(r.E N sc (.Call (.Name x p) as [] q)).map .seq
 |e=>(r.E N sc e).map .seq
def cR(G:GT):Nat->Rec
 |0=>⟨fun _ _ _=>none,fun _ _ _=>none,fun _ _ _=>none,fun _ _ _=>none,fun _ _ _ _=>none⟩
 |n+1=>⟨sE G (cR G n),sEs G (cR G n),sT G (cR G n),sO G (cR G n),sI G (cR G n)⟩
abbrev cE(G:GT)(N:List Str)(sc:Scope)(n:Nat)(e:Expr):Option E:=(cR G n).E N sc e
abbrev cEs(G:GT)(N:List Str)(sc:Scope)(n:Nat)(es:List Expr):Option Es:=(cR G n).Es N sc es
abbrev cT(G:GT)(N:List Str)(sc:Scope)(n:Nat)(e:Expr):Option T:=(cR G n).T N sc e
abbrev cO(G:GT)(N:List Str)(sc:Scope)(n:Nat)(o:Option Expr):Option O:=(cR G n).O N sc o
abbrev cI(G:GT)(N:List Str)(sc:Scope)(n:Nat)(tg e:Expr):Option I:=(cR G n).I N sc tg e
noncomputable def Z2(e:Expr):Bool:=match e with
 |.ListComp .. =>false|.SetComp .. =>false|.DictComp .. =>false
 |_=>true
noncomputable def b8g(e:Expr):Bool:=match e with
 |.ListComp .. =>true
 |_=>false
def sAs (G:GT) (N:List Str) (sc:Scope) (e:Expr):Expr->Option S
 | .Name x _=>(match a2B true N sc x,cE G N sc 40 e with
         |some i,some y=>if Z2 e||b8g e then some (.set i y) else none
         |_,_=>none)
 |.Subscript a i _=>(match cE G N sc 40 a,cE G N sc 40 i,cE G N sc 40 e with
         |some x,some k,some y=>if a2n i then some (.six x k y) else none
         |_,_,_=>none)
 |.Attribute a f _=>(match cE G N sc 40 a,cE G N sc 40 e with
         |some x,some y=>if Z2 e&&G.atts.contains f then some (.sfl x f y) else none
         |_,_=>none)
 |_=>none
def sS(G:GT)(N:List Str)(sc:Scope)(r:List Stmt->Option Ss)(s:Stmt):Option S:=match s with
 |.Assign tgs e _=>(match tgs with
  |[]=>none
  |t::u=>if u.isEmpty then sAs G N sc e t else none)
 |.Expr e _=>if Z2 e then(cE G N sc 40 e).map .ex else none
 |.Return o _=>(match o with
  |some e=>(cE G N sc 40 e).map .ret
  |none=>none)
 |.If t a b _=>match cT G N sc 40 t,r a,r b with
  |some z,some x,some y=>some (.iff z x y)
  |_,_,_=>none
 |.For tg it b els _=>if els.isEmpty then(match a9o true N sc 8 tg,cI G N sc 40 tg it,r b with
  |some p,some i,some y=>if a1i it then some (.for p i y) else none
  |_,_,_=>none) else none
 |.While t b els _=>if els.isEmpty then(match cT G N sc 40 t,r b with
  |some z,some y=>some (.whl z y)
  |_,_=>none) else none
 |.Raise _ _ _=>some .bad
 |_=>none
def sSs(G:GT)(N:List Str)(sc:Scope)(r:List Stmt->Option Ss):List Stmt->Option Ss
 |[]=>some .nil
 |s::l=>match sS G N sc r s,sSs G N sc r l with
  |some x,some y=>some (.cons x y)
  |_,_=>none
def cSs(G:GT)(N:List Str)(sc:Scope):Nat->List Stmt->Option Ss
 |0=>fun _=>none
 |n+1=>sSs G N sc (cSs G N sc n)
noncomputable def TEv(Γ:Gm)(E:XK)(f:o9->AH->R D):TE:=fun σ H Q=>∃env ah m,Rel Γ env ah σ H m/\g9 Γ E m H (f env ah) Q
noncomputable def TAv(Γ:Gm)(E:XK)(f:o9->AH->R (List D)):TA:=fun σ H Q=>∃env ah m,Rel Γ env ah σ H m/\j9 Γ E m H (f env ah) (fun ds _ m1 H1=>∀vs,Rps m1 H1 ds vs->Q vs H1)
noncomputable def TTv(Γ:Gm)(E:XK)(f:o9->AH->R Bool):TT:=fun σ H Q=>∃env ah m,Rel Γ env ah σ H m/\j9 Γ E m H (f env ah) (fun b _ _ H1=>Q b H1)
noncomputable def TOv(Γ:Gm)(E:XK)(f:o9->AH->R (Option Int)):TO:=fun σ H Q=>∃env ah m,Rel Γ env ah σ H m/\j9 Γ E m H (f env ah) (fun b _ _ H1=>Q b H1)
variable{t':TE}{es:List Expr}{st:Stmt}{Q':VK}{x:Str}
section
variable{X:Cx}{E:XK}{e a b d:Expr}{pos:Pos}
theorem PE.imp{t:TE}(h:PE X e t)(i:∀σ H Q,t' σ H Q->t σ H Q):PE X e t':=fun pins s σ H Q I q=>h pins s σ H Q I (i _ _ _ q)
theorem PT.imp{t t':TT}(h:PT X e t)(i:∀σ H Q,t' σ H Q->t σ H Q):PT X e t':=fun pins s σ H Q I q=>h pins s σ H Q I (i _ _ _ q)
theorem PW.imp{t t':TT}(h:PW X e t)(i:∀σ H Q,t' σ H Q->t σ H Q):PW X e t':=fun w pins s σ H Q I q=>h w pins s σ H Q I (i _ _ _ q)
theorem PA.imp{t t':TA}(h:PA X es t)(i:∀σ H Q,t' σ H Q->t σ H Q):PA X es t':=fun p pins s σ H Q I q=>h p pins s σ H Q I (i _ _ _ q)
theorem PO.imp{e:Option Expr}{t t':TO}(h:PO X e t)(i:∀σ H Q,t' σ H Q->t σ H Q):PO X e t':=fun pins s σ H Q I q=>h pins s σ H Q I (i _ _ _ q)
theorem PS.imp{t t':TS}(h:PS X st t)(i:∀D σ H,t' D σ H->t D σ H):PS X st t':=fun pins s σ H D I q=>h pins s σ H D I (i _ _ _ q)
theorem PSs.imp{st:List Stmt}{t t':TS}(h:PSs X st t)(i:∀D σ H,t' D σ H->t D σ H):PSs X st t':=fun pins s σ H D I q=>h pins s σ H D I (i _ _ _ q)
theorem Rel.on{ah1:AH}(r:Rel Γ env ah σ H m)(p:Pre m m1)(k:Keep m m1 H H1)(s:Sim Γ ah1 m1 H1):Rel Γ env ah1 σ H1 m1:=⟨s,r.env.mono p k⟩
theorem g9.first{f:D->AH->R D}(rl:Rel Γ env ah σ H m)(h:g9 Γ E m H (r.bind f) Q)
 (k:∀d ah1 m1 H1 v,Pre m m1->Keep m m1 H H1->Rel Γ env ah1 σ H1 m1->Rp m1 H1 d v->g9 Γ E m1 H1 (f d ah1) Q->Q' v H1):g9 Γ E m H r Q':=
 h.bind.val fun d ah1 m1 H1 v p kp s r q=>k d ah1 m1 H1 v p kp (rl.on p kp s) r q
theorem j9.first{f:D->AH->R β}{P:β->AH->List Addr->Hp->Prop}(rl:Rel Γ env ah σ H m)(h:j9 Γ E m H (r.bind f) P)
 (k:∀d ah1 m1 H1 v,Pre m m1->Keep m m1 H H1->Rel Γ env ah1 σ H1 m1->Rp m1 H1 d v->j9 Γ E m1 H1 (f d ah1) P->Q' v H1):g9 Γ E m H r Q':=
 h.bind.val fun d ah1 m1 H1 v p kp s r q=>k d ah1 m1 H1 v p kp (rl.on p kp s) r q
theorem j9.mp{r:R α}{P P':α->AH->List Addr->Hp->Prop}(h:j9 Γ E m H r P)(k:∀a ah1 m1 H1,Pre m m1->Keep m m1 H H1->Sim Γ ah1 m1 H1->P a ah1 m1 H1->P' a ah1 m1 H1):j9 Γ E m H r P':=by
 cases r with
 |ok d ah=>exact fun m2 H2 p2 k2 s2=>k d ah m2 H2 p2 k2 s2 (h m2 H2 p2 k2 s2)
 |no=>exact h
theorem g9.mp(h:g9 Γ E m H r Q)(k:∀v H',Q v H'->Q' v H'):g9 Γ E m H r Q':=by
 cases r with
 |ok d ah=>exact fun m2 H2 v p2 k2 s2 r2=>k v H2 (h m2 H2 v p2 k2 s2 r2)
 |no=>exact h
theorem j9.ok{a:α}{P:α->AH->List Addr->Hp->Prop}(h:j9 Γ E m H (.ok a ah) P)(s:Sim Γ ah m H):P a ah m H:=h m H (Pre.refl m) (Keep.refl m H) s
theorem j9.bool{P:Bool->AH->List Addr->Hp->Prop}(h:j9 Γ E m H (asB r) P):g9 Γ E m H r (fun x H1=>∃k,x=.bl k/\∃ah1 m1,Pre m m1/\Keep m m1 H H1/\Sim Γ ah1 m1 H1/\P k ah1 m1 H1):=by
 unfold asB at h;refine h.bind.val fun d ah1 m1 H1 v p kp s r q=>?_
 cases d<;>first|exact q.elim|skip
 rename_i k;exact⟨k,r,ah1,m1,p,kp,s,q.ok s⟩
theorem a_v(hN:X.N[i]? =some x)(hv:Vis X.env.scope x)(hd:(x==("__debug__":Str))=false)(hcd:(x==("__classdict__":Str))=false)(c:CF)(ct:CT):PE X (.Name x pos) (TEv Γ E (ev ct c (.v i))):=by
 refine PE.imp (b5h hN hv hd hcd) ?_
 rintro σ H Q ⟨env,ah,m,rl,q⟩;unfold ev at q
 split at q
 · rename_i d e;obtain⟨v,h1,h2⟩:=rl.env.val i d e;exact⟨v,h1,q.ok rl.sim h2⟩
 · exact q.elim
theorem a_k{dd:D}(h:PE X e (tC v))(hr:∀m H,Rp m H dd v)(c:CF)(ct:CT):PE X e (TEv Γ E (ev ct c (.k dd))):=by
 refine PE.imp h ?_
 rintro σ H Q ⟨env,ah,m,rl,q⟩;unfold ev at q;exact q.ok rl.sim (hr m H)
end
variable{op':CmpOp}{p2:Pos}
section
variable{X:Cx}{Ex:XK}{e a b d:Expr}{pos:Pos}{ct:CT}{c:CF}{x y z:E}
theorem two{r:R2}{g:AH->D->D->R D}(ha:PE X a (TEv Γ Ex (ev ct c x)))(hb:PE X b (TEv Γ Ex (ev ct c y))):∀σ H Q,TEv Γ Ex (fun env h=>(ev ct c x env h).bind fun u h1=>(ev ct c y env h1).bind fun v h2=>g h2 u v) σ H Q→
 tOp (rOf Γ Ex g) (TEv Γ Ex (ev ct c x)) (TEv Γ Ex (ev ct c y)) σ H Q:=by
 rintro σ H Q ⟨env,ah,m,rl,q⟩;refine⟨env,ah,m,rl,g9.first rl q fun d1 ah1 m1 H1 v1 p1 k1 rl1 r1 q1=>?_⟩
 refine⟨env,ah1,m1,rl1,g9.first rl1 q1 fun d2 ah2 m2 H2 v2 p2 k2 rl2 r2 q2=>?_⟩
 exact⟨d1,d2,ah2,m2,rl2.sim,r1.mono p2 k2,r2,q2⟩
theorem b9G{op:Operator}(h:o.bin=some op)(ha:PE X a (TEv Γ Ex (ev ct c x)))(hb:PE X b (TEv Γ Ex (ev ct c y))):PE X (.BinOp a op b pos) (TEv Γ Ex (ev ct c (.bin o x y))):=by
 refine PE.imp (b7R (b8P (Γ:=Γ) (E:=Ex) h) ha hb) fun σ H Q q=>two (r:=rOf Γ Ex (op2 o)) ha hb σ H Q ?_
 simpa only[TEv,ev] using q
theorem b9E(hu:X.A.units+8<cLine)(hK:X.K=Γ.K)(h:o.cmp=some op)(ha:PE X a (TEv Γ Ex (ev ct c x)))(hb:PE X b (TEv Γ Ex (ev ct c y)))(hm:behindInMarks op b=false):PE X (.Compare a [op] [b] pos) (TEv Γ Ex (ev ct c (.bin o x y))):=by
 refine PE.imp (a4H (a1L (Γ:=Γ) (E:=Ex) hu hK h) ha hb hm) fun σ H Q q=>two (r:=rOf Γ Ex (op2 o)) ha hb σ H Q ?_
 simpa only[TEv,ev] using q
theorem a2e{f:o9->AH->R D}{t:TE}(h:∀σ H Q,TEv Γ Ex f σ H Q->t σ H Q):∀σ H Q,TTv Γ Ex (fun env h=>asB (f env h)) σ H Q->a9D t σ H Q:=by
 rintro σ H Q ⟨env,ah,m,rl,q⟩;exact h σ H _ ⟨env,ah,m,rl,q.bool.mp fun v H1 ⟨k,e,_,_,_,_,_,w⟩=>⟨k,e,w⟩⟩
theorem b7b(hu:X.A.units+8<cLine)(hK:X.K=Γ.K)(h:o.cmp=some op)(ha:PE X a (TEv Γ Ex (ev ct c x)))(hb:PE X b (TEv Γ Ex (ev ct c y)))(hm:behindInMarks op b=false):PT X (.Compare a [op] [b] pos) (TTv Γ Ex (tst ct c (.cmp o x y))):=by
 refine PT.imp (a4G (a1L (Γ:=Γ) (E:=Ex) hu hK h) ha hb hm) fun σ H Q q=>a2e (two (r:=rOf Γ Ex (op2 o)) ha hb) σ H Q ?_
 simpa only[TTv,tst] using q
theorem a4C{d:D}(r:Rp m H d v):decide (v=.non)=decide (d=.non):=by
 cases d with
 |non=>cases r;rfl
 |bl _=>cases r;rfl
 |int _=>cases r;rfl
 |str _=>cases r;rfl
 |tup _=>obtain⟨_,_,rfl,_⟩:=r;rfl
 |ref _=>obtain⟨_,rfl,_⟩:=r;rfl
theorem b9C{j p'}(ha:PE X a (TEv Γ Ex (ev ct c x))):PE X (.Compare a [.Is] [.Constant .none j p'] pos) (TEv Γ Ex (ev ct c (.isN x))):=by
 refine PE.imp (b0x (b0z ha)) ?_
 rintro σ H Q ⟨env,ah,m,rl,q⟩;rw[ev] at q;refine⟨env,ah,m,rl,g9.first rl q fun d1 ah1 m1 H1 v1 p1 k1 rl1 r1 q1=>?_⟩
 rw[a4C r1];exact q1.ok rl1.sim rfl
theorem b6S{j p'}(ha:PE X a (TEv Γ Ex (ev ct c x))):PE X (.Compare a [.IsNot] [.Constant .none j p'] pos) (TEv Γ Ex (ev ct c (.notN x))):=by
 refine PE.imp (b0x (a7L ha)) ?_
 rintro σ H Q ⟨env,ah,m,rl,q⟩;rw[ev] at q;refine⟨env,ah,m,rl,g9.first rl q fun d1 ah1 m1 H1 v1 p1 k1 rl1 r1 q1=>?_⟩
 rw[a4C r1];exact q1.ok rl1.sim rfl
theorem b6T{j p'}(ha:PE X a (TEv Γ Ex (ev ct c x))):PT X (.Compare a [.Is] [.Constant .none j p'] pos) (TTv Γ Ex (tst ct c (.isN x))):=by
 refine PT.imp (b0f (b0z ha)) ?_
 rintro σ H Q ⟨env,ah,m,rl,q⟩;rw[tst] at q;refine⟨env,ah,m,rl,j9.first rl q fun d1 ah1 m1 H1 v1 p1 k1 rl1 r1 q1=>?_⟩
 rw[a4C r1];exact⟨_,rfl,q1.ok rl1.sim⟩
theorem b4i{j p'}(ha:PE X a (TEv Γ Ex (ev ct c x))):PT X (.Compare a [.IsNot] [.Constant .none j p'] pos) (TTv Γ Ex (tst ct c (.notN x))):=by
 refine PT.imp (b0f (a7L ha)) ?_
 rintro σ H Q ⟨env,ah,m,rl,q⟩;rw[tst] at q;refine⟨env,ah,m,rl,j9.first rl q fun d1 ah1 m1 H1 v1 p1 k1 rl1 r1 q1=>?_⟩
 rw[a4C r1];exact⟨_,rfl,q1.ok rl1.sim⟩
theorem b9w(ha:PE X a (TEv Γ Ex (ev ct c x))):PE X (.UnaryOp .USub a pos) (TEv Γ Ex (ev ct c (.neg x))):=by
 refine PE.imp (b7P b4v ha) ?_
 rintro σ H Q ⟨env,ah,m,rl,q⟩;rw[ev] at q;refine⟨env,ah,m,rl,g9.first rl q fun d1 ah1 m1 H1 v1 p1 k1 rl1 r1 q1=>?_⟩
 cases d1<;>first|exact q1.elim|skip
 cases r1;exact⟨_,rfl,q1.ok rl1.sim rfl⟩
theorem g9.firstB{f:Bool->AH->R D}(rl:Rel Γ env ah σ H m)(h:g9 Γ Ex m H ((asB r).bind f) Q)
 (k:∀b ah1 m1 H1,Pre m m1->Keep m m1 H H1->Rel Γ env ah1 σ H1 m1->g9 Γ Ex m1 H1 (f b ah1) Q->Q' (.bl b) H1):g9 Γ Ex m H r Q':=by
 refine h.bind.bool.mp fun v H1 hh=>?_
 obtain⟨b,rfl,ah2,m2,p2,k2,s2,w⟩:=hh;exact k b ah2 m2 H1 p2 k2 (rl.on p2 k2 s2) w
theorem c0K(ha:PE X a (TEv Γ Ex (ev ct c x))):PE X (.UnaryOp .Not a pos) (TEv Γ Ex (ev ct c (.nt x))):=by
 refine PE.imp (b5l ha) ?_
 rintro σ H Q ⟨env,ah,m,rl,q⟩;rw[ev] at q;exact⟨env,ah,m,rl,g9.firstB rl q fun b ah1 m1 H1 p1 k1 rl1 q1=>⟨b,rfl,q1.ok rl1.sim rfl⟩⟩
theorem c0P{c9:List Expr}(ha:PE X a (TEv Γ Ex (ev ct c x)))(hb:PE X (.BoolOp .And (b::c9) pos) (TEv Γ Ex (ev ct c y))):PE X (.BoolOp .And (a::b::c9) pos) (TEv Γ Ex (ev ct c (.an x y))):=by
 refine PE.imp (b5q ha hb) ?_
 rintro σ H Q ⟨env,ah,m,rl,q⟩;rw[ev] at q;refine⟨env,ah,m,rl,g9.firstB rl q fun k ah1 m1 H1 p1 k1 rl1 q1=>⟨k,rfl,?_⟩⟩
 cases k with
 |true=>rw[av rfl] at q1⊢;exact⟨env,ah1,m1,rl1,q1⟩
 |false=>rw[aw (by decide)] at q1⊢;exact q1.ok rl1.sim rfl
theorem b9s{c9:List Expr}(ha:PE X a (TEv Γ Ex (ev ct c x)))(hb:PE X (.BoolOp .Or (b::c9) pos) (TEv Γ Ex (ev ct c y))):PE X (.BoolOp .Or (a::b::c9) pos) (TEv Γ Ex (ev ct c (.orr x y))):=by
 refine PE.imp (b7Q ha hb) ?_
 rintro σ H Q ⟨env,ah,m,rl,q⟩;rw[ev] at q;refine⟨env,ah,m,rl,g9.firstB rl q fun k ah1 m1 H1 p1 k1 rl1 q1=>⟨k,rfl,?_⟩⟩
 cases k with
 |true=>rw[av rfl] at q1⊢;exact q1.ok rl1.sim rfl
 |false=>rw[aw (by decide)] at q1⊢;exact⟨env,ah1,m1,rl1,q1⟩
variable{t u:T}{v:List Expr}
theorem b9n(he:∀whole,isTrue e X.env whole=(do let v←whole;standAt e.pos;holding [v] (truthy v)))(ha:PE X e (TEv Γ Ex (ev ct c x))):PT X e (TTv Γ Ex (tst ct c (.val x))):=by
 refine PT.imp (b0d ha he) ?_
 rintro σ H Q ⟨env,ah,m,rl,q⟩;rw[tst] at q;refine⟨env,ah,m,rl,q.bool.mp fun v H1 hh=>?_⟩
 obtain⟨b,rfl,ah2,m2,p2,k2,s2,w⟩:=hh;exact⟨b,rfl,w⟩
theorem TTv.next{r:R Bool}{f:Bool->AH->R Bool}{Q Q':Bool->Hp->Prop}(rl:Rel Γ env ah σ H m)(h:j9 Γ Ex m H (r.bind f) (fun b _ _ H1=>Q b H1))
 (k:∀b ah1 m1 H1,Pre m m1->Keep m m1 H H1->Rel Γ env ah1 σ H1 m1->j9 Γ Ex m1 H1 (f b ah1) (fun b _ _ H1=>Q b H1)->Q' b H1):j9 Γ Ex m H r (fun b _ _ H1=>Q' b H1):=
 h.bind.mp fun b ah1 m1 H1 p1 k1 s1 q1=>k b ah1 m1 H1 p1 k1 (rl.on p1 k1 s1) q1
theorem b9u(ha:PT X a (TTv Γ Ex (tst ct c t))):PT X (.UnaryOp .Not a pos) (TTv Γ Ex (tst ct c (.nt t))):=by
 refine PT.imp (b4V ha) ?_
 rintro σ H Q ⟨env,ah,m,rl,q⟩;rw[tst] at q;exact⟨env,ah,m,rl,TTv.next rl q fun b ah1 m1 H1 p1 k1 rl1 q1=>q1.ok rl1.sim⟩
theorem b9I{c9:List Expr}(ha:PT X a (TTv Γ Ex (tst ct c t)))(hb:PW X (.BoolOp .And (b::c9) pos) (TTv Γ Ex (tst ct c u))):PW X (.BoolOp .And (a::b::c9) pos) (TTv Γ Ex (tst ct c (.an t u))):=by
 refine PW.imp (b4T ha hb) ?_
 rintro σ H Q ⟨env,ah,m,rl,q⟩;rw[tst] at q;refine⟨env,ah,m,rl,TTv.next rl q fun k ah1 m1 H1 p1 k1 rl1 q1=>?_⟩
 cases k with
 |true=>rw[av rfl] at q1⊢;exact⟨env,ah1,m1,rl1,q1⟩
 |false=>rw[aw (by decide)] at q1⊢;exact q1.ok rl1.sim
theorem b9t{c9:List Expr}(ha:PT X a (TTv Γ Ex (tst ct c t)))(hb:PW X (.BoolOp .Or (b::c9) pos) (TTv Γ Ex (tst ct c u))):PW X (.BoolOp .Or (a::b::c9) pos) (TTv Γ Ex (tst ct c (.orr t u))):=by
 refine PW.imp (b7N ha hb) ?_
 rintro σ H Q ⟨env,ah,m,rl,q⟩;rw[tst] at q;refine⟨env,ah,m,rl,TTv.next rl q fun k ah1 m1 H1 p1 k1 rl1 q1=>?_⟩
 cases k with
 |true=>rw[av rfl] at q1⊢;exact q1.ok rl1.sim
 |false=>rw[aw (by decide)] at q1⊢;exact⟨env,ah1,m1,rl1,q1⟩
theorem b4s{p:B}{op op':CmpOp}(ha:PE X a (TEv Γ Ex (ev ct c x))):∀σ H Q,TEv Γ Ex (fun env h=>(ev ct c x env h).bind fun x1 h1=>(ev ct c y env h1).bind fun y1 h2=>(asB (op2 o h2 x1 y1)).bind fun k h3=>if k=true then(ev ct c z env h3).bind fun z1 h4=>op2 p h4 y1 z1 else .ok (.bl false) h3) σ H Q→
 a6H (rOf Γ Ex (op2 o)) (rOf Γ Ex (op2 p)) (TEv Γ Ex (ev ct c x)) (TEv Γ Ex (ev ct c y)) (TEv Γ Ex (ev ct c z)) σ H Q:=by
 rintro σ H Q ⟨env,ah,m,rl,q⟩;refine⟨env,ah,m,rl,g9.first rl q fun d1 ah1 m1 H1 v1 p1 k1 rl1 r1 q1=>?_⟩
 refine⟨env,ah1,m1,rl1,g9.first rl1 q1 fun d2 ah2 m2 H2 v2 p2 k2 rl2 r2 q2=>?_⟩
 refine⟨d1,d2,ah2,m2,rl2.sim,r1.mono p2 k2,r2,g9.firstB rl2 q2 fun k ah3 m3 H3 p3 k3 rl3 q3=>⟨k,rfl,?_⟩⟩
 cases k with
 |false=>rw[aw (by decide)] at q3⊢;exact q3.ok rl3.sim rfl
 |true=>
  rw[av rfl] at q3⊢;refine⟨env,ah3,m3,rl3,g9.first rl3 q3 fun d4 ah4 m4 H4 v4 p4 k4 rl4 r4 q4=>?_⟩
  exact⟨d2,d4,ah4,m4,rl4.sim,r2.mono (p3.trans p4) (k3.trans k4),r4,q4⟩
theorem b9F{p:B}(hu:X.A.units+8<cLine)(hK:X.K=Γ.K)(h:o.cmp=some op)(h':p.cmp=some op')(ha:PE X a (TEv Γ Ex (ev ct c x)))(hb:PE X b (TEv Γ Ex (ev ct c y)))(hd:PE X d (TEv Γ Ex (ev ct c z)))(hm:lastMarks [op,op'] [b,d]=false):
 PE X (.Compare a [op,op'] [b,d] pos) (TEv Γ Ex (ev ct c (.chn o p x y z))):=by
 refine PE.imp (b0y (a1L (Γ:=Γ) (E:=Ex) hu hK h) (a1L (Γ:=Γ) (E:=Ex) hu hK h') ha hb hd hm) fun σ H Q q=>b4s (op:=op) (op':=op') ha σ H Q ?_
 simpa only[TEv,ev] using q
theorem b7c{p:B}(hu:X.A.units+8<cLine)(hK:X.K=Γ.K)(h:o.cmp=some op)(h':p.cmp=some op')(ha:PE X a (TEv Γ Ex (ev ct c x)))(hb:PE X b (TEv Γ Ex (ev ct c y)))(hd:PE X d (TEv Γ Ex (ev ct c z)))(hm:lastMarks [op,op'] [b,d]=false):
 PT X (.Compare a [op,op'] [b,d] pos) (TTv Γ Ex (tst ct c (.chn o p x y z))):=by
 refine PT.imp (b0g (a1L (Γ:=Γ) (E:=Ex) hu hK h) (a1L (Γ:=Γ) (E:=Ex) hu hK h') ha hb hd hm) fun σ H Q q=>a2e (b4s (op:=op) (op':=op') (o:=o) (p:=p) (y:=y) (z:=z) ha) σ H Q ?_
 simpa only[TTv,tst] using q
theorem c0N(hu:X.A.units+8<cLine)(hK:X.K=Γ.K)(ha:PE X a (TEv Γ Ex (ev ct c x)))(hb:PE X b (TEv Γ Ex (ev ct c y)))(hs:a2t b):PE X (.Subscript a b pos) (TEv Γ Ex (ev ct c (.ix x y))):=by
 refine PE.imp (b4m (b8M (Γ:=Γ) (E:=Ex) hu hK) ha hb hs) fun σ H Q q=>two (r:=rOf Γ Ex ixD) ha hb σ H Q ?_
 simpa only[TEv,ev] using q
theorem c0J:PO X none (TOv Γ Ex (evo ct c .no)):=by
 refine PO.imp b2I ?_
 rintro σ H Q ⟨env,ah,m,rl,q⟩;rw[evo] at q;exact q.ok rl.sim
theorem c0I(ha:PE X a (TEv Γ Ex (ev ct c x))):PO X (some a) (TOv Γ Ex (evo ct c (.at x))):=by
 refine PO.imp (b2H ha) ?_
 rintro σ H Q ⟨env,ah,m,rl,q⟩;rw[evo,a8a] at q;refine⟨env,ah,m,rl,j9.first rl q fun d1 ah1 m1 H1 v1 p1 k1 rl1 r1 q1=>?_⟩
 cases d1<;>first|exact q1.elim|skip
 cases r1;exact⟨_,rfl,q1.ok rl1.sim⟩
variable{l h:Option Expr}{ol oh:O}
theorem c0H(hK:X.K=Γ.K)(ha:PE X a (TEv Γ Ex (ev ct c x)))(hl:PO X l (TOv Γ Ex (evo ct c ol)))(hh:PO X h (TOv Γ Ex (evo ct c oh))):PE X (.Subscript a (.Slice l h none p2) pos) (TEv Γ Ex (ev ct c (.sl x ol oh))):=by
 refine PE.imp (b0s (c0y (Γ:=Γ) (E:=Ex) hK) ha hl hh) ?_
 rintro σ H Q ⟨env,ah,m,rl,q⟩;rw[ev] at q;refine⟨env,ah,m,rl,g9.first rl q fun d1 ah1 m1 H1 v1 p1 k1 rl1 r1 q1=>?_⟩
 refine⟨env,ah1,m1,rl1,q1.bind.mp fun lo ah2 m2 H2 p2 k2 s2 q2=>?_⟩
 refine⟨env,ah2,m2,rl1.on p2 k2 s2,q2.bind.mp fun hi ah3 m3 H3 p3 k3 s3 q3=>?_⟩
 exact⟨d1,ah3,m3,s3,r1.mono (p2.trans p3) (k2.trans k3),q3⟩
variable{xs:Es}
theorem b9v:PA X [] (TAv Γ Ex (evs ct c .nil)):=by
 refine PA.imp Z1 ?_
 rintro σ H Q ⟨env,ah,m,rl,q⟩;rw[evs] at q;exact q.ok rl.sim [] rfl
theorem b6Z(ha:PE X a (TEv Γ Ex (ev ct c x)))(hr:PA X es (TAv Γ Ex (evs ct c xs)))(hs:starEach (a::es) X.env=(false,eval a X.env)::starEach es X.env):PA X (a::es) (TAv Γ Ex (evs ct c (.cons x xs))):=by
 refine PA.imp (I0 ha hr hs) ?_
 rintro σ H Q ⟨env,ah,m,rl,q⟩;rw[evs] at q;refine⟨env,ah,m,rl,j9.first rl q fun d1 ah1 m1 H1 v1 p1 k1 rl1 r1 q1=>?_⟩
 refine⟨env,ah1,m1,rl1,q1.bind.mp fun ds ah2 m2 H2 p2 k2 s2 q2=>fun vs rs=>?_⟩
 exact q2.ok s2 (v1::vs) ⟨v1,vs,rfl,r1.mono p2 k2,rs⟩
theorem b9x(ha:PA X es (TAv Γ Ex (evs ct c xs))):PE X (.List es pos) (TEv Γ Ex (ev ct c (.lst xs))):=by
 refine PE.imp (b5n ha) ?_
 rintro σ H Q ⟨env,ah,m,rl,q⟩;rw[ev] at q;refine⟨env,ah,m,rl,q.bind.mp fun ds ah1 m1 H1 p1 k1 s1 q1=>fun vs rs=>?_⟩
 split at q1
 · rename_i hl;exact⟨by rw[rs.len,←O4];exact hl,fun p hp=>q1.newc s1 hp ⟨_,d0,rs.mono (Pre.snoc m1 p) (Keep.newc hp)⟩⟩
 · exact q1.elim
theorem b9o{k:Nat}(ha:PA X es (TAv Γ Ex (evs ct c xs))):PE X (.Tuple es k pos) (TEv Γ Ex (ev ct c (.tup xs))):=by
 refine PE.imp (b5i ha) ?_
 rintro σ H Q ⟨env,ah,m,rl,q⟩;rw[ev] at q;refine⟨env,ah,m,rl,q.bind.mp fun ds ah1 m1 H1 p1 k1 s1 q1=>fun vs rs=>?_⟩
 split at q1
 · rename_i hl;exact⟨by rw[rs.len,←O4];exact hl,fun p hp=>q1.newt s1 hp rs⟩
 · exact q1.elim
theorem b6W:PE X (.Dict [] [] pos) (TEv Γ Ex (ev ct c .dnew)):=by
 refine PE.imp b0v ?_
 rintro σ H Q ⟨env,ah,m,rl,q⟩;rw[ev] at q;exact fun p hp=>q.newc rl.sim hp (.inl ⟨[],d0,.nil⟩)
theorem b9H{b:Bi}(ha:PA X es (TAv Γ Ex (evs ct c xs))):∀σ H Q,TEv Γ Ex (ev ct c (.bi b xs)) σ H Q->tCB (rBi Γ Ex b) (TAv Γ Ex (evs ct c xs)) σ H Q:=by
 rintro σ H Q ⟨env,ah,m,rl,q⟩;rw[ev] at q;exact⟨env,ah,m,rl,q.bind.mp fun ds ah1 m1 H1 p1 k1 s1 q1=>fun vs rs=>⟨ds,ah1,m1,s1,rs,q1⟩⟩
end
noncomputable def a4w(Γ:Gm)(c:CF)(f np:Nat):Sp:=fun vs H Q E=>∃ds ah m,ds.length=np/\Rps m H ds vs/\Sim Γ ah m H/\g9 Γ E m H (c f ds ah) Q
theorem d9{a:Expr}{env:Env}(h:o6 a=true):starEach (a::es) env=(false,eval a env)::starEach es env:=by
 cases a<;>first|rfl|cases h
theorem N1{pos:Pos}{env:Env}:∀{es:List Expr},es.all o6=true->(backTo pos (starEach es env)).any (·.1)=false
 |[],_=>rfl
 |a::es,h=>by
  rw[all_cons,ae] at h;rw[d9 h.1];exact N1 (es:=es) h.2
theorem a1A{pos:Pos}{env:Env}:∀{es:List Expr},es.all o6=true->(backTo pos (starEach es env)).all (fun x=>!x.1)=true
 |[],_=>rfl
 |a::es,h=>by
  rw[all_cons,ae] at h;rw[d9 h.1];exact a1A (es:=es) h.2
theorem L9{o:Expr}{f:Str}{env:Env}{w:Sem Value}(h:O0 o=true):attributeBase o f env w=w:=by
 unfold attributeBase
 split
 · cases h
 · rfl
def a9p(P:Program)(w:World)(K:PySem.W.Frag)(a:Addr)(gs:List (Key×V)):Prop:=(a==sysModules)=false/\∃vs,KV gs vs/\∀h:Heap,K.In h->h.DictOf (u6 P w) a vs
structure Cxt(X:Cx)(Γ:Gm)(G:GT)(ct:CT)(c:CF)(Ex:XK)(N:List Str)(sc:Scope)(dfn:Bool):Prop where
 hN:X.N=N
 nd:N.Nodup
 sc:X.env.scope=sc
 calm:X.calm=true
 hu:X.A.units+8<cLine
 K:X.K=Γ.K
 fnb:dfn=true->∀x,X.fn x=true
 scal:∀x d,G.scal.lookup x=some d->∃u v,X.mg x=some u/\n0 v u/\∀m H,Rp m H d v
 tups:∀x ds,G.tups.lookup x=some ds->∃a vs,X.mg x=some (.ref a)/\(∀H,SqT X.K H a vs)/\∀m H,Rps m H ds vs
 dicts:∀x kvs,G.dicts.lookup x=some kvs->∃a gs,X.mg x=some (.ref a)/\a9p X.prog X.w X.K a gs/\∀m H,DK m H kvs gs
 blt:∀x,G.blt.contains x=true->X.mg x=none
 fn:∀x f np,G.fn.lookup x=some (f,np)->∃k a fd ps,ps.length=np/\Room k X.A/\X.mg x=some (.ref a)/\PySem.W.keepIn X.K (.ref a)=true/\U1 X.K fd ps []/\FnOk X.prog X.w X.K X.mg X.base CX0 k a fd ps (a4w Γ c f np)/\∀ds h,ds.length≠np->c f ds h=.no
 obj:∀x k,G.obj.lookup x=some k->k∈Γ.ob/\∃r a fd ps,ps.length=1/\Room (r+1) X.A/\Mk X.K (Γ.cA k) a/\X.mg x=some (.ref (Γ.cA k))/\U1 X.K fd ps []/\FnOk X.prog X.w X.K X.mg X.base CX0 r a fd ps (a4w Γ c (ct.init k) 1)
 att:∀k,k∈Γ.ob->Cls X.K (Γ.cA k)/\∀f,G.atts.contains f=true->a0o X.K (Γ.cA k) f
variable{f:Nat}{np:Nat}{neg:Bool}{ad:Addr}{apos:Pos}
section
variable{X:Cx}{G:GT}{ct:CT}{c:CF}{Ex:XK}{N:List Str}{sc:Scope}{dfn:Bool}{e a b:Expr}{pos p:Pos}{x y z:E}{xs:Es}
theorem a0a{n:Str}(h:G2 sc n=true):sc.names.lookup n=some .globalImplicit/\(n==("__debug__":Str))=false/\n≠"__name__":=by
 unfold G2 at h;rw[ae,ae] at h;exact⟨aq h.1.1,beq_eq_false_iff_ne.mpr (aq h.1.2),aq h.2⟩
theorem Cxt.gl(C:Cxt X Γ G ct c Ex N sc dfn){n:Str}(h:G2 sc n=true):Gl X n:=by
 show X.env.scope.names.lookup n=_
 rw[C.sc];exact(a0a h).1
theorem Cxt.vis(C:Cxt X Γ G ct c Ex N sc dfn){n:Str}(h:b0W sc n=true):Vis X.env.scope n:=by
 rw[C.sc];unfold b0W at h;unfold Vis
 split at h
 · rename_i e;exact .inl e
 · rename_i e;exact .inr (.inl e)
 · rename_i e;exact .inr (.inr e)
 · cases h
theorem a4Y{N:List Str}{n:Str}(h:N.idxOf? n=some i):N[i]? =some n:=by
 unfold List.idxOf? at h;rw[List.findIdx?_eq_some_iff_getElem] at h
 obtain⟨h1,h2,_⟩:=h;rw[af h1]
 exact congrArg some (eq_of_beq h2)
theorem b7d{n:Str}(C:Cxt X Γ G ct c Ex N sc dfn)(hf:G.fn.lookup n=some (f,np))(hg:G2 sc n=true)(hp:(a::es).all o6=true)(ha:PA X (a::es) (TAv Γ Ex (evs ct c xs))):
 PE X (.Call (.Name n p) (a::es) [] pos) (TEv Γ Ex (ev ct c (.call f xs))):=by
 obtain⟨k,ad,fd,ps,h1,h2,h3,h4,h5,h6,h7⟩:=C.fn n f np hf;rw[all_cons,ae] at hp;refine PE.imp (b2Q h6 h2 (C.gl hg) h3 h4 h5 .nil b4n ha (a0a hg).2.1 (d9 hp.1) (N1 hp.2)) ?_
 rintro σ H Q ⟨env,ah,m,rl,q⟩;rw[ev] at q;refine⟨env,ah,m,rl,q.bind.mp fun ds ah1 m1 H1 p1 k1 s1 q1=>fun vs rs=>⟨ds,ah1,m1,?_,by rw[aQ];exact rs,s1,q1⟩⟩
 by_cases hl:ds.length=np
 · exact hl
 · rw[h7 ds ah1 hl] at q1;exact q1.elim
theorem c0M{n:Str}{k:Nat}(C:Cxt X Γ G ct c Ex N sc dfn)(hf:G.obj.lookup n=some k)(hg:G2 sc n=true):PE X (.Call (.Name n p) [] [] pos) (TEv Γ Ex (ev ct c (.mk k .nil))):=by
 obtain⟨hk,r,ad,fd,ps,h1,h2,h3,h4,h5,h6⟩:=C.obj n k hf;refine PE.imp (b0t h3 h6 h2 (C.gl hg) h4 h5 .nil b4n (a0a hg).2.1) ?_
 rintro σ H Q ⟨env,ah,m,rl,q⟩;rw[ev,evs,b8] at q;intro x dx hx hdx hne
 have kp:Keep m (m++[x]) H (upd (upd H dx (.own x)) x (.ins (Γ.cA k) dx [])):=(Keep.new hdx).trans (Keep.newc (by rw[l8 (Ne.symm hne)];exact hx))
 have s1:Sim Γ (ah++[.obj k []]) (m++[x]) (upd (upd H dx (.own x)) x (.ins (Γ.cA k) dx [])):=(rl.sim.new (o:=.own x) hdx).alloc (by rw[l8 (Ne.symm hne)];exact hx) ⟨dx,[],d0,.nil,hk⟩
 refine⟨[.ref ah.length],ah++[.obj k []],m++[x],rfl,⟨.ref x,[],rfl,⟨x,rfl,?_⟩,rfl⟩,s1,?_⟩
 · rw[←rl.sim.len,ao (ai _)];simp
 · refine(q.bind.later (Pre.snoc m x) kp).val fun d ah1 m1 H1 v p1 k1 s1 r1 q1=>?_
   cases d<;>first|exact q1.elim|skip
   cases r1;refine⟨rfl,q1.ok s1 ⟨x,rfl,p1.get ?_⟩⟩
   rw[←rl.sim.len,ao (ai _)];simp
theorem b9D{f:Str}(C:Cxt X Γ G ct c Ex N sc dfn)(hb:O0 a=true)(hf:G.atts.contains f=true)(ha:PE X a (TEv Γ Ex (ev ct c x))):PE X (.Attribute a f pos) (TEv Γ Ex (ev ct c (.fld x f))):=by
 refine PE.imp (b5o (pos:=pos) ha (L9 (f:=f) hb)) ?_
 rintro σ H Q ⟨env,ah,m,rl,q⟩;rw[ev] at q;refine⟨env,ah,m,rl,g9.first rl q fun d1 ah1 m1 H1 v1 p1 k1 rl1 r1 q1=>?_⟩
 unfold X0 at q1
 split at q1
 · split at q1
   · rename_i k fs e2
     split at q1
     · rename_i d e3;obtain⟨ad,rfl,hm1⟩:=r1;obtain⟨dx,gs,g1,g2,g3⟩:=rl1.sim.at hm1 e2;obtain⟨w,hw,rw'⟩:=g2.look e3;obtain⟨a1,a2⟩:=C.att k g3;exact⟨ad,Γ.cA k,dx,gs,w,rfl,g1,a1,a2 f hf,hw,q1.ok rl1.sim rw'⟩
     · exact q1.elim
   · exact q1.elim
 · exact q1.elim
theorem b9B(C:Cxt X Γ G ct c Ex N sc dfn)(hg:G2 sc "isinstance"=true)(hm:X.mg "isinstance"=none)(hg2:G2 sc "list"=true)(hm2:X.mg "list"=none)(hp:o6 a=true)(ha:PE X a (TEv Γ Ex (ev ct c x))):
 PE X (.Call (.Name "isinstance" p) [a,.Name "list" p2] [] pos) (TEv Γ Ex (ev ct c (.isl x))):=by
 have PAab:PA X [a,.Name "list" p2] (a1b (TEv Γ Ex (ev ct c x)) (a1b (tC (.ty "list")) a6G)):=I0 ha (I0 (a4I (C.gl hg2) hm2 PyProof.Rows.boot_list rfl (by decide) (by decide)) Z1 (d9 rfl)) (d9 hp)
 refine PE.imp (V7 a3k (C.gl hg) hm PyProof.Rows.boot_isinstance PAab (by decide) (by decide) (d9 hp) (N1 rfl)) ?_
 rintro σ H Q ⟨env,ah,m,rl,q⟩;rw[ev] at q;refine⟨env,ah,m,rl,g9.first rl q fun d1 ah1 m1 H1 v1 p1 k1' rl1 r1 q1=>?_⟩
 split at q1
 · rename_i hl;unfold a7b at hl
   split at hl
   · split at hl
     · rename_i e;obtain⟨ad,vs,rfl,_,h1,_⟩:=rl1.sim.lst e r1;exact⟨_,"list",_,true,rfl,.lst h1,by unfold PySem.W.kitOne;rw[av (by simp)],q1.ok rl1.sim rfl⟩
     · cases hl
   · cases hl
 · exact q1.elim
theorem b9z(C:Cxt X Γ G ct c Ex N sc dfn)(hg:G2 sc "isinstance"=true)(hm:X.mg "isinstance"=none)(hg2:G2 sc "tuple"=true)(hm2:X.mg "tuple"=none)(hp:o6 a=true)(ha:PE X a (TEv Γ Ex (ev ct c x))):
 PE X (.Call (.Name "isinstance" p) [a,.Name "tuple" p2] [] pos) (TEv Γ Ex (ev ct c (.ist x))):=by
 have PAab:PA X [a,.Name "tuple" p2] (a1b (TEv Γ Ex (ev ct c x)) (a1b (tC (.ty "tuple")) a6G)):=I0 ha (I0 (a4I (C.gl hg2) hm2 PyProof.Rows.boot_tuple rfl (by decide) (by decide)) Z1 (d9 rfl)) (d9 hp)
 refine PE.imp (V7 a3k (C.gl hg) hm PyProof.Rows.boot_isinstance PAab (by decide) (by decide) (d9 hp) (N1 rfl)) ?_
 rintro σ H Q ⟨env,ah,m,rl,q⟩;rw[ev] at q;refine⟨env,ah,m,rl,g9.first rl q fun d1 ah1 m1 H1 v1 p1 k1' rl1 r1 q1=>?_⟩
 split at q1
 · obtain⟨ad,vs,rfl,h1,_⟩:=r1;exact⟨_,"tuple",_,true,rfl,.tup h1,by unfold PySem.W.kitOne;rw[av (by simp)],q1.ok rl1.sim rfl⟩
 · exact q1.elim
theorem b9A(C:Cxt X Γ G ct c Ex N sc dfn)(hg:G2 sc "isinstance"=true)(hm:X.mg "isinstance"=none)(hg2:G2 sc "str"=true)(hm2:X.mg "str"=none)(hp:o6 a=true)(ha:PE X a (TEv Γ Ex (ev ct c x))):
 PE X (.Call (.Name "isinstance" p) [a,.Name "str" p2] [] pos) (TEv Γ Ex (ev ct c (.iss x))):=by
 have PAab:PA X [a,.Name "str" p2] (a1b (TEv Γ Ex (ev ct c x)) (a1b (tC (.ty "str")) a6G)):=I0 ha (I0 (a4I (C.gl hg2) hm2 PyProof.Rows.boot_str rfl (by decide) (by decide)) Z1 (d9 rfl)) (d9 hp)
 refine PE.imp (V7 a3k (C.gl hg) hm PyProof.Rows.boot_isinstance PAab (by decide) (by decide) (d9 hp) (N1 rfl)) ?_
 rintro σ H Q ⟨env,ah,m,rl,q⟩;rw[ev] at q;refine⟨env,ah,m,rl,g9.first rl q fun d1 ah1 m1 H1 v1 p1 k1' rl1 r1 q1=>?_⟩
 split at q1
 · cases r1;exact⟨_,"str",_,true,rfl,.str _,by unfold PySem.W.kitOne;rw[av (by simp)],q1.ok rl1.sim rfl⟩
 · exact q1.elim
theorem a8d(h1:∀H,SqT X.K H ad vs)(h2:∀m H,Rps m H ds vs):∀σ H Q,TEv Γ Ex (ev ct c (.gin neg x ds)) σ H Q->tOp (rIn X.K neg) (TEv Γ Ex (ev ct c x)) (tC (.ref ad)) σ H Q:=by
 rintro σ H Q ⟨env,ah,m,rl,q⟩;rw[ev] at q;refine⟨env,ah,m,rl,g9.first rl q fun d1 ah1 m1 H1 v1 p1 k1 rl1 r1 q1=>?_⟩
 split at q1
 · rename_i hf;refine⟨ad,vs,rfl,.inr (h1 H1),T3 r1 hf.1,G4 (h2 m1 H1) hf.2,?_⟩
   rw[a0b r1 hf.1 (h2 m1 H1) hf.2] at q1
   cases neg with
   |false=>rw[a3o] at q1;exact q1.ok rl1.sim rfl
   |true=>rw[a3n] at q1;exact q1.ok rl1.sim rfl
 · exact q1.elim
theorem b4u{n:Str}(C:Cxt X Γ G ct c Ex N sc dfn)(ho:(op=.In/\neg=false)∨(op=.NotIn/\neg=true))(hg:G2 sc n=true)(ht:G.tups.lookup n=some ds)(ha:PE X a (TEv Γ Ex (ev ct c x))):
 PE X (.Compare a [op] [.Name n p] pos) (TEv Γ Ex (ev ct c (.gin neg x ds)))/\PT X (.Compare a [op] [.Name n p] pos) (TTv Γ Ex (tst ct c (.val (.gin neg x ds)))):=by
 obtain⟨ad,vs,h1,h2,h3⟩:=C.tups n ds ht
 have hb:PE X (.Name n p) (tC (.ref ad)):=a2i (C.gl hg) h1 rfl (a0a hg).2.1
 have ho':OpR X (compareOp op) (rIn X.K neg):=by
  rcases ho with⟨rfl,rfl⟩|⟨rfl,rfl⟩
  · exact a0t
  · exact O6
 refine⟨PE.imp (a4H ho' ha hb rfl) (a8d h2 h3),PT.imp (a4G ho' ha hb rfl) fun σ H Q q=>a2e (a8d (neg:=neg) h2 h3) σ H Q ?_⟩
 simpa only[TTv,tst] using q
def rMd(a:Addr)(gs:List (Key×V))(neg:Bool):R2:=fun x y H Q=>∃k,x=kV k/\y=.ref a/\Q (.bl ((V3 gs k).isSome !=neg)) H
theorem b5w(d:a9p X.prog X.w X.K ad gs):OpR X (compareOp .In) (rMd ad gs false):=by
 intro pins s σ H x y v u Q I rx ry h;obtain⟨k,rfl,rfl,q⟩:=h;cases ry;obtain⟨hd,vs,rel,dd⟩:=d;refine wpAny_in_of (Z9 rx) hd (dd _ I.kIn).mapOf ?_
 rw[←(rel.val k).isSome_eq];rw[a3o] at q;exact⟨.bl _,H,I.tok _,rfl,q⟩
theorem a8M(d:a9p X.prog X.w X.K ad gs):OpR X (compareOp .NotIn) (rMd ad gs true):=by
 intro pins s σ H x y v u Q I rx ry h;obtain⟨k,rfl,rfl,q⟩:=h;cases ry;obtain⟨hd,vs,rel,dd⟩:=d;refine wpAny_notIn_of (Z9 rx) hd (dd _ I.kIn).mapOf ?_
 rw[←(rel.val k).isSome_eq];rw[a3n] at q;exact⟨.bl _,H,I.tok _,rfl,q⟩
def rMx(a:Addr)(gs:List (Key×V)):R2:=fun x y H Q=>∃k v,x=.ref a/\y=kV k/\V3 gs k=some v/\Q v H
theorem c0p(d:a9p X.prog X.w X.K ad gs):IxR X (rMx ad gs):=by
 rintro value slice pins s σ H x y v u Q I rx ry ⟨k,z,rfl,rfl,hz,q⟩ hs;cases rx;obtain⟨hd,vs,rel,dd⟩:=d;have dd:=dd _ I.kIn;obtain⟨w',hw,rw'⟩:=a0G.some_of (v:=z) (o:=valueAt vs k) (by rw[←hz];exact rel.val k)
 exact b8M.ixd_tail dd.typeIs hs (wpAny_getItem_of (Z9 ry) dd.mapOf hw ⟨z,H,I.tok _,rw',q⟩)
theorem a6j(h2:∀m H,DK m H kvs gs):∀σ H Q,TEv Γ Ex (ev ct c (.gdin neg x kvs)) σ H Q->tOp (rMd ad gs neg) (TEv Γ Ex (ev ct c x)) (tC (.ref ad)) σ H Q:=by
 rintro σ H Q ⟨env,ah,m,rl,q⟩;rw[ev] at q;refine⟨env,ah,m,rl,g9.first rl q fun d1 ah1 m1 H1 v1 p1 k1 rl1 r1 q1=>?_⟩
 split at q1
 · rename_i hf;obtain⟨k,hk⟩:=Option.isSome_iff_exists.mp hf;refine⟨k,a0v hk r1,rfl,?_⟩
   rw[(h2 m1 H1).some_eq hk] at q1;exact q1.ok rl1.sim rfl
 · exact q1.elim
theorem b1T{n:Str}(C:Cxt X Γ G ct c Ex N sc dfn)(ho:(op=.In/\neg=false)∨(op=.NotIn/\neg=true))(hg:G2 sc n=true)(ht:G.dicts.lookup n=some kvs)(ha:PE X a (TEv Γ Ex (ev ct c x))):
 PE X (.Compare a [op] [.Name n p] pos) (TEv Γ Ex (ev ct c (.gdin neg x kvs)))/\PT X (.Compare a [op] [.Name n p] pos) (TTv Γ Ex (tst ct c (.val (.gdin neg x kvs)))):=by
 obtain⟨ad,gs,h1,h2,h3⟩:=C.dicts n kvs ht
 have hb:PE X (.Name n p) (tC (.ref ad)):=a2i (C.gl hg) h1 rfl (a0a hg).2.1
 have ho':OpR X (compareOp op) (rMd ad gs neg):=by
  rcases ho with⟨rfl,rfl⟩|⟨rfl,rfl⟩
  · exact b5w h2
  · exact a8M h2
 refine⟨PE.imp (a4H ho' ha hb rfl) (a6j h3),PT.imp (a4G ho' ha hb rfl) fun σ H Q q=>a2e (a6j (neg:=neg) (ad:=ad) h3) σ H Q ?_⟩
 simpa only[TTv,tst] using q
theorem b6U{n:Str}(C:Cxt X Γ G ct c Ex N sc dfn)(hg:G2 sc n=true)(ht:G.dicts.lookup n=some kvs)(hb:PE X b (TEv Γ Ex (ev ct c y)))(hs:a2t b):
 PE X (.Subscript (.Name n p) b pos) (TEv Γ Ex (ev ct c (.gdix y kvs))):=by
 obtain⟨ad,gs,h1,h2,h3⟩:=C.dicts n kvs ht
 have ha:PE X (.Name n p) (tC (.ref ad)):=a2i (C.gl hg) h1 rfl (a0a hg).2.1
 refine PE.imp (b4m (c0p h2) ha hb hs) ?_
 rintro σ H Q ⟨env,ah,m,rl,q⟩;rw[ev] at q;refine⟨env,ah,m,rl,g9.first rl q fun d1 ah1 m1 H1 v1 p1 k1 rl1 r1 q1=>?_⟩
 split at q1
 · rename_i hf;obtain⟨k,hk⟩:=Option.isSome_iff_exists.mp hf
   split at q1
   · rename_i d hd;obtain⟨v,hv,rv⟩:=((h3 m1 H1).val hk).1 d hd;exact⟨k,v,rfl,a0v hk r1,hv,q1.ok rl1.sim rv⟩
   · exact q1.elim
 · exact q1.elim
theorem c0O{n:Str}{b:Bi}(C:Cxt X Γ G ct c Ex N sc dfn)(hb:b6M n=some b)(hg:G2 sc n=true)(hm:X.mg n=none)(hp:(a::es).all o6=true)(ha:PA X (a::es) (TAv Γ Ex (evs ct c xs))):
 PE X (.Call (.Name n p) (a::es) [] pos) (TEv Γ Ex (ev ct c (.bi b xs))):=by
 obtain⟨_,hd,hn⟩:=a0a hg;rw[all_cons,ae] at hp;have s1:=d9 (es:=es) (env:=X.env) hp.1;have s2:=N1 (pos:=pos) (env:=X.env) hp.2
 have go:∀{b:Bi} {t:TE},PE X (.Call (.Name n p) (a::es) [] pos) (tCB (rBi Γ Ex b) (TAv Γ Ex (evs ct c xs)))->PE X (.Call (.Name n p) (a::es) [] pos) (TEv Γ Ex (ev ct c (.bi b xs))):=fun h=>PE.imp h (b9H ha)
 unfold b6M at hb
 repeat' split at hb
 all_goals (first|(cases hb;done)|(cases hb;rename_i e;subst e))
 · exact go (t:=tCB (rBi Γ Ex .len) (TAv Γ Ex (evs ct c xs))) (V7 (b8Z C.K) (C.gl hg) hm PySem.boot_len ha hn hd s1 s2)
 · exact go (t:=tCB (rBi Γ Ex .len) (TAv Γ Ex (evs ct c xs))) (V6 b8Y (C.gl hg) hm PyProof.Rows.boot_str ha hn hd s1 s2)
 · exact go (t:=tCB (rBi Γ Ex .len) (TAv Γ Ex (evs ct c xs))) (V6 b9a (C.gl hg) hm PyProof.Rows.boot_int ha hn hd s1 s2)
 · exact go (t:=tCB (rBi Γ Ex .len) (TAv Γ Ex (evs ct c xs))) (V6 (b3Y C.K) (C.gl hg) hm PyProof.Rows.boot_tuple ha hn hd s1 s2)
 · exact go (t:=tCB (rBi Γ Ex .len) (TAv Γ Ex (evs ct c xs))) (V6 (b6I C.K) (C.gl hg) hm PyProof.Rows.boot_list ha hn hd s1 s2)
 · exact go (t:=tCB (rBi Γ Ex .len) (TAv Γ Ex (evs ct c xs))) (V7 (b9c C.calm C.K) (C.gl hg) hm PyProof.Rows.boot_all ha hn hd s1 s2)
 · exact go (t:=tCB (rBi Γ Ex .len) (TAv Γ Ex (evs ct c xs))) (V7 (b9b C.calm C.K) (C.gl hg) hm PyProof.Rows.boot_any ha hn hd s1 s2)
 · exact go (t:=tCB (rBi Γ Ex .len) (TAv Γ Ex (evs ct c xs))) (V6 (b6J C.calm C.K) (C.gl hg) hm PyProof.Rows.boot_dict ha hn hd s1 s2)
theorem a2R{b:Mt}{T:String}(hK:X.K=Γ.K)(hT:(T="list"/\(b=.append∨b=.extend))∨(T="str"/\(b=.split∨b=.join∨b=.starts))):∀σ H Q,TEv Γ Ex (ev ct c (.mt b x xs)) σ H Q->tBM X.K T (rMt Γ Ex b) (TEv Γ Ex (ev ct c x)) (TAv Γ Ex (evs ct c xs)) σ H Q:=by
 rintro σ H Q ⟨env,ah,m,rl,q⟩;rw[ev] at q;refine⟨env,ah,m,rl,g9.first rl q fun d1 ah1 m1 H1 v1 p1 k1 rl1 r1 q1=>?_⟩
 split at q1
 · rename_i ht;refine⟨?_,env,ah1,m1,rl1,q1.bind.mp fun ds ah2 m2 H2 p2 k2 s2 q2=>fun vs rs=>⟨d1,ds,ah2,m2,s2,r1.mono p2 k2,rs,q2⟩⟩
   unfold mtT at ht
   split at ht
   · cases r1
     rcases hT with⟨rfl,rfl|rfl⟩|⟨rfl,_⟩
     · cases ht
     · cases ht
     · rfl
   · rename_i n
     rcases hT with⟨rfl,hb⟩|⟨rfl,rfl|rfl|rfl⟩
     · have hs:(rdL ah1 n).isSome=true:=by rcases hb with rfl|rfl<;>exact ht
       obtain⟨l,hl⟩:=Option.isSome_iff_exists.mp hs;obtain⟨ad,vs,rfl,_,h1,_⟩:=rl1.sim.rdL hl r1;exact .inl ⟨rfl,vs,by rw[hK];exact h1⟩
     · cases ht
     · cases ht
     · cases ht
   · cases ht
 · exact q1.elim
theorem c0L{n:Str}{b:Mt}(C:Cxt X Γ G ct c Ex N sc dfn)(hb:b5G n=some b)(hpb:O0 e=true)(hline:(apos.endLine==pos.line)=true)(hlen:(a::es).length<20)(hp:(a::es).all o6=true)(ho:PE X e (TEv Γ Ex (ev ct c x)))(ha:PA X (a::es) (TAv Γ Ex (evs ct c xs))):
 PE X (.Call (.Attribute e n apos) (a::es) [] pos) (TEv Γ Ex (ev ct c (.mt b x xs))):=by
 have hp':=hp
 rw[all_cons,ae] at hp;have s1:=d9 (es:=es) (env:=X.env) hp.1;have s2:=N1 (pos:=pos) (env:=X.env) hp.2;have hbase:=L9 (f:=n) (env:=X.env) (w:=eval e X.env) hpb
 have hfew:((backTo pos (starEach (a::es) X.env)).all (fun x=>!x.1)&&(backToKw pos (keywordEach [] X.env)).all (fun x=>x.1.isSome)
  &&decide ((a::es).length+([]:List Keyword).length+(if([]:List Keyword).isEmpty then 0 else 1)<30))=true:=by
  rw[ae,ae];refine⟨⟨a1A hp',rfl⟩,aR ?_⟩
  show(a::es).length+0+0<30
  omega
 unfold b5G at hb
 repeat' split at hb
 all_goals (first|(cases hb;done)|(cases hb;rename_i e0;subst e0))
 · exact PE.imp (a2K PySem.F.plainAttrs_list PySem.F.slot_list_append PySem.F.type_list_append (b0J (Γ:=Γ) (E:=Ex)) ho ha hbase hfew hline s1 s2) (a2R C.K (.inl ⟨rfl,.inl rfl⟩))
 · exact PE.imp (a2K PySem.F.plainAttrs_list PySem.F.slot_list_extend PySem.F.type_list_extend (b0I (Γ:=Γ) (E:=Ex)) ho ha hbase hfew hline s1 s2) (a2R C.K (.inl ⟨rfl,.inr rfl⟩))
 · exact PE.imp (a2K PySem.F.plainAttrs_str PySem.F.slot_str_split PySem.F.type_str_split (b3d (Γ:=Γ) (E:=Ex)) ho ha hbase hfew hline s1 s2) (a2R C.K (.inr ⟨rfl,.inl rfl⟩))
 · exact PE.imp (a2K PySem.F.plainAttrs_str PySem.F.slot_str_join PySem.F.type_str_join (b5H (Γ:=Γ) (E:=Ex) C.K) ho ha hbase hfew hline s1 s2) (a2R C.K (.inr ⟨rfl,.inr (.inl rfl)⟩))
 · exact PE.imp (a2K PySem.F.plainAttrs_str PySem.F.slot_str_startswith PySem.F.type_str_startswith (b0H (Γ:=Γ) (E:=Ex)) ho ha hbase hfew hline s1 s2) (a2R C.K (.inr ⟨rfl,.inr (.inr rfl)⟩))
end
end EV
namespace L2
open PySem PySem.Spec PyProof.Rows
theorem a2S:∀(gs acc:List (Key×V)),((acc++gs).map (·.1)).Nodup->W7 acc gs=acc++gs
 |[],acc,_=>by rw[aQ];rfl
 | g::gs,acc,h=>by
  have h2:((acc++[g]++gs).map (·.1)).Nodup:=by rw[ax];exact h
  have hn:(acc.any fun kv=>decide (kv.1=g.1))=false:=by
   rw[List.any_eq_false];intro p hp
   have e:p.1≠g.1:=by
    rw[al,nodup_append] at h;exact h.2.2 p.1 (ak.mpr ⟨p,hp,rfl⟩) g.1 (by simp)
   simp[e]
  show W7 (N9 acc g.1 g.2) gs=_
  rw[show N9 acc g.1 g.2=acc++[g] by unfold N9;rw[hn];rfl,a2S gs _ h2,ax]
  rfl
variable{H:Hp}
theorem a8u{p:Addr}{a b:HO}:upd (upd H p a) p b=upd H p b:=by
 funext x
 by_cases h:x=p
 · subst h;rw[d0,d0]
 · rw[l8 h,l8 h,l8 h]
end L2
namespace EV
open PySem PySem.Spec L2
open PyProof.Rows hiding St
noncomputable def kDg:Key->D
 |.inl i=>.int i
 |.inr x=>.str x
theorem a3R:∀{l:List D},a4N l=true->l.Nodup
 |[],_=>.nil
 |d::r,h=>by
  rw[a4N,ae] at h;refine aN.mpr ⟨fun m=>?_,a3R h.2⟩
  have:=h.1
  rw[aY.mpr ⟨d,m,aR rfl⟩] at this;cases this
variable{kvs:List (D×D)}{m:List Addr}{H:Hp}{apos:Pos}
section
variable{X:Cx}{Γ:Gm}{G:GT}{ct:CT}{c:CF}{Ex:XK}{N:List Str}{sc:Scope}{dfn:Bool}{e a b:Expr}{pos p:Pos}{x y z:E}
theorem b3U{e:Expr}{x:Str}(h:b6E e=some x):∃k q,e=.Constant (.str x) k q:=by
 unfold b6E at h
 split at h
 · split at h
   · cases h;exact⟨_,_,rfl⟩
   · cases h
 · cases h
theorem b3V{e:Expr}{i:Int}(h:b6F e=some i):∃k q,e=.Constant (.int i) k q:=by
 unfold b6F at h
 split at h
 · split at h
   · cases h;exact⟨_,_,rfl⟩
   · cases h
 · cases h
theorem b4q:∀{ks:List (Option Expr)} {vs:List Expr} {kvs:List (D×D)},a9j ks vs=some kvs->∃trs gs,PPs X pos ks vs trs/\ks.all (·.isSome)=true/\ks.length=vs.length/\ks.length=kvs.length/\gs.length=kvs.length/\kvs.map (·.1)=(gs.map (·.1)).map kDg∧
 (∀σ H Q,Q (gs.map fun kv=>(kV kv.1,kv.2)) H->a4s trs σ H Q)/\∀m H,DK m H kvs gs
 |[],vs,kvs,h=>by
  unfold a9j at h
  split at h
  · rename_i e
    cases isEmpty_iff.mp e
    cases h;exact⟨[],[],b2G,rfl,rfl,rfl,rfl,rfl,fun _ _ _ q=>q,fun _ _=>.nil⟩
  · cases h
 |k::ks,vs,kvs,h=>by
  unfold a9j at h
  split at h
  · cases h
  · rename_i v r
    split at h
    · rename_i s i l h1 h2 h3;cases h;obtain⟨e,rfl,h1⟩:=Option.bind_eq_some_iff.mp h1;obtain⟨_,_,rfl⟩:=b3U h1;obtain⟨_,_,rfl⟩:=b3V h2;obtain⟨trs,gs,g1,g2,g3,g4,g5,g6,g7,g8⟩:=b4q h3;exact⟨(tC (.str s),tC (.int i))::trs,(.inr s,.int i)::gs,b0o b0r b0u g1,g2,congrArg (· +1) g3,congrArg (· +1) g4,congrArg (· +1) g5,by rw[map_cons,g6];rfl,fun σ H Q q=>g7 σ H _ q,fun m H=>.cons ⟨rfl,rfl⟩ (g8 m H)⟩
    · cases h
theorem b6X{ks:List (Option Expr)}{vs:List Expr}(h0:ks≠[])(h:a9j ks vs=some kvs)(hk:b6C kvs=true):PE X (.Dict ks vs pos) (TEv Γ Ex (ev ct c (.dlit kvs))):=by
 unfold b6C at hk;rw[ae] at hk;have h15:=aq hk.1;obtain⟨trs,gs,g1,g2,g3,g4,g5,g6,g7,g8⟩:=b4q (X:=X) (pos:=pos) h
 have nd:(gs.map (·.1)).Nodup:=by
  have:=a3R hk.2
  rw[g6] at this;exact List.Pairwise.of_map _ (fun a b h e=>h (by rw[e])) this
 refine PE.imp (b2P g1 g2 g3 h0 (by omega)) ?_
 rintro σ H Q ⟨env,ah,m,rl,q⟩;rw[ev] at q;intro p hp;refine g7 σ _ _ ⟨d0,gs,rfl,by omega,?_⟩
 rw[a8u,a2S gs [] nd];exact q.newc rl.sim hp (.inl ⟨gs,d0,g8 _ _⟩)
theorem b8T{k:D}:∀{kvs:List (D×D)} {gs:List (List Key×V)},DT m H kvs gs->F9 k kvs=true->(J6 k).isSome=true->kvs.isEmpty=true
 |_,_,.nil,_,_=>rfl
 |p::ps,_,.cons h t,hk,hs=>by
  obtain⟨⟨l,e1,e2⟩,_⟩:=h;unfold F9 at hk;rw[all_cons,e1] at hk;simp only[J0,e2,Option.isSome_some,if_true] at hk
  cases k<;>simp[J6,J0] at hk hs
theorem b6Y (C:Cxt X Γ G ct c Ex N sc dfn) (hpb:O0 e=true) (hline:(apos.endLine==pos.line)=true) (hpa:o6 a=true) (hpc:o6 b=true) (ho:PE X e (TEv Γ Ex (ev ct c x))) (ha:PE X a (TEv Γ Ex (ev ct c y))) (hb:PE X b (TEv Γ Ex (ev ct c z))):
 PE X (.Call (.Attribute e "get" apos) [a,b] [] pos) (TEv Γ Ex (ev ct c (.dget x y z))):=by
 have t:backTo pos (starEach [a,b] X.env)=[(false,eval a X.env),(false,eval b X.env)]:=by rw[d9 hpa,d9 hpc];rfl
 refine PE.imp (b0w (hu1 C.hu) ho ha hb ⟨L9 hpb,by rw[t];rfl,hline,t⟩) ?_
 rintro σ H Q ⟨env,ah,m,rl,q⟩;rw[ev] at q;refine⟨env,ah,m,rl,g9.first rl q fun d1 ah1 m1 H1 v1 p1 k1 rl1 r1 q1=>?_⟩
 split at q1
 · rename_i hd; unfold b0Y at hd
   split at hd
   · rename_i n
     split at hd
     · rename_i kvs0 e0;obtain⟨ad,rfl,hm⟩:=r1;refine⟨ad,rfl,?_,env,ah1,m1,rl1,g9.first rl1 q1 fun d2 ah2 m2 H2 v2 p2 k2 rl2 r2 q2=>⟨env,ah2,m2,rl2,g9.first rl2 q2 fun d3 ah3 m3 H3 v3 p3 k3 rl3 r3 q3=>?_⟩⟩
       · rcases rl1.sim.at hm e0 with⟨kvs,h1,_⟩|⟨kvs,h1,_⟩
         · exact .inl ⟨kvs,.inl h1⟩
         · exact .inr ⟨kvs,.inl h1⟩
       · unfold a6p at q3
         simp only at q3
         split at q3
         · rename_i kvs e3
           split at q3
           · rename_i hk;rw[ae,ae] at hk;obtain⟨⟨hk1,hk2⟩,hk3⟩:=hk;obtain⟨k,hk⟩:=Option.isSome_iff_exists.mp hk2;have hm3:=p3.get (p2.get hm)
             rcases rl3.sim.at hm3 e3 with⟨gs,h1,h2⟩|⟨gs,h1,h2⟩
             · obtain⟨o,g,o1,o2⟩:=a1t (Keep.refl m3 H3) (r2.mono p3 k3) (.inl ⟨k,gs,hk,h1,h2⟩);refine⟨o,g,?_⟩
               cases hg:n9 kvs d2 with
               |none=>
                rw[hg] at o1 q3
                cases o with
                |none=>exact q3.ok rl3.sim r3
                |some w=>cases o1
               |some w=>
                rw[hg] at q3;obtain⟨v,rfl,rv⟩:=o2 w hg;exact q3.ok rl3.sim rv
             · rw[b8T h2 hk1 hk2] at hk3;cases hk3
           · exact q3.elim
         · exact q3.elim
     · cases hd
   · cases hd
 · exact q1.elim
end
theorem Rps.rev{m:List Addr}{H:Hp}:∀{l:List D} {vs:List V},Rps m H l vs->Rps m H l.reverse vs.reverse
 |[],_,h=>by cases h;rfl
 |d::l,_,⟨v,vs,e,h1,h2⟩=>by
  subst e;rw[reverse_cons,reverse_cons];exact(Rps.rev h2).snoc h1
variable{Γ:Gm}{ct:CT}{c:CF}{pos:Pos}{p2:Pos}
theorem b9r{X:Cx}{G:GT}{Ex:XK}{N:List Str}{sc:Scope}{dfn:Bool}{a:Expr}{p pos2:Pos}{x:E}(C:Cxt X Γ G ct c Ex N sc dfn)(hg:G2 sc "list"=true)(hm:X.mg "list"=none)(hg2:G2 sc "reversed"=true)(hm2:X.mg "reversed"=none)(hp:o6 a=true)(ha:PE X a (TEv Γ Ex (ev ct c x))):
 PE X (.Call (.Name "list" p) [.Call (.Name "reversed" p2) [a] [] pos2] [] pos) (TEv Γ Ex (ev ct c (.rev x))):=by
 refine PE.imp (b5j (C.gl hg) hm (C.gl hg2) hm2 C.calm ha (d9 hp)) ?_
 rintro σ H Q ⟨env,ah,m,rl,q⟩;rw[ev] at q;refine⟨env,ah,m,rl,g9.first rl q fun d1 ah1 m1 H1 v1 p1 k1 rl1 r1 q1=>?_⟩
 unfold a9Z at q1
 split at q1
 · split at q1
   · rename_i e;obtain⟨ad,vs,rfl,_,h1,rs⟩:=rl1.sim.lst e r1;exact⟨ad,vs,rfl,h1,fun p hp=>q1.newc rl1.sim hp ⟨_,d0,rs.rev.mono (Pre.snoc m1 p) (Keep.newc hp)⟩⟩
   · exact q1.elim
 · exact q1.elim
section
variable{X:Cx}{G:GT}{Ex:XK}{N:List Str}{sc:Scope}{dfn:Bool}{e a b:Expr}{p:Pos}{x y z:E}
theorem b9q(C:Cxt X Γ G ct c Ex N sc dfn)(hpb:O0 e=true)(hline:(apos.endLine==pos.line)=true)(ho:PE X e (TEv Γ Ex (ev ct c x))):PE X (.Call (.Attribute e "reverse" apos) [] [] pos) (TEv Γ Ex (ev ct c (.rvs x))):=by
 refine PE.imp (b5p PySem.F.plainAttrs_list PySem.F.slot_list_reverse PySem.F.type_list_reverse a6U ho (L9 hpb) hline) ?_
 rintro σ H Q ⟨env,ah,m,rl,q⟩;rw[ev] at q;refine⟨env,ah,m,rl,g9.first rl q fun d1 ah1 m1 H1 v1 p1 k1' rl1 r1 q1=>?_⟩
 split at q1
 · split at q1
   · rename_i l e0;obtain⟨ad,vs,rfl,hm,h1,rs⟩:=rl1.sim.lst e0 r1
     have kp:Keep m1 m1 H1 (upd H1 ad (.lst vs.reverse)):=Keep.put hm h1 fun z=>z
     exact⟨.inl ⟨rfl,vs,.inl (.inl h1)⟩,ad,vs,rfl,rfl,h1,q1 m1 _ _ (Pre.refl m1) kp (rl1.sim.write hm h1 (fun z=>z) ⟨_,d0,rs.rev.mono (Pre.refl m1) kp⟩) rfl⟩
   · exact q1.elim
 · exact q1.elim
theorem b0M{k:Bool}:∀σ H Q,TEv Γ Ex (ev ct c (.lm k x y)) σ H Q->tBM X.K "list" (rLm k) (TEv Γ Ex (ev ct c x)) (a1b (TEv Γ Ex (ev ct c y)) a6G) σ H Q:=by
 rintro σ H Q ⟨env,ah,m,rl,q⟩;rw[ev] at q;refine⟨env,ah,m,rl,g9.first rl q fun d1 ah1 m1 H1 v1 p1 k1 rl1 r1 q1=>?_⟩
 split at q1
 · rename_i hl;unfold a7b at hl
   split at hl
   · split at hl
     · rename_i e;obtain⟨ad,vs,rfl,hm,h1,_⟩:=rl1.sim.lst e r1;refine⟨.inl ⟨rfl,vs,.inl (.inl h1)⟩,env,ah1,m1,rl1,g9.first rl1 q1 fun d2 ah2 m2 H2 v2 p2 k2 rl2 r2 q2=>?_⟩
       cases d2<;>first|exact q2.elim|skip
       unfold lmD at q2
       simp only at q2
       split at q2
       · rename_i xs e2
         split at q2
         · rename_i ts e3;obtain⟨ad2,ws,ea,_,h2,rs2⟩:=rl2.sim.lst e2 (r1.mono p2 k2);cases ea;rw[a2D e3 rs2] at h2;cases r2;refine⟨ad,ts,_,rfl,rfl,h2,?_⟩
           cases k with
           |true=>
            rw[av rfl] at q2⊢
            split at q2
            · rename_i j e4;exact⟨j,e4,q2.ok rl2.sim rfl⟩
            · exact q2.elim
           |false=>
            rw[aw (by decide)] at q2⊢
            exact q2.ok rl2.sim rfl
         · exact q2.elim
       · exact q2.elim
     · cases hl
   · cases hl
 · exact q1.elim
theorem b9y{k:Bool}{n:Str}(hk:(n="index"/\k=true)∨(n="count"/\k=false))(C:Cxt X Γ G ct c Ex N sc dfn)(hpb:O0 e=true)(hline:(apos.endLine==pos.line)=true)(hp:o6 a=true)(ho:PE X e (TEv Γ Ex (ev ct c x)))(ha:PE X a (TEv Γ Ex (ev ct c y))):
 PE X (.Call (.Attribute e n apos) [a] [] pos) (TEv Γ Ex (ev ct c (.lm k x y))):=by
 have s1:=d9 (es:=[]) (env:=X.env) hp
 have hp':([a]:List Expr).all o6=true:=by rw[all_cons,hp];rfl
 have hfew:((backTo pos (starEach [a] X.env)).all (fun x=>!x.1)&&(backToKw pos (keywordEach [] X.env)).all (fun x=>x.1.isSome)
  &&decide (([a]:List Expr).length+([]:List Keyword).length+(if([]:List Keyword).isEmpty then 0 else 1)<30))=true:=by
  rw[ae,ae];exact⟨⟨a1A hp',rfl⟩,rfl⟩
 have PAa:PA X [a] (a1b (TEv Γ Ex (ev ct c y)) a6G):=I0 ha Z1 s1
 rcases hk with⟨rfl,rfl⟩|⟨rfl,rfl⟩
 · exact PE.imp (a2K PySem.F.plainAttrs_list PySem.F.slot_list_index PySem.F.type_list_index b5E ho PAa (L9 hpb) hfew hline s1 rfl) b0M
 · exact PE.imp (a2K PySem.F.plainAttrs_list PySem.F.slot_list_count PySem.F.type_list_count b5F ho PAa (L9 hpb) hfew hline s1 rfl) b0M
end
noncomputable def TGv(Γ:Gm)(p:Pat):TG:=fun v σ H Q=>∃env d m env',EnvRel m H env σ/\Rp m H d v/\D6 p d env=some env'/\∀σ',EnvRel m H env' σ'->σ'.length=σ.length->(∀(j:Nat),j∉K4 p->σ'[j]? =σ[j]?)->Q σ' H
noncomputable def c0R(Γ:Gm)(p:Pats):TGs:=fun vs σ H Q=>∃env ds m env',EnvRel m H env σ/\Rps m H ds vs/\O3 p ds env=some env'/\∀σ',EnvRel m H env' σ'->σ'.length=σ.length->(∀(j:Nat),j∉a0s p->σ'[j]? =σ[j]?)->Q σ' H
noncomputable def a2j:Pats->Nat
 |.nil=>0
 |.cons _ r=>a2j r+1
theorem a0Y:∀(ps:Pats) {ds:List D} {env env':o9},O3 ps ds env=some env'->ds.length=a2j ps
 |.nil,ds,env,env',h=>by
  cases ds with
  |nil=>rfl
  |cons d r=>simp only[O3] at h;cases h
 | .cons p r,ds,env,env',h=>by
  cases ds with
  |nil=>simp only[O3] at h;cases h
  |cons d t=>
   simp only[O3] at h
   split at h
   · rw[length_cons,a0Y r h];rfl
   · cases h
variable{es:List Expr}{i:Nat}{n:Nat}{cc:Cell}{ah:AH}{K:PySem.W.Frag}{l:List D}{m0:List Addr}{H0:Hp}{vs:List V}{z:Str}{elts:List Expr}{kk:Nat}{tp:Pos}
section
variable{X:Cx}{G:GT}{Ex:XK}{N:List Str}{sc:Scope}{dfn:Bool}
theorem PG.imp{e:Expr}{t t':TG}(h:PG X e t)(i:∀v σ H Q,t' v σ H Q->t v σ H Q):PG X e t':=fun pins s σ H v u Q I r q=>h pins s σ H v u Q I r (i _ _ _ _ q)
theorem PGs.imp{t t':TGs}(h:PGs X es t)(i:∀v σ H Q,t' v σ H Q->t v σ H Q):PGs X es t':=fun pins s σ H v u Q I r q=>h pins s σ H v u Q I r (i _ _ _ _ q)
theorem a3q{env:Env}:∀{es:List Expr},(assignEach es env).length=es.length
 |[]=>rfl
 |e::r=>by
  have:=a3q (env:=env) (es:=r)
  cases e<;>simp only[assignEach,length_cons]<;>rw[this]
theorem Cxt.loc(C:Cxt X Γ G ct c Ex N sc dfn){n:Str}(h:b0X dfn sc n=true):Loc X.env.scope n/\(X.fn n=true∨X.env.scope.names.lookup n=some .local):=by
 rw[C.sc];unfold b0X at h;unfold L2.Loc
 split at h
 · rename_i e;exact⟨.inl e,.inr e⟩
 · rename_i e;exact⟨.inr e,.inl (C.fnb h n)⟩
 · cases h
theorem a2A(C:Cxt X Γ G ct c Ex N sc dfn){n:Str}(h:a2B dfn N sc n=some i):X.N[i]? =some n/\Loc X.env.scope n/\(X.fn n=true∨X.env.scope.names.lookup n=some .local):=by
 unfold a2B at h
 split at h
 · rename_i hl;rw[C.hN];exact⟨a4Y h,C.loc hl⟩
 · cases h
theorem b4t (C:Cxt X Γ G ct c Ex N sc dfn):∀n,(∀e p,a9o dfn N sc n e=some p->PG X e (TGv Γ p)/\o6 e=true)/\∀es ps,a3m dfn N sc n es=some ps->PGs X es (c0R Γ ps)/\a2j ps=es.length/\(assignEach es X.env).findIdx? (·.1)=none:=by
 intro n
 induction n with
 |zero=>exact⟨fun e p h=>(by simp only[a9o] at h;cases h),fun es ps h=>(by simp only[a3m] at h;cases h)⟩
 | succ n ih=>
  obtain⟨ih1,ih2⟩:=ih;refine⟨fun e p h=>?_,fun es ps h=>?_⟩
  · cases e<;>simp only[a9o] at h<;>first|(cases h;done)|skip
    · rename_i nm pos
      cases hs:a2B dfn N sc nm with
      |none=>rw[hs] at h;cases h
      |some i=>
       rw[hs] at h;cases h
       obtain⟨h1,h2,h3⟩:=a2A C hs;refine⟨PG.imp (b2O (by rw[C.hN];exact C.nd) h1 h2 h3) ?_,rfl⟩
       rintro v σ H Q ⟨env,d,m,env',er,r,hb,q⟩;simp only[D6] at hb;cases hb;exact q _ (er.set r) (by simp) fun j hj=>List.getElem?_set_ne (fun e=>hj (by simp[K4,e]))
    · rename_i es k pos
      cases hs:a3m dfn N sc n es with
      |none=>rw[hs] at h;cases h
      |some ps=>
       rw[hs] at h;cases h
       obtain⟨h1,h2,h3⟩:=ih2 es ps hs;refine⟨PG.imp (b5f C.calm h1 a3q h3) ?_,rfl⟩
       rintro v σ H Q ⟨env,d,m,env',er,r,hb,q⟩;simp only[D6] at hb
       cases d<;>first|(cases hb;done)|skip
       rename_i ds;obtain⟨a,vs,rfl,ha,rs⟩:=r;refine⟨a,vs,rfl,.inl (.inl ha),by rw[rs.len,a0Y ps hb,h2],env,ds,m,env',er,rs,hb,fun σ' r' l' s'=>q σ' r' l' s'⟩
  · cases es with
    | nil=>
     simp only[a3m] at h;cases h;refine⟨PGs.imp b2N ?_,rfl,rfl⟩
     rintro vs σ H Q ⟨env,ds,m,env',er,rs,hb,q⟩;have hl:=a0Y .nil hb
     have:vs=[]:=length_eq_zero_iff.mp (rs.len.trans hl)
     subst this
     cases ds with
     |nil=>
      simp only[O3] at hb;cases hb;exact⟨rfl,q σ er rfl fun _ _=>rfl⟩
     |cons d r=>cases hl
    |cons e r=>
     simp only[a3m] at h
     split at h
     · rename_i p ps' h1 h2;cases h;obtain⟨g1,g2⟩:=ih1 e p h1;obtain⟨g3,g4,g5⟩:=ih2 r ps' h2
       have hst:(assignEach (e::r) X.env)=(false,assign e X.env)::assignEach r X.env:=by cases e<;>first|rfl|cases g2
       refine⟨PGs.imp (b0q g1 g3 (by rw[hst];rfl)) ?_,by simp only[a2j,length_cons,g4],by rw[hst,List.findIdx?_cons,g5];rfl⟩
       rintro vs σ H Q ⟨env,ds,m,env',er,rs,hb,q⟩
       cases ds with
       |nil=>simp only[O3] at hb;cases hb
       |cons d t=>
        simp only[O3] at hb
        split at hb
        · rename_i env1 hb1;obtain⟨v,vt,rfl,rd,rt⟩:=rs;refine⟨v,vt,rfl,env,d,m,env1,er,rd,hb1,fun σ1 er1 l1 s1=>⟨env1,t,m,env',er1,rt,hb,fun σ' er' l' s'=>q σ' er' (l'.trans l1) fun j hj=>?_⟩⟩
          simp only[a0s,aF,not_or] at hj;rw[s' j hj.2,s1 j hj.1]
        · cases hb
     · cases h
def a7t(Γ:Gm)(J:It)(its:List D)(g:List (Nat×Cell))(m0:List Addr)(H0:Hp):Prop:=∀(i:Nat) (ah:AH) (m:List Addr) (H:Hp),Pre m0 m->Keep m0 m H0 H->Sim Γ ah m H->gOk g ah=true→
 (i=its.length->J.stop i H)/\∀d,its[i]? =some d->J.go i H/\∀v H',J.yld i H v H'->Keep m m H H'/\Sim Γ ah m H'/\Rp m H' d v
def TIv(Γ:Gm)(E:XK)(f:o9->AH->R Its):TI:=fun σ H R=>∃env ah m,Rel Γ env ah σ H m/\j9 Γ E m H (f env ah) (fun x ah1 m1 H1=>Sim Γ ah1 m1 H1->∀J,a7t Γ J x.1 x.2 m1 H1->R J H1)
theorem b6f(h:gOk [(n,cc)] ah=true):ah[n]? =some cc:=by
 unfold gOk at h;rw[all_cons,ae] at h;exact aq h.1
theorem Q5(hK:K=Γ.K){a:Addr}(h:cc=.lst l∨cc=.rol l)(S:Sim Γ ah m H)(hm:m[n]? =some a)(e:ah[n]? =some cc):∃vs,SqL K H a vs/\Rps m H l vs:=by
 have:rdL ah n=some l:=by
  unfold rdL
  rcases h with rfl|rfl<;>rw[e]
 obtain⟨a',vs,e1,e2,e3,e4⟩:=S.rdL this ⟨a,rfl,hm⟩;rw[hm] at e2;cases e2;exact⟨vs,by rw[hK];exact e3,e4⟩
theorem a7X(hK:K=Γ.K){a:Addr}(h:cc=.lst l∨cc=.rol l)(hm:m0[n]? =some a):a7t Γ (Itl K a) l [(n,cc)] m0 H0:=by
 intro i ah m H p k0 S g;obtain⟨vs,h1,h2⟩:=Q5 hK h S (p.get hm) (b6f g);refine⟨fun hi=>⟨vs,h1,by rw[h2.len,hi];exact ai _⟩,fun d hd=>?_⟩
 obtain⟨v,hv,rv⟩:=h2.get hd;refine⟨⟨vs,v,h1,hv⟩,?_⟩
 rintro w H' ⟨rfl,hw⟩
 have:=hw vs h1
 rw[hv] at this;cases this;exact⟨Keep.refl _ _,S,rv⟩
theorem a4e:∀{l:List D} {n i:Nat} {d:D},(B8 n l)[i]? =some d->∃x,l[i]? =some x/\d=.tup [.int ((n+i:Nat):Int),x]
 |[],_,_,_,h=>by simp[B8] at h
 |x::r,n,0,d,h=>by
  simp only[B8,List.getElem?_cons_zero] at h
  cases h;exact⟨x,rfl,rfl⟩
 |x::r,n,i+1,d,h=>by
  simp only[B8,List.getElem?_cons_succ] at h
  obtain⟨y,h1,h2⟩:=a4e h;exact⟨y,by simpa using h1,by rw[h2];congr 3;omega⟩
theorem a4d:∀{l:List D} {n:Nat},(B8 n l).length=l.length
 |[],_=>rfl
 |x::r,n=>by simp only[B8,length_cons,a4d]
theorem a7Y(hK:K=Γ.K){a:Addr}(h:cc=.lst l∨cc=.rol l)(hm:m0[n]? =some a):a7t Γ (Ite K a) (B8 0 l) [(n,cc)] m0 H0:=by
 intro i ah m H p k0 S g;obtain⟨vs,h1,h2⟩:=Q5 hK h S (p.get hm) (b6f g);refine⟨fun hi=>⟨vs,h1,by rw[h2.len,hi,a4d];exact ai _⟩,fun d hd=>?_⟩
 obtain⟨x,hx,rfl⟩:=a4e hd;obtain⟨v,hv,rv⟩:=h2.get hx;refine⟨⟨vs,v,h1,hv⟩,?_⟩
 rintro w H' ⟨T,y,hT,rfl,hw,rfl⟩
 have:=hw vs h1
 rw[hv] at this;cases this;refine⟨Keep.new hT,S.new hT,T,[.int i,v],rfl,d0,.int i,[v],rfl,?_,v,[],rfl,rv.mono (Pre.refl m) (Keep.new hT),rfl⟩
 show V.int (i:Int)=V.int ((0+i:Nat):Int)
 rw[ay]
theorem b5U{a:Addr}(ha:H0 a=some (.tup vs))(r:Rps m0 H0 l vs):a7t Γ (Itt K a) l [] m0 H0:=by
 intro i ah m H p k0 S g;have h1:=k0.tup ha;have h2:=r.mono p k0;refine⟨fun hi=>⟨vs,.inl (.inl h1),by rw[h2.len,hi];exact ai _⟩,fun d hd=>?_⟩
 obtain⟨v,hv,rv⟩:=h2.get hd;refine⟨⟨vs,v,.inl (.inl h1),hv⟩,?_⟩
 rintro w H' ⟨rfl,hw⟩
 have:=hw vs (.inl (.inl h1))
 rw[hv] at this;cases this;exact⟨Keep.refl _ _,S,rv⟩
theorem b5V:a7t Γ (L2.Its z) (Y2 z) [] m0 H0:=by
 intro i ah m H p k0 S g;refine⟨fun hi=>?_,fun d hd=>?_⟩
 · show i=z.cps.size
   rw[hi];simp[Y2]
 · unfold Y2 at hd;rw[aj] at hd
   cases hc:z.cps.toList[i]? with
   |none=>rw[hc] at hd;cases hd
   | some cc=>
    rw[hc] at hd;cases hd
    have hi:i<z.cps.size:=by
     have:=(ac.mp hc).1
     simpa using this
    refine⟨hi,?_⟩
    rintro v H' ⟨rfl,c',h1,rfl⟩;rw[Array.getElem?_toList] at hc
    rw[hc] at h1;cases h1;exact⟨Keep.refl _ _,S,rfl⟩
theorem b5W{lo:Int}:a7t Γ (Itr lo n) (a9Q lo n) [] m0 H0:=by
 intro i ah m H p k0 S g;refine⟨fun hi=>?_,fun d hd=>?_⟩
 · show n<=i
   rw[hi];simp[a9Q]
 · unfold a9Q at hd;rw[aj] at hd
   cases hc:(List.range n)[i]? with
   |none=>rw[hc] at hd;cases hd
   |some j=>
    rw[hc] at hd;cases hd;obtain⟨h1,h2⟩:=ac.mp hc
    rw[List.getElem_range] at h2;rw[aE] at h1;subst h2;refine⟨h1,?_⟩
    rintro v H' ⟨rfl,rfl⟩;exact⟨Keep.refl _ _,S,rfl⟩
variable{tg a b:Expr}{x y:E}{p:Pos}
theorem b9p(C:Cxt X Γ G ct c Ex N sc dfn)(ha:PE X a (TEv Γ Ex (ev ct c x))):PI X tg a (TIv Γ Ex (evi ct c (.seq x))):=by
 intro pins s σ H R I ⟨env,ah,m,rl,q⟩;rw[evi] at q
 cases hr:ev ct c x env ah with
 | ok d ah1=>
  rw[hr,b8] at q;unfold L4 at q
  split at q
  · refine b5e ha pins s σ H R I ⟨env,ah,m,rl,?_⟩
    rw[hr];intro m1 H1 v p1 k1 s1 r1;cases r1;exact⟨_,rfl,(q m1 H1 p1 k1 s1) s1 _ b5V⟩
  · refine b5d ha pins s σ H R I ⟨env,ah,m,rl,?_⟩
    rw[hr];intro m1 H1 v p1 k1 s1 r1;obtain⟨ad,vs,rfl,h1,q1⟩:=r1;exact⟨ad,rfl,⟨vs,.inl (.inl h1)⟩,(q m1 H1 p1 k1 s1) s1 _ (b5U h1 q1)⟩
  · rename_i n;refine b2L ha pins s σ H R I ⟨env,ah,m,rl,?_⟩
    rw[hr];intro m1 H1 v p1 k1 s1 r1
    split at q
    · rename_i l e;obtain⟨ad,vs,rfl,hm,h1,q1⟩:=s1.lst e r1;exact⟨ad,rfl,⟨vs,.inl (.inl h1)⟩,(q m1 H1 p1 k1 s1) s1 _ (a7X C.K (.inl rfl) hm)⟩
    · rename_i l e;obtain⟨ad,vs,rfl,hm,h1,q1⟩:=s1.rdL (l:=l) (by unfold rdL;rw[e]) r1
      exact⟨ad,rfl,⟨vs,by rw[C.K];exact h1⟩,(q m1 H1 p1 k1 s1) s1 _ (a7X C.K (.inr rfl) hm)⟩
    · exact q.elim
  · exact q.elim
 |no=>rw[hr] at q;exact q.elim
theorem b6R(C:Cxt X Γ G ct c Ex N sc dfn)(hg:G2 sc "range"=true)(hm:X.mg "range"=none)(hp:o6 a=true)(ha:PE X a (TEv Γ Ex (ev ct c x))):PI X tg (.Call (.Name "range" p) [a] [] pos) (TIv Γ Ex (evi ct c (.rng1 x))):=by
 intro pins s σ H R I ⟨env,ah,m,rl,q⟩;refine a8L (C.gl hg) hm (I0 ha Z1 (d9 hp)) (d9 hp) pins s σ H R I ⟨env,ah,m,rl,?_⟩
 rw[evi] at q;refine j9.first rl q fun d1 ah1 m1 H1 v1 p1 k1 rl1 r1 q1=>?_
 unfold a9P at q1
 split at q1
 · rename_i i j e1;cases e1;cases r1
   split at q1
   · rename_i hh;refine⟨j,rfl,(Q4 hh.2).1,(Q4 hh.2).2,?_⟩
     have:=q1.ok rl1.sim rl1.sim (Itr 0 (j-0).toNat) b5W
     rwa [Int.sub_zero] at this
   · exact q1.elim
 · exact q1.elim
theorem c0v{g:Nat×Cell}{g':List (Nat×Cell)}(h:gOk (g::g') ah=true):ah[g.1]? =some g.2/\gOk g' ah=true:=by
 unfold gOk at h⊢;rw[all_cons,ae] at h;exact⟨aq h.1,h.2⟩
theorem a6a{a:List D×Cell}(h:a3W ah n=some a):ah[n]? =some a.2/\(a.2=.lst a.1∨a.2=.rol a.1):=by
 unfold a3W at h
 split at h
 · rename_i l e;cases h;exact⟨e,.inl rfl⟩
 · rename_i l e;cases h;exact⟨e,.inr rfl⟩
 · cases h
theorem a5z:∀{l l':List D} {i:Nat} {d:D},(a0E l l')[i]? =some d->∃x y,l[i]? =some x/\l'[i]? =some y/\d=.tup [x,y]
 |[],l',i,d,h=>by simp[a0E] at h
 |x::xs,[],i,d,h=>by simp[a0E] at h
 |x::xs,y::ys,0,d,h=>by
  simp only[a0E,List.getElem?_cons_zero] at h
  cases h;exact⟨x,y,rfl,rfl,rfl⟩
 |x::xs,y::ys,i+1,d,h=>by
  simp only[a0E,List.getElem?_cons_succ] at h
  obtain⟨a,b,h1,h2,h3⟩:=a5z h;exact⟨a,b,by simpa using h1,by simpa using h2,h3⟩
theorem a5y:∀{l l':List D},l.length<=(a0E l l').length∨l'.length<=(a0E l l').length
 |[],l'=>.inl (Nat.zero_le _)
 |x::xs,[]=>.inr (Nat.zero_le _)
 |x::xs,y::ys=>by
  simp only[a0E,length_cons]
  rcases a5y (l:=xs) (l':=ys) with h|h
  · exact .inl (Nat.succ_le_succ h)
  · exact .inr (Nat.succ_le_succ h)
theorem b5T(hK:K=Γ.K){n':Nat}{a a':Addr}{l':List D}{cc':Cell}(h:cc=.lst l∨cc=.rol l)(h':cc'=.lst l'∨cc'=.rol l')(hm:m0[n]? =some a)(hm':m0[n']? =some a'):
 a7t Γ (Itz K a a') (a0E l l') [(n,cc),(n',cc')] m0 H0:=by
 intro i ah m H p k0 S g;obtain⟨g1,g2⟩:=c0v g;obtain⟨vs,h1,h2⟩:=Q5 hK h S (p.get hm) g1;obtain⟨ws,h3,h4⟩:=Q5 hK h' S (p.get hm') (b6f g2);refine⟨fun hi=>⟨vs,ws,h1,h3,?_⟩,fun d hd=>?_⟩
 · rw[h2.len,h4.len,hi];exact a5y
 · obtain⟨x,y,hx,hy,rfl⟩:=a5z hd;obtain⟨v,hv,rv⟩:=h2.get hx;obtain⟨u,hu,ru⟩:=h4.get hy;refine⟨⟨vs,ws,v,u,h1,h3,hv,hu⟩,?_⟩
   rintro w H' ⟨T,z,z',hT,rfl,hw,hw',rfl⟩;have e1:=hw vs h1;have e2:=hw' ws h3;rw[hv] at e1;rw[hu] at e2;cases e1;cases e2;exact⟨Keep.new hT,S.new hT,T,[v,u],rfl,d0,v,[u],rfl,rv.mono (Pre.refl m) (Keep.new hT),u,[],rfl,ru.mono (Pre.refl m) (Keep.new hT),rfl⟩
theorem b9m(C:Cxt X Γ G ct c Ex N sc dfn)(hg:G2 sc "zip"=true)(hm:X.mg "zip"=none)(hp:o6 a=true)(hpb:o6 b=true)(ha:PE X a (TEv Γ Ex (ev ct c x)))(hb:PE X b (TEv Γ Ex (ev ct c y))):PI X (.Tuple elts kk tp) (.Call (.Name "zip" p) [a,b] [] pos) (TIv Γ Ex (evi ct c (.zip x y))):=by
 intro pins s σ H R I ⟨env,ah,m,rl,q⟩;refine b5c (C.gl hg) hm (I0 ha (I0 hb Z1 (d9 hpb)) (d9 hp)) (d9 hp) (N1 (by simp[hpb])) pins s σ H R I ⟨env,ah,m,rl,?_⟩
 rw[evi] at q;refine j9.first rl q fun d1 ah1 m1 H1 v1 p1 k1 rl1 r1 q1=>?_
 refine⟨env,ah1,m1,rl1,j9.first rl1 q1 fun d2 ah2 m2 H2 v2 p2 k2 rl2 r2 q2=>?_⟩
 unfold a9q at q2
 split at q2
 · split at q2
   · rename_i e1 e2;obtain⟨c1,w1⟩:=a6a e1;obtain⟨c2,w2⟩:=a6a e2;obtain⟨ad,rfl,hm1⟩:=r1.mono p2 k2;obtain⟨ad',rfl,hm2⟩:=r2;obtain⟨vs,h1,_⟩:=Q5 C.K w1 rl2.sim hm1 c1;obtain⟨ws,h2,_⟩:=Q5 C.K w2 rl2.sim hm2 c2;exact⟨ad,ad',vs,ws,rfl,h1,h2,q2.ok rl2.sim rl2.sim _ (b5T C.K w1 w2 hm1 hm2)⟩
   · exact q2.elim
 · exact q2.elim
theorem b6V(C:Cxt X Γ G ct c Ex N sc dfn)(hg:G2 sc "enumerate"=true)(hm:X.mg "enumerate"=none)(hp:o6 a=true)(ha:PE X a (TEv Γ Ex (ev ct c x))):PI X (.Tuple elts kk tp) (.Call (.Name "enumerate" p) [a] [] pos) (TIv Γ Ex (evi ct c (.enum x))):=by
 intro pins s σ H R I ⟨env,ah,m,rl,q⟩;refine b2M (C.gl hg) hm (I0 ha Z1 (d9 hp)) (d9 hp) pins s σ H R I ⟨env,ah,m,rl,?_⟩
 rw[evi] at q;refine j9.first rl q fun d1 ah1 m1 H1 v1 p1 k1 rl1 r1 q1=>?_
 unfold a1s at q1
 split at q1
 · split at q1
   · rename_i l e;obtain⟨ad,vs,rfl,hm,h1,_⟩:=rl1.sim.lst e r1;exact⟨ad,vs,rfl,.inl (.inl h1),q1.ok rl1.sim rl1.sim _ (a7Y C.K (.inl rfl) hm)⟩
   · rename_i l e;obtain⟨ad,vs,rfl,hm,h1,_⟩:=rl1.sim.rdL (l:=l) (by unfold rdL;rw[e]) r1
     exact⟨ad,vs,rfl,by rw[C.K];exact h1,q1.ok rl1.sim rl1.sim _ (a7Y C.K (.inr rfl) hm)⟩
   · exact q1.elim
 · exact q1.elim
end
variable{env:o9}{σ:St}{own:List Str}{js:List Nat}{p:Pat}{α:Type}{Q:VK}{it:I}{e:E}{elt:Expr}{iter:Expr}{tg:Expr}{ifs:List Expr}{scope:Scope}{frees:List Str}{op:CmpOp}{o:B}{β:Type}
section
variable{X:Cx}{G:GT}{Ex:XK}{N:List Str}{sc:Scope}{dfn:Bool}
theorem a6m(h:EnvRel m H env σ)(own:List Str)(js:List Nat):EnvRel m H (A9 own.length js env) (D2 own js σ):=by
 refine⟨by simp[A9,D2],fun i d e=>?_⟩
 unfold A9 at e;unfold D2
 by_cases hi:i<own.length
 · rw[ap (by simpa using hi),bj,av hi] at e
   cases e
 · have hi':own.length<=i:=aM hi
   rw[ao (by simpa using hi'),aW,aj] at e
   rw[ao (by simpa using hi'),aa,aj]
   cases hj:js[i-own.length]? with
   |none=>rw[hj] at e;cases e
   | some j=>
    rw[hj] at e
    have e':(env[j]?).join=some d:=au e
    have e2:env[j]? =some (some d):=by
     cases q:env[j]? with
     |none=>rw[q] at e';cases e'
     |some z=>rw[q] at e';exact congrArg some e'
    obtain⟨v,h1,h2⟩:=h.val j d e2;exact⟨v,by rw[Option.map_some,h1];rfl,h2⟩
theorem b1V{σ4:St}(hp:(K4 p).all (fun i=>decide (i<own.length))=true)(hl:σ4.length=(D2 own js σ).length)(hs:∀(j:Nat),j∉K4 p->σ4[j]? =(D2 own js σ)[j]?):Wk (D2 own js σ) σ4:=by
 refine⟨hl.symm,fun i v h=>?_⟩
 rw[hs i]
 · exact h
 · intro hm
   have:=aq (aX.mp hp i hm)
   unfold D2 at h;rw[ap (by simpa using this),aj] at h
   cases q:own[i]? with
   |none=>rw[q] at h;cases h
   |some z=>rw[q] at h;cases h
theorem a7Q{r:R α}{f:α->AH->R D}(h:g9 Γ Ex m H (r.bind f) Q):∃a ah,r=.ok a ah/\g9 Γ Ex m H (f a ah) Q:=by
 cases r with
 |ok a ah=>exact⟨a,ah,rfl,h⟩
 |no=>exact h.elim
theorem a6s {t:T} (hp:(K4 p).all (fun i=>decide (i<own.length))=true):∀σ H Q,TEv Γ Ex (ev ct c (.comp p it own.length js t e)) σ H Q->a7x own js (TIv Γ Ex (evi ct c it)) (TGv Γ p) (TTv Γ E0 (tst ct c t)) (TEv Γ E0 (ev ct c e)) σ H Q:=by
 rintro σ H Q ⟨env,ah,m,rl,q⟩;rw[ev] at q;refine⟨env,ah,m,rl,q.bind.mp fun x ah1 m1 H1 p1 k1 s1 q1=>fun _ J hJ D hD=>?_⟩
 have er1:=rl.env.mono p1 k1
 refine⟨fun i mm ys H2=>mm=x.1.length-i/\i<=x.1.length/\∃acc ah2 m2,Sim Γ ah2 m2 H2/\Pre m1 m2/\Keep m1 m2 H1 H2/\D∉m2/\H2 D=some (.lst ys)/\Rps m2 H2 acc ys∧
  g9 Γ Ex m1 H1 ((N6 x.2 p (tst ct c t) (ev ct c e) (A9 own.length js env) (x.1.drop i) acc ah2).bind fun ds h2=>y9 (.lst ds) h2) Q,?_,?_⟩
 · exact⟨_,rfl,Nat.zero_le _,[],ah1,m1,s1.new hD,Pre.refl _,Keep.new hD,s1.fresh hD,d0,rfl,q1⟩
 · rintro i mm ys H2 ⟨hmm,hil,acc,ah2,m2,s2,p2,k2,nD,hD2,rs2,q2⟩
   by_cases hend:i=x.1.length
   · refine .inl ?_
     rw[hend,drop_length] at q2;obtain⟨ds,ah3,e3,q3⟩:=a7Q q2;unfold N6 at e3
     split at e3
     · rename_i hgk;cases e3;refine⟨(hJ i ah2 m2 H2 p2 k2 s2 hgk).1 hend,?_⟩
       have sm:Sim Γ (ah2++[.lst acc]) (m2++[D]) H2:=by
        refine⟨by simp[s2.len],a0Q s2.nd nD,fun n a cc hn hcc=>?_⟩
        have kk:Keep m2 m2 H2 H2:=Keep.refl _ _
        by_cases hl:n<m2.length
        · rw[ap hl] at hn
          rw[ap (by rw[←s2.len];exact hl)] at hcc
          exact(s2.at hn hcc).mono' (Pre.snoc m2 D) (fun _ _ _ z=>z) rfl
        · have hn':n=m2.length:=by
           have:=(ac.mp hn).1
           simp at this;omega
          subst hn';rw[ao (ai _)] at hn
          rw[s2.len,ao (ai _)] at hcc
          simp at hn hcc;subst hn;subst hcc
          exact⟨ys,hD2,rs2.mono' (Pre.snoc m2 D) fun _ _ _ z=>z⟩
       refine q3 (m2++[D]) H2 (.ref D) (p2.trans (Pre.snoc m2 D)) ⟨k2.im,k2.out,fun a ha=>?_⟩ sm ⟨D,rfl,?_⟩
       · rcases aF.mp ha with z|z
         · exact k2.fr a z
         · simp at z;subst z;exact .inr hD
       · rw[←s2.len,ao (ai _)];simp
     · cases e3
   · refine .inr ?_
     have hlt:i<x.1.length:=Nat.lt_of_le_of_ne hil hend
     have hdi:x.1[i]? =some x.1[i]:=af hlt
     rw[drop_eq_getElem_cons hlt] at q2;generalize hdd:x.1[i]=dd at q2 hdi;obtain⟨ds,ah3,e3,q3⟩:=a7Q q2;unfold N6 at e3
     split at e3
     · rename_i hgk;obtain⟨go,yl⟩:=(hJ i ah2 m2 H2 p2 k2 s2 hgk).2 dd hdi;refine⟨go,fun v H3 hy=>?_⟩
       obtain⟨k3,s3,r3⟩:=yl v H3 hy
       split at e3
       · cases e3
       · rename_i envb hb
         have er3:EnvRel m2 H3 (A9 own.length js env) (D2 own js σ):=a6m ((er1.mono p2 k2).mono (Pre.refl m2) k3) own js
         refine⟨_,dd,m2,envb,er3,r3,hb,fun σ4 er4 l4 s4=>⟨b1V hp l4 s4,envb,ah2,m2,⟨s3,er4⟩,?_⟩⟩
         have hD3:H3 D=some (.lst ys):=k3.out D _ nD hD2
         have ab:∀{m9:List Addr} {H9:Hp},Pre m2 m9->Keep m2 m9 H3 H9->D∉m9/\H9 D=some (.lst ys):=fun{m9 H9} p9 k9=>
          ⟨fun z=>(k9.fr D z).elim nD fun y=>(by rw[hD3] at y;cases y),k9.out D _ nD hD3⟩
         cases ht:tst ct c t envb ah2 with
         |no=>rw[ht] at e3;cases e3
         | ok bb ah4=>
          rw[ht,b8] at e3;intro m5 H5 p5 k5 s5;obtain⟨nD5,hD5⟩:=ab p5 k5;have k25:=k3.trans k5
          cases bb with
          |false=>
           rw[aw (by decide)] at e3
           refine b5S ⟨x.1.length-(i+1),by omega,rfl,hlt,acc,ah4,m5,s5,p2.trans p5,k2.trans k25,nD5,hD5,rs2.mono p5 k25,?_⟩
           rw[e3];exact q3
          | true=>
           rw[av rfl] at e3;refine b5R ⟨envb,ah4,m5,⟨s5,er4.mono p5 k5⟩,?_⟩
           cases hv:ev ct c e envb ah4 with
           |no=>rw[hv] at e3;cases e3
           | ok d6 ah6=>
            rw[hv,b8] at e3
            split at e3
            · rename_i hz;intro m6 H6 v6 p6 k6 s6 r6;have k36:=k5.trans k6;obtain⟨nD6,hD6⟩:=ab (p5.trans p6) k36;have rs6:=rs2.mono (p5.trans p6) (k25.trans k6)
              have im6:KIm H6 (upd H6 D (.lst (ys++[v6]))):=fun b o io hbo=>by
               have:b≠D:=fun z=>by rw[z,hD6] at hbo;cases hbo;exact io
               rw[l8 this];exact hbo
              refine⟨hD6,by rw[rs6.len,←O4];exact hz,x.1.length-(i+1),by omega,rfl,hlt,acc++[d6],ah6,m6,?_,p2.trans (p5.trans p6),?_,nD6,d0,(rs6.snoc r6).mono' (Pre.refl m6) im6,?_⟩
              · refine⟨s6.len,s6.nd,fun n a cc hn hcc=>(s6.at hn hcc).mono' (Pre.refl m6) im6 ?_⟩
                exact l8 fun z=>nD6 (by rw[←z];exact aC hn)
              · have kall:=k2.trans (k25.trans k6);refine⟨fun b o io hb=>im6 b o io (kall.im b o io hb),fun b o nb hb=>?_,kall.fr⟩
                rw[l8 (u0 hb hD)];exact kall.out b o nb hb
              · rw[e3];exact q3
            · cases e3
     · cases e3
theorem b7a{t:T}(C:Cxt X Γ G ct c Ex N sc dfn)(hi:PI X tg iter (TIv Γ Ex (evi ct c it)))(S:CompScope X.env.scope scope own frees)(hj:frees.map some=js.map (X.N[·]?))
 (hg:∀C s₀ H₀ ex,PG (r8 X own frees scope C s₀ H₀ ex) tg (TGv Γ p)) (hc:∀C s₀ H₀ ex,a6A (r8 X own frees scope C s₀ H₀ ex) ifs (TTv Γ E0 (tst ct c t))) (he:∀C s₀ H₀ ex,PE (r8 X own frees scope C s₀ H₀ ex) elt (TEv Γ E0 (ev ct c e)))
 (hs:∀x,foldedSetIterable iter X.env x=pure x) (hp:(K4 p).all (fun i=>decide (i<own.length))=true):PE X (.ListComp elt [⟨tg,iter,ifs,0⟩] scope pos) (TEv Γ Ex (ev ct c (.comp p it own.length js t e))):=by
 exact PE.imp (a5R C.calm hi S hj hg hc he hs) (a6s hp)
theorem Cxt.comp(C:Cxt X Γ G ct c Ex N sc dfn)(S:CompScope sc scope own frees)(D:Addr)(s₀:Shared)(H₀:Hp)(ex:List Addr):Cxt (r8 X own frees scope D s₀ H₀ ex) Γ G ct c E0 (own++frees) (a7J sc scope) false where
 hN:=rfl
 nd:=S.nd
 sc:=by rw[←C.sc];rfl
 calm:=C.calm
 hu:=C.hu
 K:=C.K
 fnb:=fun h=>by cases h
 scal:=C.scal
 tups:=C.tups
 dicts:=C.dicts
 blt:=C.blt
 fn:=C.fn
 obj:=C.obj
 att:=C.att
theorem a8b:∀{l:List Str} {js:List Nat},b3l N l=some js->l.map some=js.map (N[·]?)
 |[],js,h=>by cases h;rfl
 |x::r,js,h=>by
  unfold b3l at h
  split at h
  · rename_i i is h1 h2;cases h;rw[map_cons,map_cons,a4Y h1,a8b h2]
  · cases h
theorem a0C(h:a7p op=some o):o.cmp=some op:=by cases op<;>cases h<;>rfl
theorem b4e{op:Operator}(h:b9d op=some o):o.bin=some op:=by cases op<;>cases h<;>rfl
theorem S9{b:Expr}(h:a1i b=true):behindInMarks op b=false:=by cases b<;>first|rfl|cases h
theorem a0R{e:Expr}{env:Env}(h:a1i e=true):∀x,foldedSetIterable e env x=pure x:=by intro x;cases e<;>first|rfl|cases h
theorem a2P{b:Expr}(h:a2n b=true):a2t b:=by intro o i;cases b<;>first|rfl|cases h
def a1z(Γ:Gm)(G:GT)(ct:CT)(c:CF)(n:Nat):Prop:=∀(X:Cx) (Ex:XK) (N:List Str) (sc:Scope) (dfn:Bool),Cxt X Γ G ct c Ex N sc dfn→
 (∀e x,cE G N sc n e=some x->PE X e (TEv Γ Ex (ev ct c x)))/\(∀es xs,cEs G N sc n es=some xs->PA X es (TAv Γ Ex (evs ct c xs))/\es.all o6=true)∧
 (∀e t,cT G N sc n e=some t->PT X e (TTv Γ Ex (tst ct c t))/\∀op l p,e=.BoolOp op l p->PW X e (TTv Γ Ex (tst ct c t)))/\(∀o x,cO G N sc n o=some x->PO X o (TOv Γ Ex (evo ct c x)))∧
 ∀tg e it,cI G N sc n tg e=some it->PI X tg e (TIv Γ Ex (evi ct c it))
theorem b1Q:a1z Γ G ct c 0:=fun X Ex N sc dfn C=>
 ⟨fun e x h=>absurd (show none=some x from h) (by simp),fun e x h=>absurd (show none=some x from h) (by simp),fun e x h=>absurd (show none=some x from h) (by simp),fun e x h=>absurd (show none=some x from h) (by simp),fun tg e x h=>absurd (show none=some x from h) (by simp)⟩
theorem b1M(ih:a1z Γ G ct c n)(C:Cxt X Γ G ct c Ex N sc dfn):∀es xs,cEs G N sc (n+1) es=some xs->PA X es (TAv Γ Ex (evs ct c xs))/\es.all o6=true:=by
 intro es xs h;obtain⟨i1,i2,_⟩:=ih X Ex N sc dfn C
 replace h:sEs G (cR G n) N sc es=some xs:=h
 unfold sEs at h
 split at h
 · cases h;exact⟨b9v,rfl⟩
 · split at h
   · rename_i hp
     split at h
     · rename_i x xs' h1 h2;cases h;obtain⟨g1,g2⟩:=i2 _ xs' h2;exact⟨b6Z (i1 _ x h1) g1 (d9 hp),by rw[all_cons,hp,g2];rfl⟩
     · cases h
   · cases h
theorem map_some{o:Option α}{f:α->β}{b:β}(h:o.map f=some b):∃a,o=some a/\f a=b:=Option.map_eq_some_iff.mp h
theorem b4a(ih:a1z Γ G ct c n)(C:Cxt X Γ G ct c Ex N sc dfn):∀o x,cO G N sc (n+1) o=some x->PO X o (TOv Γ Ex (evo ct c x)):=by
 intro o x h;obtain⟨i1,i2,_⟩:=ih X Ex N sc dfn C
 replace h:sO G (cR G n) N sc o=some x:=h
 unfold sO at h
 split at h
 · cases h;exact c0J
 · obtain⟨y,h1,rfl⟩:=map_some h;exact c0I (i1 _ y h1)
theorem b4b(ih:a1z Γ G ct c n)(C:Cxt X Γ G ct c Ex N sc dfn):∀tg e it,cI G N sc (n+1) tg e=some it->PI X tg e (TIv Γ Ex (evi ct c it)):=by
 intro tg e it h;obtain⟨i1,i2,_⟩:=ih X Ex N sc dfn C
 have seq:∀{e:Expr} {it:I},(cE G N sc n e).map I.seq=some it->PI X tg e (TIv Γ Ex (evi ct c it)):=by
  intro e it h;obtain⟨x,h1,rfl⟩:=map_some h;exact b9p C (i1 _ _ h1)
 replace h:sI G (cR G n) N sc tg e=some it:=h
 unfold sI at h
 split at h
 · split at h
   · rename_i hc;rw[ae,ae] at hc;obtain⟨⟨hg,hb⟩,hx⟩:=hc;have hx:=aq hx;subst hx;have hm:=C.blt _ hb
     split at h
     · split at h
       · rename_i hp;obtain⟨x,h1,rfl⟩:=map_some h;exact b6R C hg hm hp (i1 _ _ h1)
       · cases h
     · cases h
   · split at h
     · rename_i hc;rw[ae,ae] at hc;obtain⟨⟨hg,hb⟩,hx⟩:=hc;have hx:=aq hx;subst hx;have hm:=C.blt _ hb
       split at h
       · split at h
         · rename_i hp;obtain⟨x,h1,rfl⟩:=map_some h;exact b6V C hg hm hp (i1 _ _ h1)
         · cases h
       · cases h
     · split at h
       · rename_i hc;rw[ae,ae] at hc;obtain⟨⟨hg,hb⟩,hx⟩:=hc;have hx:=aq hx;subst hx;have hm:=C.blt _ hb
         split at h
         · split at h
           · rename_i hp;rw[ae] at hp
             split at h
             · rename_i h1 h2;cases h;exact b9m C hg hm hp.1 hp.2 (i1 _ _ h1) (i1 _ _ h2)
             · cases h
           · cases h
         · cases h
       · exact seq h
 · exact seq h
theorem b8s{a b:Expr}{x:E}(ih:a1z Γ G ct c n)(C:Cxt X Γ G ct c Ex N sc dfn)(h1:cE G N sc n a=some x){k:E->α}{y:α}(h:(match b with
       | .Name y _=>if G2 sc y then(match op,G.tups.lookup y with
         |.In,some ds=>some (k (.gin false x ds))
         |.NotIn,some ds=>some (k (.gin true x ds))
         |.In,none=>(G.dicts.lookup y).map fun kvs=>k (.gdin false x kvs)
         |.NotIn,none=>(G.dicts.lookup y).map fun kvs=>k (.gdin true x kvs)
         |_,_=>none) else none
       |_=>none)=some y):∃g,y=k g/\PE X (.Compare a [op] [b] pos) (TEv Γ Ex (ev ct c g))/\PT X (.Compare a [op] [b] pos) (TTv Γ Ex (tst ct c (.val g))):=by
 obtain⟨i1,i2,_⟩:=ih X Ex N sc dfn C
 split at h
 · split at h
   · rename_i hg
     split at h
     · rename_i ds hd;cases h;exact⟨_,rfl,b4u C (.inl ⟨rfl,rfl⟩) hg hd (i1 _ _ h1)⟩
     · rename_i ds hd;cases h;exact⟨_,rfl,b4u C (.inr ⟨rfl,rfl⟩) hg hd (i1 _ _ h1)⟩
     · obtain⟨kvs,hd,rfl⟩:=map_some h;exact⟨_,rfl,b1T C (.inl ⟨rfl,rfl⟩) hg hd (i1 _ _ h1)⟩
     · obtain⟨kvs,hd,rfl⟩:=map_some h;exact⟨_,rfl,b1T C (.inr ⟨rfl,rfl⟩) hg hd (i1 _ _ h1)⟩
     · cases h
   · cases h
 · cases h
theorem a7Z{b:Expr}(h:b5X b=true):∃p q,b=.Constant .none p q:=by
 cases b<;>first|(cases h;done)|skip
 rename_i k p q
 cases k<;>first|(cases h;done)|exact⟨_,_,rfl⟩
theorem b0A(h:a6R op=some true):op=.Is:=by cases op<;>first|rfl|(cases h;done)
theorem b0B(h:(a6R op).isSome=true)(h':a6R op=some true->False):op=.IsNot:=by cases op<;>first|rfl|(cases h;done)|exact(h' rfl).elim
theorem b2q{b:Expr}{lo hi:Option Expr}(h:b7y b=some (lo,hi)):∃p,b=.Slice lo hi none p:=by
 cases b<;>first|(cases h;done)|skip
 rename_i a c st p
 cases st<;>first|(cases h;done)|(cases h;exact⟨_,rfl⟩)
theorem b3Z (ih:a1z Γ G ct c n) (C:Cxt X Γ G ct c Ex N sc dfn):∀e t,cT G N sc (n+1) e=some t->PT X e (TTv Γ Ex (tst ct c t))/\∀op l p,e=.BoolOp op l p->PW X e (TTv Γ Ex (tst ct c t)):=by
 intro e t h;obtain⟨i1,i2,i3,_⟩:=ih X Ex N sc dfn C
 replace h:sT G (cR G n) N sc e=some t:=h
 have dflt:∀{e:Expr},sTd G (cR G n) N sc e=some t->PT X e (TTv Γ Ex (tst ct c t))/\∀op l p,e=.BoolOp op l p->PW X e (TTv Γ Ex (tst ct c t)):=by
  intro e h;unfold sTd at h
  split at h
  · rename_i hp;obtain⟨y,h1,rfl⟩:=map_some h;refine⟨b9n ?_ (i1 _ y h1),fun _ _ _ z=>?_⟩
    · intro whole
      cases e<;>first|rfl|(cases hp;done)
    · subst z;cases hp
  · cases h
 unfold sT at h
 split at h
 · split at h
   · obtain⟨y,h1,rfl⟩:=map_some h;exact⟨b9u (i3 _ y h1).1,fun _ _ _ z=>nomatch z⟩
   · exact dflt h
 · rename_i op l p
   split at h
   · exact dflt h
   · split at h
     · rename_i a _
       have g:PW X (.BoolOp op [a] p) (TTv Γ Ex (tst ct c t)):=by
        cases op
        · exact b2C (i3 _ t h).1
        · exact b4S (i3 _ t h).1
       exact⟨g.pt,fun _ _ _ _=>g⟩
     · split at h
       · split at h
         · rename_i h1 h2;cases h;have g:=b9I (i3 _ _ h1).1 ((i3 _ _ h2).2 _ _ _ rfl);exact⟨g.pt,fun _ _ _ _=>g⟩
         · cases h
       · split at h
         · rename_i h1 h2;cases h;have g:=b9t (i3 _ _ h1).1 ((i3 _ _ h2).2 _ _ _ rfl);exact⟨g.pt,fun _ _ _ _=>g⟩
         · cases h
 · split at h
   · cases h
   · split at h
     · cases h
     · split at h
       · split at h
         · unfold b7A at h
           split at h
           · rename_i hc;rw[ae] at hc;obtain⟨p,q,rfl⟩:=a7Z hc.1
             split at h
             · rename_i ho
               cases b0A ho
               obtain⟨y,h1,rfl⟩:=map_some h;exact⟨b6T (i1 _ y h1),fun _ _ _ z=>nomatch z⟩
             · rename_i ho
               cases b0B hc.2 ho
               obtain⟨y,h1,rfl⟩:=map_some h;exact⟨b4i (i1 _ y h1),fun _ _ _ z=>nomatch z⟩
           · split at h
             · rename_i hs
               split at h
               · rename_i h0 h1 h2;cases h;exact⟨b7b C.hu C.K (a0C h0) (i1 _ _ h1) (i1 _ _ h2) (S9 hs),fun _ _ _ z=>nomatch z⟩
               · rename_i h0 h1 h2;obtain⟨gg,rfl,_,g⟩:=b8s (k:=T.val) ih C h1 h;exact⟨g,fun _ _ _ z=>nomatch z⟩
               · cases h
             · cases h
         · cases h
       · split at h
         · cases h
         · split at h
           · rename_i ht;rw[ae] at ht;obtain⟨t1,t2⟩:=ht
             cases isEmpty_iff.mp t1
             cases isEmpty_iff.mp t2
             unfold b7z at h
             split at h
             · rename_i hs
               split at h
               · rename_i h0 h0' h1 h2 h3;cases h;exact⟨b7c C.hu C.K (a0C h0) (a0C h0') (i1 _ _ h1) (i1 _ _ h2) (i1 _ _ h3) (S9 hs),fun _ _ _ z=>nomatch z⟩
               · cases h
             · cases h
           · cases h
 · exact dflt h
end
variable{x:Str}
section
variable{X:Cx}{G:GT}{Ex:XK}{N:List Str}{sc:Scope}{dfn:Bool}
theorem a7v{l:List Expr}{a b:Expr}(h:b1Z l=some (a,b)):l=[a,b]:=by
 unfold b1Z at h
 split at h
 · cases h
 · split at h
   · cases h
   · split at h
     · rename_i e
       cases isEmpty_iff.mp e
       cases h;rfl
     · cases h
theorem a2k{l:List Expr}{a:Expr}(h:b0C l=some a):l=[a]:=by
 unfold b0C at h
 split at h
 · cases h
 · split at h
   · rename_i e
     cases isEmpty_iff.mp e
     cases h;rfl
   · cases h
theorem a2o{e:Expr}(h:a8R e=some x):∃p,e=.Name x p:=by
 unfold a8R at h
 split at h
 · cases h;exact⟨_,rfl⟩
 · cases h
theorem a9X{as:List Expr}{a:Expr}(h:a9Y as=some a):∃p q,as=[.Call (.Name "reversed" p) [a] [] q]:=by
 unfold a9Y at h
 split at h
 · rename_i h1
   cases a2k h1
   split at h
   · split at h
     · rename_i hc;rw[ae] at hc
       cases isEmpty_iff.mp hc.1
       obtain⟨p,rfl⟩:=a2o (aq hc.2)
       cases a2k h
       exact⟨_,_,rfl⟩
     · cases h
   · cases h
 · cases h
theorem a1Y{x:E}(ih:a1z Γ G ct c n)(C:Cxt X Γ G ct c Ex N sc dfn)(h:sLc G (cR G n) N sc elt tg iter ifs scope=some x):
 ∃p it js t y,x=.comp p it (t8 8 tg).length js t y/\PI X tg iter (TIv Γ Ex (evi ct c it))/\CompScope X.env.scope scope (t8 8 tg) (C8 scope)/\(C8 scope).map some=js.map (X.N[·]?)∧
  (∀D s₀ H₀ ex,PG (r8 X (t8 8 tg) (C8 scope) scope D s₀ H₀ ex) tg (TGv Γ p))/\(∀D s₀ H₀ ex,a6A (r8 X (t8 8 tg) (C8 scope) scope D s₀ H₀ ex) ifs (TTv Γ E0 (tst ct c t)))/\(∀D s₀ H₀ ex,PE (r8 X (t8 8 tg) (C8 scope) scope D s₀ H₀ ex) elt (TEv Γ E0 (ev ct c y)))∧
  (∀v,foldedSetIterable iter X.env v=pure v)/\(K4 p).all (fun i=>decide (i<(t8 8 tg).length))=true:=by
 obtain⟨i1,i2,i3,i4,i5⟩:=ih X Ex N sc dfn C;unfold sLc at h
 split at h
 · rename_i it hit
   split at h
   · rename_i js hjs
     split at h
     · rename_i hc;rw[ae] at hc
       have S0:CompScope sc scope (t8 8 tg) (C8 scope):=b8V hc.1
       have S:CompScope X.env.scope scope (t8 8 tg) (C8 scope):=by rw[C.sc];exact S0
       have hj:(C8 scope).map some=js.map (X.N[·]?):=by rw[C.hN];exact a8b hjs
       split at h
       · rename_i p y hp hy
         split at h
         · rename_i hall
           have pg:∀D s₀ H₀ ex,PG (r8 X (t8 8 tg) (C8 scope) scope D s₀ H₀ ex) tg (TGv Γ p):=fun D s₀ H₀ ex=>((b4t (C.comp S0 D s₀ H₀ ex) 8).1 tg p hp).1
           have pe:∀D s₀ H₀ ex,PE (r8 X (t8 8 tg) (C8 scope) scope D s₀ H₀ ex) elt (TEv Γ E0 (ev ct c y)):=fun D s₀ H₀ ex=>(ih _ _ _ _ _ (C.comp S0 D s₀ H₀ ex)).1 elt y hy
           split at h
           · cases h;refine⟨p,it,js,.yes,y,rfl,i5 _ _ _ hit,S,hj,pg,fun D s₀ H₀ ex=>?_,pe,a0R hc.2,hall⟩
             intro pins s σ H Q I q;refine b5b pins s σ H Q I ?_
             obtain⟨env,ah,m,rl,q⟩:=q;rw[tst] at q;exact q.ok rl.sim
           · obtain⟨z,h1,rfl⟩:=map_some h;exact⟨p,it,js,z,y,rfl,i5 _ _ _ hit,S,hj,pg,fun D s₀ H₀ ex=>b2J ((ih _ _ _ _ _ (C.comp S0 D s₀ H₀ ex)).2.2.1 _ z h1).1,pe,a0R hc.2,hall⟩
           · cases h
         · cases h
       · cases h
     · cases h
   · cases h
 · cases h
theorem b4c (ih:a1z Γ G ct c n) (C:Cxt X Γ G ct c Ex N sc dfn):∀e x,cE G N sc (n+1) e=some x->PE X e (TEv Γ Ex (ev ct c x)):=by
 intro e x h;obtain⟨i1,i2,i3,i4,i5⟩:=ih X Ex N sc dfn C
 replace h:sE G (cR G n) N sc e=some x:=h
 unfold sE at h
 split at h
 · unfold b7D at h
   split at h
   · cases h;exact a_k (dd:=.int _) b0u (fun _ _=>rfl) c ct
   · cases h;exact a_k (dd:=.str _) b0r (fun _ _=>rfl) c ct
   · cases h;exact a_k (dd:=.bl _) b7S (fun _ _=>rfl) c ct
   · cases h;exact a_k (dd:=.non) b5m (fun _ _=>rfl) c ct
   · cases h
 · -- Name
   split at h
   · rename_i i hs;cases h;unfold slot at hs
     split at hs
     · rename_i hv;rw[ae,ae] at hv;exact a_v (by rw[C.hN];exact a4Y hs) (C.vis hv.1.1) (beq_eq_false_iff_ne.mpr (aq hv.1.2)) (beq_eq_false_iff_ne.mpr (aq hv.2)) c ct
     · cases hs
   · split at h
     · rename_i hg;obtain⟨d,h1,rfl⟩:=map_some h;obtain⟨u,v,s1,s2,s3⟩:=C.scal _ d h1;exact a_k (a2i (C.gl hg) s1 s2 (a0a hg).2.1) s3 c ct
     · cases h
 · split at h
   · rename_i h0 h1 h2;cases h;exact b9G (b4e h0) (i1 _ _ h1) (i1 _ _ h2)
   · cases h
 · unfold sUn at h
   split at h
   · obtain⟨y,h1,rfl⟩:=map_some h;exact b9w (i1 _ y h1)
   · obtain⟨y,h1,rfl⟩:=map_some h;exact c0K (i1 _ y h1)
   · cases h
 · unfold sBo at h
   split at h
   · cases h
   · split at h
     · exact b5k (i1 _ x h)
     · split at h
       · split at h
         · rename_i h1 h2;cases h;exact c0P (i1 _ _ h1) (i1 _ _ h2)
         · cases h
       · split at h
         · rename_i h1 h2;cases h;exact b9s (i1 _ _ h1) (i1 _ _ h2)
         · cases h
 · split at h
   · cases h
   · split at h
     · cases h
     · split at h
       · split at h
         · unfold b7F at h
           split at h
           · rename_i hc;rw[ae] at hc;obtain⟨p,q,rfl⟩:=a7Z hc.1
             split at h
             · rename_i ho
               cases b0A ho
               obtain⟨y,h1,rfl⟩:=map_some h;exact b9C (i1 _ y h1)
             · rename_i ho
               cases b0B hc.2 ho
               obtain⟨y,h1,rfl⟩:=map_some h;exact b6S (i1 _ y h1)
           · split at h
             · rename_i hs
               split at h
               · rename_i h0 h1 h2;cases h;exact b9E C.hu C.K (a0C h0) (i1 _ _ h1) (i1 _ _ h2) (S9 hs)
               · rename_i h0 h1 h2;obtain⟨gg,rfl,g,_⟩:=b8s (k:=fun g=>g) ih C h1 h
                 exact g
               · cases h
             · cases h
         · cases h
       · split at h
         · cases h
         · split at h
           · rename_i ht;rw[ae] at ht;obtain⟨t1,t2⟩:=ht
             cases isEmpty_iff.mp t1
             cases isEmpty_iff.mp t2
             unfold b7E at h
             split at h
             · rename_i hs
               split at h
               · rename_i h0 h0' h1 h2 h3;cases h;exact b9F C.hu C.K (a0C h0) (a0C h0') (i1 _ _ h1) (i1 _ _ h2) (i1 _ _ h3) (S9 hs)
               · cases h
             · cases h
           · cases h
 · unfold sSl at h
   split at h
   · rename_i hs0;obtain⟨q,rfl⟩:=b2q hs0
     split at h
     · rename_i h1 h2 h3;cases h;exact c0H C.K (i1 _ _ h1) (i4 _ _ h2) (i4 _ _ h3)
     · cases h
   · split at h
     · rename_i hs
       split at h
       · rename_i h1 h2;cases h;exact c0N C.hu C.K (i1 _ _ h1) (i1 _ _ h2) (a2P hs)
       · rename_i h1 h2
         split at h
         · split at h
           · rename_i hg;obtain⟨kvs,hd,rfl⟩:=map_some h;exact b6U C hg hd (i1 _ _ h2) (a2P hs)
           · cases h
         · cases h
       · cases h
     · cases h
 · split at h
   · rename_i hb;rw[ae] at hb;obtain⟨y,h1,rfl⟩:=map_some h;exact b9D C hb.1 hb.2 (i1 _ y h1)
   · cases h
 · obtain⟨y,h1,rfl⟩:=map_some h;exact b9x (i2 _ y h1).1
 · obtain⟨y,h1,rfl⟩:=map_some h;exact b9o (i2 _ y h1).1
 · split at h
   · split at h
     · cases h;exact b6W
     · cases h
   · obtain⟨kvs,h1,h⟩:=Option.bind_eq_some_iff.mp h
     split at h
     · rename_i hk;cases h;exact b6X (cons_ne_nil _ _) h1 hk
     · cases h
 · rename_i f as ks cpos
   split at h
   · rename_i hk0
     cases isEmpty_iff.mp hk0
     split at h
     · rename_i nm np0;unfold sCn at h
       split at h
       · rename_i hg
         split at h
         · rename_i f np hf
           split at h
           · rename_i hl;obtain⟨y,h1,rfl⟩:=map_some h;obtain⟨g1,g2⟩:=i2 _ y h1;rw[ae] at hl;have hne:=aq hl.2
             cases as with
             |nil=>exact absurd rfl hne
             |cons a r=>exact b7d C hf hg g2 g1
           · cases h
         · split at h
           · rename_i k hk
             split at h
             · rename_i he;cases h;subst he;exact c0M C hk hg
             · cases h
           · split at h
             · rename_i hb;have hm:=C.blt _ hb
               split at h
               · rename_i hx;subst hx
                 split at h
                 · rename_i h2
                   cases a7v h2
                   split at h
                   · rename_i hp
                     split at h
                     · rename_i hq;rw[ae,ae] at hq;obtain⟨⟨q2,q3⟩,q4⟩:=hq;obtain⟨pp,rfl⟩:=a2o (aq q2);obtain⟨y,h1,rfl⟩:=map_some h;exact b9B C hg hm q3 (C.blt _ q4) hp (i1 _ y h1)
                     · split at h
                       · rename_i hq;rw[ae,ae] at hq;obtain⟨⟨q2,q3⟩,q4⟩:=hq;obtain⟨pp,rfl⟩:=a2o (aq q2);obtain⟨y,h1,rfl⟩:=map_some h;exact b9A C hg hm q3 (C.blt _ q4) hp (i1 _ y h1)
                       · split at h
                         · rename_i hq;rw[ae,ae] at hq;obtain⟨⟨q2,q3⟩,q4⟩:=hq;obtain⟨pp,rfl⟩:=a2o (aq q2);obtain⟨y,h1,rfl⟩:=map_some h;exact b9z C hg hm q3 (C.blt _ q4) hp (i1 _ y h1)
                         · cases h
                   · cases h
                 · cases h
               · split at h
                 · rename_i hq
                   split at hq
                   · rename_i hc;rw[ae,ae] at hc;obtain⟨⟨c1,c2⟩,c3⟩:=hc
                     cases aq c1
                     obtain⟨pp,qq,rfl⟩:=a9X hq
                     split at h
                     · rename_i hp;obtain⟨y,h1,rfl⟩:=map_some h;exact b9r C hg hm c2 (C.blt _ c3) hp (i1 _ y h1)
                     · cases h
                   · cases hq
                 · split at h
                   · rename_i b hbi
                     split at h
                     · rename_i hne;obtain⟨y,h1,rfl⟩:=map_some h;obtain⟨g1,g2⟩:=i2 _ y h1
                       cases as with
                       |nil=>exact absurd rfl hne
                       |cons a r=>exact c0O C hbi hg hm g2 g1
                     · cases h
                   · cases h
             · cases h
       · cases h
     · rename_i o mm apos;unfold sCa at h
       split at h
       · rename_i hc;rw[ae,ae] at hc;obtain⟨⟨c1,c2⟩,c3⟩:=hc
         cases aq c3
         unfold b7C at h
         split at h
         · rename_i h2
           cases a7v h2
           split at h
           · rename_i hp;rw[ae] at hp
             split at h
             · rename_i h3 h4 h5;cases h;exact b6Y C c1 c2 hp.1 hp.2 (i1 _ _ h3) (i1 _ _ h4) (i1 _ _ h5)
             · cases h
           · cases h
         · cases h
       split at h
       · rename_i hc;rw[ae,ae] at hc;obtain⟨⟨c1,c2⟩,c3⟩:=hc
         cases aq c3
         split at h
         · rename_i he
           cases isEmpty_iff.mp he
           obtain⟨y,h1,rfl⟩:=map_some h;exact b9q C c1 c2 (i1 _ _ h1)
         · cases h
       split at h
       · rename_i hc;rw[ae,ae] at hc;obtain⟨⟨c1,c2⟩,c3⟩:=hc
         cases aq c3
         unfold sLm at h
         split at h
         · rename_i h2
           cases a2k h2
           split at h
           · rename_i hp
             split at h
             · rename_i h3 h4;cases h;exact b9y (.inr ⟨rfl,rfl⟩) C c1 c2 hp (i1 _ _ h3) (i1 _ _ h4)
             · cases h
           · cases h
         · cases h
       split at h
       · rename_i hc;rw[ae,ae] at hc;obtain⟨⟨c1,c2⟩,c3⟩:=hc
         cases aq c3
         unfold sLm at h
         split at h
         · rename_i h2
           cases a2k h2
           split at h
           · rename_i hp
             split at h
             · rename_i h3 h4;cases h;exact b9y (.inl ⟨rfl,rfl⟩) C c1 c2 hp (i1 _ _ h3) (i1 _ _ h4)
             · cases h
           · cases h
         · cases h
       split at h
       · rename_i hc;rw[ae,ae,ae] at hc;obtain⟨⟨⟨c1,c2⟩,c3⟩,c4⟩:=hc;have c3:=aq c3;have c4:=aq c4
         split at h
         · rename_i h0 h1 h2;cases h;obtain⟨g1,g2⟩:=i2 _ _ h2
           cases as with
           |nil=>exact absurd rfl c4
           |cons a r=>exact c0L C h0 c1 c2 c3 g2 (i1 _ _ h1) g1
         · cases h
       · cases h
     · cases h
   · cases h
 · split at h
   · cases h
   · rename_i g t
     split at h
     · rename_i hg0;rw[ae] at hg0;obtain⟨tg,iter,ifs,a⟩:=g
       cases isEmpty_iff.mp hg0.1
       have ha:a=0:=aq hg0.2
       subst ha;obtain⟨p,it,js,t,y,rfl,j1,j2,j3,j4,j5,j6,j7,j8⟩:=a1Y ih C h;exact b7a C j1 j2 j3 j4 j5 j6 j7 j8
     · cases h
 · cases h
theorem a1a:∀n,a1z Γ G ct c n
 |0=>b1Q
 |n+1=>fun X Ex N sc dfn C=>⟨b4c (a1a n) C,b1M (a1a n) C,b3Z (a1a n) C,b4a (a1a n) C,b4b (a1a n) C⟩
end
def SQ(D:Ends):Out->AH->List Addr->Hp->Prop:=fun o _ m1 H1=>match o with
 |.nx env'=>∀σ',EnvRel m1 H1 env' σ'->D.nx σ' H1
 |.rt d=>∀v,Rp m1 H1 d v->D.rt v H1
noncomputable def TSv(Γ:Gm)(E:XK)(f:o9->AH->R Out):TS:=fun D σ H=>∃env ah m,Rel Γ env ah σ H m/\j9 Γ E m H (f env ah) (SQ D)
variable{st:Stmt}{tt:Expr}
section
variable{X:Cx}{G:GT}{Ex:XK}{N:List Str}{sc:Scope}{e a b:Expr}{p':Pos}{x y z:E}
theorem a4t{e:Expr}{t:Option Expr}{l:Nat}{env:Env}(h:Z2 e=true):swapsWith e t l env=pure false:=by cases e<;>first|rfl|cases h
theorem b9h{n:Str}(C:Cxt X Γ G ct c Ex N sc true)(hs:a2B true N sc n=some i)(hw:Z2 e=true)(he:PE X e (TEv Γ Ex (ev ct c x))):PS X (.Assign [.Name n p'] e pos) (TSv Γ Ex (ex ct c (.set i x))):=by
 obtain⟨h1,h2,h3⟩:=a2A C hs;refine PS.imp (b0k (by rw[C.hN];exact C.nd) h1 h2 he (a4t hw) h3) ?_
 rintro D σ H ⟨env,ah,m,rl,q⟩;rw[ex] at q;refine⟨env,ah,m,rl,j9.first rl q fun d1 ah1 m1 H1 v1 p1 k1 rl1 r1 q1=>?_⟩
 exact q1.ok rl1.sim _ (rl1.env.set r1)
theorem b6N{n:Str}{k:Nat}{cpos:Pos}(C:Cxt X Γ G ct c Ex N sc true)(hs:a2B true N sc n=some i)(h:cE G N sc (k+1) (.ListComp elt [⟨tg,iter,ifs,0⟩] scope cpos)=some x):PS X (.Assign [.Name n p'] (.ListComp elt [⟨tg,iter,ifs,0⟩] scope cpos) pos) (TSv Γ Ex (ex ct c (.set i x))):=by
 obtain⟨h1,h2,h3⟩:=a2A C hs;obtain⟨p,it,js,t,y,rfl,j1,j2,j3,j4,j5,j6,j7,j8⟩:=a1Y (a1a k) C (show sLc G (cR G k) N sc elt tg iter ifs scope=some x from h);refine PS.imp (b2F C.calm j1 j2 j3 j4 j5 j6 j7 (by rw[C.hN];exact C.nd) h1 h2 h3) ?_
 rintro D σ H ⟨env,ah,m,rl,q⟩;rw[ex] at q;refine a6s j8 σ H _ ⟨env,ah,m,rl,j9.first rl q fun d1 ah1 m1 H1 v1 p1 k1 rl1 r1 q1=>?_⟩
 exact q1.ok rl1.sim _ (rl1.env.set r1)
theorem c0F(hw:Z2 e=true)(he:PE X e (TEv Γ Ex (ev ct c x))):PS X (.Expr e pos) (TSv Γ Ex (ex ct c (.ex x))):=by
 refine PS.imp (b2E he (a4t hw)) ?_
 rintro D σ H ⟨env,ah,m,rl,q⟩;rw[ex] at q;refine⟨env,ah,m,rl,j9.first rl q fun d1 ah1 m1 H1 v1 p1 k1 rl1 r1 q1=>?_⟩
 exact q1.ok rl1.sim _ rl1.env
theorem b9i(he:PE X e (TEv Γ Ex (ev ct c x))):PS X (.Return (some e) pos) (TSv Γ Ex (ex ct c (.ret x))):=by
 refine PS.imp (b4W he) ?_
 rintro D σ H ⟨env,ah,m,rl,q⟩;rw[ex] at q;refine⟨env,ah,m,rl,j9.first rl q fun d1 ah1 m1 H1 v1 p1 k1 rl1 r1 q1=>?_⟩
 exact q1.ok rl1.sim _ r1
theorem b9l:PS X st (TSv Γ Ex (ex ct c .bad)):=by
 rintro pins s σ H D I ⟨env,ah,m,rl,q⟩;rw[ex] at q;exact q.elim
variable{t:T}{as bs:List Stmt}{sa sb:Ss}
theorem b9j:PSs X [] (TSv Γ Ex (exs ct c .nil)):=by
 refine PSs.imp b2D ?_
 rintro D σ H ⟨env,ah,m,rl,q⟩;rw[exs] at q;exact q.ok rl.sim σ rl.env
theorem b6P{s:S}(h1:PS X st (TSv Γ Ex (ex ct c s)))(h2:PSs X as (TSv Γ Ex (exs ct c sa))):PSs X (st::as) (TSv Γ Ex (exs ct c (.cons s sa))):=by
 refine PSs.imp (b0i h1 h2) ?_
 rintro D σ H ⟨env,ah,m,rl,q⟩;rw[exs] at q;refine⟨env,ah,m,rl,q.bind.mp fun o ah1 m1 H1 p1 k1 s1 q1=>?_⟩
 cases o with
 |nx env'=>exact fun σ' er=>⟨env',ah1,m1,⟨s1,er⟩,q1⟩
 |rt d=>exact q1.ok s1
theorem c0E(hc:PT X tt (TTv Γ Ex (tst ct c t)))(ha:PSs X as (TSv Γ Ex (exs ct c sa)))(hb:PSs X bs (TSv Γ Ex (exs ct c sb))):PS X (.If tt as bs pos) (TSv Γ Ex (ex ct c (.iff t sa sb))):=by
 refine PS.imp (b7O hc ha hb) ?_
 rintro D σ H ⟨env,ah,m,rl,q⟩;rw[ex] at q;refine⟨env,ah,m,rl,q.bind.mp fun k ah1 m1 H1 p1 k1 s1 q1=>?_⟩
 cases k with
 |true=>exact b5R ⟨env,ah1,m1,rl.on p1 k1 s1,q1⟩
 |false=>exact b5S ⟨env,ah1,m1,rl.on p1 k1 s1,q1⟩
theorem b9k{it:Expr}{ii:I}(C:Cxt X Γ G ct c Ex N sc true)(own:PassesOwn (model X.prog X.w) X.A X.env X.xe)(hi:PI X tg it (TIv Γ Ex (evi ct c ii)))(hg:PG X tg (TGv Γ p))(hb:PSs X bs (TSv Γ Ex (exs ct c sb)))(hs:a1i it=true):
 PS X (.For tg it bs [] pos) (TSv Γ Ex (ex ct c (.for p ii sb))):=by
 refine PS.imp (b4X own C.calm hi hg hb (a0R hs)) ?_
 rintro D σ H ⟨env,ah,m,rl,q⟩;rw[ex] at q;refine⟨env,ah,m,rl,q.bind.mp fun x ah1 m1 H1 p1 k1 s1 q1=>fun _ J hJ=>?_⟩
 refine⟨fun i mm σ H2=>mm=x.1.length-i/\i<=x.1.length/\∃env ah2 m2,Rel Γ env ah2 σ H2 m2/\Pre m1 m2/\Keep m1 m2 H1 H2/\j9 Γ Ex m2 H2 (K6 x.2 p (exs ct c sb) (x.1.drop i) env ah2) (SQ D),?_,?_⟩
 · exact⟨_,rfl,Nat.zero_le _,env,ah1,m1,rl.on p1 k1 s1,Pre.refl _,Keep.refl _ _,q1⟩
 · rintro i mm σ H2 ⟨hmm,hil,env,ah2,m2,rl2,p2,k2,q2⟩
   by_cases hend:i=x.1.length
   · refine .inl ?_
     rw[hend,drop_length] at q2;unfold K6 at q2
     split at q2
     · rename_i hgk;exact⟨(hJ i ah2 m2 H2 p2 k2 rl2.sim hgk).1 hend,q2.ok rl2.sim σ rl2.env⟩
     · exact q2.elim
   · refine .inr ?_
     have hlt:i<x.1.length:=Nat.lt_of_le_of_ne hil hend
     have hdi:x.1[i]? =some x.1[i]:=af hlt
     rw[drop_eq_getElem_cons hlt] at q2;generalize x.1[i]=dd at q2 hdi;unfold K6 at q2
     split at q2
     · rename_i hgk;obtain⟨go,yl⟩:=(hJ i ah2 m2 H2 p2 k2 rl2.sim hgk).2 dd hdi;refine⟨go,fun σ' H'=>∃m',m'<mm/\(m'=x.1.length-(i+1)/\i+1<=x.1.length/\∃env ah2 m2,Rel Γ env ah2 σ' H' m2/\Pre m1 m2/\Keep m1 m2 H1 H'/\j9 Γ Ex m2 H' (K6 x.2 p (exs ct c sb) (x.1.drop (i+1)) env ah2) (SQ D)),fun σ' H' h=>h,fun v H3 hy=>?_⟩
       obtain⟨k3,s3,r3⟩:=yl v H3 hy
       split at q2
       · exact q2.elim
       · rename_i envb hb;refine⟨env,dd,m2,envb,rl2.env.mono (Pre.refl m2) k3,r3,hb,fun σ4 er4 l4 s4=>⟨envb,ah2,m2,⟨s3,er4⟩,?_⟩⟩
         refine(q2.later (Pre.refl m2) k3).bind.mp fun o ah5 m5 H5 p5 k5 s5 q5=>?_
         cases o with
         |nx env'=>exact fun σ' er'=>⟨_,by omega,rfl,hlt,env',ah5,m5,⟨s5,er'⟩,p2.trans p5,k2.trans (k3.trans k5),q5⟩
         |rt d=>exact q5.ok s5
     · exact q2.elim
theorem b9e(own:PassesOwn (model X.prog X.w) X.A X.env X.xe)(hc:PT X tt (TTv Γ Ex (tst ct c t)))(hb:PSs X bs (TSv Γ Ex (exs ct c sb))):PS X (.While tt bs [] pos) (TSv Γ Ex (ex ct c (.whl t sb))):=by
 refine PS.imp (b0j own hc hb) ?_
 rintro D σ H ⟨env,ah,m,rl,q⟩;rw[ex] at q;refine⟨fun n σ H2=>∃env ah2 m2,Rel Γ env ah2 σ H2 m2/\j9 Γ Ex m2 H2 (a3v (tst ct c t) (exs ct c sb) n env ah2) (SQ D),⟨_,env,ah,m,rl,q⟩,?_⟩
 rintro n σ H2 ⟨env,ah2,m2,rl2,q2⟩
 cases n with
 |zero=>exact q2.elim
 | succ n=>
  unfold a3v at q2;refine⟨env,ah2,m2,rl2,q2.bind.mp fun k ah3 m3 H3 p3 k3 s3 q3=>?_⟩
  have rl3:=rl2.on p3 k3 s3
  cases k with
  |false=>exact b5S (j9.ok q3 s3 σ rl3.env)
  |true=>
   refine b5R ⟨fun σ' H'=>∃m',m'<n+1/\∃env ah2 m2,Rel Γ env ah2 σ' H' m2/\j9 Γ Ex m2 H' (a3v (tst ct c t) (exs ct c sb) m' env ah2) (SQ D),fun σ' H' h=>h,env,ah3,m3,rl3,?_⟩
   refine j9.mp (j9.bind q3) fun o ah5 m5 H5 p5 k5 s5 q5=>?_
   cases o with
   |nx env'=>exact fun σ' er'=>⟨n,aL n,env',ah5,m5,⟨s5,er'⟩,q5⟩
   |rt d=>exact q5.ok s5
theorem b9f{o k:Expr}(C:Cxt X Γ G ct c Ex N sc true)(ho:PE X o (TEv Γ Ex (ev ct c x)))(hk:PE X k (TEv Γ Ex (ev ct c y)))(hv:PE X e (TEv Γ Ex (ev ct c z)))(hns:a2n k=true):PS X (.Assign [.Subscript o k p'] e pos) (TSv Γ Ex (ex ct c (.six x y z))):=by
 have hg:PG X (.Subscript o k p') (b8u (TEv Γ Ex (ev ct c x)) (TEv Γ Ex (ev ct c y)) _):=b5g ho hk (b9Z (Γ:=Γ) (E:=Ex) C.hu) (by intro v;cases k<;>first|rfl|cases hns)
 refine PS.imp (b4Z hv hg (show swapsWith e (some (.Subscript o k p')) pos.line X.env=pure false by cases e<;>rfl) (by cases e<;>rfl) rfl) ?_
 rintro D σ H ⟨env,ah,m,rl,q⟩;rw[ex] at q;refine⟨env,ah,m,rl,j9.first rl q fun d1 ah1 m1 H1 v1 p1 k1 rl1 r1 q1=>?_⟩
 refine⟨env,ah1,m1,rl1,j9.first rl1 q1 fun d2 ah2 m2 H2 v2 p2 k2 rl2 r2 q2=>?_⟩
 refine⟨env,ah2,m2,rl2,j9.first rl2 q2 fun d3 ah3 m3 H3 v3 p3 k3 rl3 r3 q3=>?_⟩
 refine⟨d2,d3,d1,ah3,m3,rl3.sim,r2.mono p3 k3,r3,r1.mono (p2.trans p3) (k2.trans k3),q3.bind.mp fun _ ah4 m4 H4 p4 k4 s4 q4=>?_⟩
 exact q4.ok s4 σ (rl3.env.mono p4 k4)
theorem b9g{o:Expr}{f:Str}(C:Cxt X Γ G ct c Ex N sc true)(ho:PE X o (TEv Γ Ex (ev ct c x)))(hv:PE X e (TEv Γ Ex (ev ct c z)))(hw:Z2 e=true)(hf:G.atts.contains f=true):PS X (.Assign [.Attribute o f p'] e pos) (TSv Γ Ex (ex ct c (.sfl x f z))):=by
 refine PS.imp (b4Y ho hv (a4t hw)) ?_
 rintro D σ H ⟨env,ah,m,rl,q⟩;rw[ex] at q;refine⟨env,ah,m,rl,j9.first rl q fun d1 ah1 m1 H1 v1 p1 k1 rl1 r1 q1=>?_⟩
 refine⟨env,ah1,m1,rl1,j9.first rl1 q1 fun d2 ah2 m2 H2 v2 p2 k2 rl2 r2 q2=>?_⟩
 unfold a4z at q2
 split at q2
 · split at q2
   · rename_i k fs e2
     split at q2
     · rename_i hl;obtain⟨ad,rfl,hm⟩:=r2;obtain⟨dx,gs,g1,g2,g3⟩:=rl2.sim.at hm e2;obtain⟨a1,a2⟩:=C.att k g3
       have kp:Keep m2 m2 H2 (upd H2 ad (.ins (Γ.cA k) dx (W6 f v1 gs))):=Keep.put hm g1 fun z=>z
       refine⟨ad,Γ.cA k,dx,gs,rfl,g1,a1,a2 f hf,by rw[←Paired.length g2];exact hl,?_⟩
       have s3:=rl2.sim.write (c:=.obj k (a3P f d1 fs)) hm g1 (fun z=>z) ⟨dx,_,d0,(Fl.put (r1.mono p2 k2) g2).mono (Pre.refl m2) kp.im,g3⟩
       exact j9.ok (j9.later q2 (Pre.refl m2) kp) s3 σ (rl2.env.mono (Pre.refl m2) kp)
     · exact q2.elim
   · exact q2.elim
 · exact q2.elim
end
structure Cxs(X:Cx)(Γ:Gm)(G:GT)(ct:CT)(c:CF)(Ex:XK)(N:List Str)(sc1:Scope):Prop extends Cxt X Γ G ct c Ex N sc1 true where
 own:PassesOwn (model X.prog X.w) X.A X.env X.xe
section
variable{X:Cx}{G:GT}{Ex:XK}{N:List Str}{sc:Scope}
theorem b3h{k:Nat}{gens:List Comprehension}{y:E}(h:cE G N sc (k+1) (.ListComp elt gens scope pos)=some y):∃tg iter ifs,gens=[⟨tg,iter,ifs,0⟩]:=by
 cases gens with
 |nil=>exact absurd (show none=some y from h) (by simp)
 |cons g t=>
  replace h:(if t.isEmpty&&decide (g.is_async=0) then sLc G (cR G k) N sc elt g.target g.iter g.ifs scope else none)=some y:=h
  split at h
  · rename_i hg;rw[ae] at hg;obtain⟨tg,iter,ifs,a⟩:=g
    cases isEmpty_iff.mp hg.1
    have ha:a=0:=aq hg.2
    subst ha;exact⟨_,_,_,rfl⟩
  · cases h
theorem b7B (C:Cxs X Γ G ct c Ex N sc) {r:List Stmt->Option Ss} (hr:∀l ss,r l=some ss->PSs X l (TSv Γ Ex (exs ct c ss))):∀st s,sS G N sc r st=some s->PS X st (TSv Γ Ex (ex ct c s)):=by
 intro st s h;obtain⟨i1,i2,i3,i4,i5⟩:=a1a 40 X Ex N sc true C.toCxt;unfold sS at h
 split at h
 · rename_i tgs e pe
   split at h
   · cases h
   · split at h
     · rename_i hu
       cases isEmpty_iff.mp hu
       unfold sAs at h
       split at h
       · rename_i x px
         split at h
         · rename_i i y h1 h2
           split at h
           · rename_i hw;cases h
             by_cases hn:Z2 e=true
             · exact b9h C.toCxt h1 hn (i1 _ _ h2)
             · rw[aZ] at hw
               have hl:b8g e=true:=hw.resolve_left hn
               cases e<;>first|(cases hl;done)|skip
               obtain⟨tg,iter,ifs,rfl⟩:=b3h h2;exact b6N C.toCxt h1 h2
           · cases h
         · cases h
       · split at h
         · rename_i h1 h2 h3
           split at h
           · rename_i hw;cases h;exact b9f C.toCxt (i1 _ _ h1) (i1 _ _ h2) (i1 _ _ h3) hw
           · cases h
         · cases h
       · split at h
         · rename_i h1 h2
           split at h
           · rename_i hw;cases h;rw[ae] at hw;exact b9g C.toCxt (i1 _ _ h1) (i1 _ _ h2) hw.1 hw.2
           · cases h
         · cases h
       · cases h
     · cases h
 · split at h
   · rename_i hw;obtain⟨y,h1,rfl⟩:=map_some h;exact c0F hw (i1 _ _ h1)
   · cases h
 · split at h
   · obtain⟨y,h1,rfl⟩:=map_some h;exact b9i (i1 _ _ h1)
   · cases h
 · split at h
   · rename_i h1 h2 h3;cases h;exact c0E (i3 _ _ h1).1 (hr _ _ h2) (hr _ _ h3)
   · cases h
 · split at h
   · rename_i hel
     cases isEmpty_iff.mp hel
     split at h
     · rename_i h1 h2 h3
       split at h
       · rename_i hs;cases h;exact b9k C.toCxt C.own (i5 _ _ _ h2) ((b4t C.toCxt 8).1 _ _ h1).1 (hr _ _ h3) hs
       · cases h
     · cases h
   · cases h
 · split at h
   · rename_i hel
     cases isEmpty_iff.mp hel
     split at h
     · rename_i h1 h2;cases h;exact b9e C.own (i3 _ _ h1).1 (hr _ _ h2)
     · cases h
   · cases h
 · cases h;exact b9l
 · cases h
theorem a9J(C:Cxs X Γ G ct c Ex N sc){r:List Stmt->Option Ss}(hr:∀l ss,r l=some ss->PSs X l (TSv Γ Ex (exs ct c ss))):∀l ss,sSs G N sc r l=some ss->PSs X l (TSv Γ Ex (exs ct c ss))
 |[],ss,h=>by unfold sSs at h;cases h;exact b9j
 |st::l,ss,h=>by
  unfold sSs at h
  split at h
  · rename_i h1 h2;cases h;exact b6P (b7B C hr _ _ h1) (a9J C hr l _ h2)
  · cases h
theorem b1L(C:Cxs X Γ G ct c Ex N sc):∀n l ss,cSs G N sc n l=some ss->PSs X l (TSv Γ Ex (exs ct c ss))
 |0,l,ss,h=>absurd (show none=some ss from h) (by simp)
 |n+1,l,ss,h=>a9J C (b1L C n) l ss h
end
structure RowOk(K:PySem.W.Frag)(G:GT)(F:Nat->Option Fn)(x qual:Str)(id np0:Nat)(f:Addr)(fd:FuncData)(st:Stmt)(N ps:List Str):Prop where
 fn:Fun K x qual st f fd
 sc:FnScope N ps (t9 st)
 bd:U1 K fd ps []
 np:ps.length=np0
 F:∃fn,F id=some fn/\fn.np=np0/\fn.ns=N.length/\cSs G N (t9 st) 20 (M8 st)=some fn.body
structure Stat(P:Program)(w:World)(Γ:Gm)(G:GT)(ct:CT)(F:Nat->Option Fn)(mg:Str->Option Value):Prop where
 scal:∀x d,G.scal.lookup x=some d->∃u v,mg x=some u/\n0 v u/\∀m H,Rp m H d v
 tups:∀x ds,G.tups.lookup x=some ds->∃a vs,mg x=some (.ref a)/\(∀H,SqT Γ.K H a vs)/\∀m H,Rps m H ds vs
 dicts:∀x kvs,G.dicts.lookup x=some kvs->∃a gs,mg x=some (.ref a)/\a9p P w Γ.K a gs/\∀m H,DK m H kvs gs
 blt:∀x,G.blt.contains x=true->mg x=none
 fn:∀x id np,G.fn.lookup x=some (id,np)->∃f fd st N ps,mg x=some (.ref f)/\RowOk Γ.K G F x x id np f fd st N ps
 obj:∀x k,G.obj.lookup x=some k->k∈Γ.ob/\mg x=some (.ref (Γ.cA k))/\∃f fd st N ps qual,Mk Γ.K (Γ.cA k) f/\RowOk Γ.K G F "__init__" qual (ct.init k) 1 f fd st N ps
 att:∀k,k∈Γ.ob->Cls Γ.K (Γ.cA k)/\∀f,G.atts.contains f=true->a0o Γ.K (Γ.cA k) f
variable{ds:List D}{np:Nat}{m':List Addr}{H':Hp}{id:Nat}
section
variable{P:Program}{w:World}{G:GT}{F:Nat->Option Fn}{mg:Str->Option Value}
theorem a9i{N:List Str}{ns:Nat}(rs:Rps m H ds vs)(hn:ns=N.length)(hd:ds.length=np):EnvRel m H (ds.map some++List.replicate (ns-np) none) (L2.a1c N vs):=by
 unfold L2.a1c;refine⟨by simp[rs.len,hn,hd],fun i d e=>?_⟩
 by_cases hi:i<ds.length
 · rw[ap (by simpa using hi),aj] at e
   rw[ap (by simpa [rs.len] using hi),aj]
   cases hd':ds[i]? with
   |none=>rw[hd'] at e;cases e
   |some d'=>
    rw[hd'] at e;cases e;obtain⟨v,h1,h2⟩:=rs.get hd';exact⟨v,by rw[h1];rfl,h2⟩
 · rw[ao (by simpa using hi),bj] at e
   split at e<;>cases e
noncomputable def b7T:R Out->R D
 |.ok (.nx _) h=>.ok .non h
 |.ok (.rt d) h=>.ok d h
 |.no=>.no
theorem a3l(n:Nat)(f:Nat)(ds:List D)(h:AH):b4 ct F (n+1) f ds h=match F f with
 |none=>.no
 |some fd=>if ds.length=fd.np then gcR fd.gc h (b7T (exs ct (b4 ct F n) fd.body (ds.map some++List.replicate (fd.ns-fd.np) none) h)) else .no:=by
 show(match F f with
  |none=>R.no
  |some fd=>if ds.length=fd.np then gcR fd.gc h (match exs ct (b4 ct F n) fd.body (ds.map some++List.replicate (fd.ns-fd.np) none) h with
   |.ok (.nx _) h'=>.ok .non h'
   |.ok (.rt d) h'=>.ok d h'
   |.no=>.no) else .no)=_
 cases F f with
 |none=>rfl
 |some fd=>
  simp only
  generalize exs ct (b4 ct F n) fd.body (ds.map some++List.replicate (fd.ns-fd.np) none) h=r
  cases r with
  |ok o h=>cases o<;>rfl
  |no=>rfl
theorem a7C:(∀d v v' m0 H0,m0.length=n->Rp m0 H0 d v'->Rp m' H d v->Rp (m'.take n) H d v)/\∀l vs vs' m0 H0,m0.length=n->Rps m0 H0 l vs'->Rps m' H l vs->Rps (m'.take n) H l vs:=by
 refine D.ind (P:=fun d=>∀v v' m0 H0,m0.length=n->Rp m0 H0 d v'->Rp m' H d v->Rp (m'.take n) H d v) (Q:=fun l=>∀vs vs' m0 H0,m0.length=n->Rps m0 H0 l vs'->Rps m' H l vs->Rps (m'.take n) H l vs) ?_ ?_ ?_ ?_ ?_ ?_ ?_ ?_
 · intro v v' m0 H0 _ _ h;exact h
 · intro b v v' m0 H0 _ _ h;exact h
 · intro b v v' m0 H0 _ _ h;exact h
 · intro b v v' m0 H0 _ _ h;exact h
 · rintro l ih v v' m0 H0 hn ⟨a',vs',_,_,q'⟩ ⟨a,vs,rfl,e,q⟩;exact⟨a,vs,rfl,e,ih vs vs' m0 H0 hn q' q⟩
 · rintro k v v' m0 H0 hn ⟨a',_,e'⟩ ⟨a,rfl,e⟩;refine⟨a,rfl,?_⟩
   have:=(ac.mp e').1
   rw[bh (by omega)];exact e
 · intro vs vs' m0 H0 _ _ h;exact h
 · rintro d r ih ihs vs vs' m0 H0 hn ⟨v',t',_,q1',q2'⟩ ⟨v,t,rfl,q1,q2⟩;exact⟨v,t,rfl,ih v v' m0 H0 hn q1' q1,ihs t t' m0 H0 hn q2' q2⟩
theorem a1R{α β β':Type}{R R':α->β->Prop}{R0:α->β'->Prop}(f:∀a b b',R0 a b'->R a b->R' a b):∀{l:List α} {l':List β'} {l2:List β},Paired R0 l l'->Paired R l l2->Paired R' l l2
 |_,_,_,.nil,.nil=>.nil
 |_,_,_,.cons h t,.cons h' t'=>.cons (f _ _ _ h h') (a1R f t t')
theorem a9n{a a0:Addr}{c:Cell}(hn:m.length=n)(h0:E2 Γ m H0 a0 c)(h:E2 Γ m' H a c):E2 Γ (m'.take n) H a c:=by
 have rp:=fun d v v' (h1:Rp m H0 d v') (h2:Rp m' H d v)=>(a7C (m':=m') (n:=n) (H:=H)).1 d v v' m H0 hn h1 h2
 have rps:=fun d v v' (h1:Rps m H0 d v') (h2:Rps m' H d v)=>(a7C (m':=m') (n:=n) (H:=H)).2 d v v' m H0 hn h1 h2
 have pr:∀{κ κ' κ'':Type} {l:List (κ×D)} {l':List (κ'×V)} {l2:List (κ''×V)} {A:κ->κ'->Prop} {B:κ->κ''->Prop},Paired (fun p q=>A p.1 q.1/\Rp m H0 p.2 q.2) l l'->Paired (fun p q=>B p.1 q.1/\Rp m' H p.2 q.2) l l2->Paired (fun p q=>B p.1 q.1/\Rp (m'.take n) H p.2 q.2) l l2:=
  fun h0 h=>a1R (fun a b b' x y=>⟨y.1,rp _ _ _ x.2 y.2⟩) h0 h
 cases c with
 |lst l=>obtain⟨vs',_,r'⟩:=h0;obtain⟨vs,e,r⟩:=h;exact⟨vs,e,rps _ _ _ r' r⟩
 |rol l=>obtain⟨vs',_,r',_⟩:=h0;obtain⟨vs,e,r,z⟩:=h;exact⟨vs,e,rps _ _ _ r' r,z⟩
 |dict l=>
  rcases h with⟨kvs,e,r⟩|⟨kvs,e,r⟩
  · rcases h0 with⟨kvs',_,r'⟩|⟨kvs',_,r'⟩
    · exact .inl ⟨kvs,e,pr (A:=fun p q=>J6 p=some q) (B:=fun p q=>J6 p=some q) r' r⟩
    · exact .inl ⟨kvs,e,pr (A:=fun(p:D) q=>∃l,p=D.tup l/\E7 l=some q) (B:=fun p q=>J6 p=some q) r' r⟩
  · rcases h0 with⟨kvs',_,r'⟩|⟨kvs',_,r'⟩
    · exact .inr ⟨kvs,e,pr (A:=fun p q=>J6 p=some q) (B:=fun(p:D) q=>∃l,p=D.tup l/\E7 l=some q) r' r⟩
    · exact .inr ⟨kvs,e,pr (A:=fun(p:D) q=>∃l,p=D.tup l/\E7 l=some q) (B:=fun(p:D) q=>∃l,p=D.tup l/\E7 l=some q) r' r⟩
 |obj k fs=>obtain⟨dx',gs',_,r',_⟩:=h0;obtain⟨dx,gs,e,r,z⟩:=h;exact⟨dx,gs,e,pr (A:=fun p q=>p=q) (B:=fun p q=>p=q) r' r,z⟩
theorem Sim.drop{ah':AH}(s:Sim Γ ah m H)(s':Sim Γ ah' m' H')(p:Pre m m')(k:Keep m m' H H')(h:ah'.take ah.length=ah):Sim Γ ah m H':=by
 have hm:m'.take ah.length=m:=by
  obtain⟨t,rfl⟩:=p;rw[←s.len,List.take_left]
 refine⟨s.len,s.nd,fun n a c hn hc=>?_⟩
 have hl:=(ac.mp hc).1
 have hc':ah'[n]? =some c:=by
  rw[←h,bh hl] at hc
  exact hc
 have:=a9n (n:=ah.length) s.len (s.at hn hc) (s'.at (p.get hn) hc')
 rwa [hm] at this
theorem a9g{a:Addr}{c:Cell}(f:c.flat=true)(h:E2 Γ m H a c):E2 Γ m' H a c:=by
 cases c with
 |lst l=>obtain⟨vs,e,r⟩:=h;exact⟨vs,e,(a4D (m':=m')).2 _ _ f r⟩
 | dict l=>
  have go:∀{κ:Type} {A:D->κ->Prop} {l:List (D×D)} {l2:List (κ×V)},(l.all fun p=>p.1.flat&&p.2.flat)=true->Paired (fun p q=>A p.1 q.1/\Rp m H p.2 q.2) l l2->Paired (fun p q=>A p.1 q.1/\Rp m' H p.2 q.2) l l2:=by
   intro κ A l l2 hf hp
   induction hp with
   |nil=>exact .nil
   |cons h t ih=>
    rw[all_cons,ae,ae] at hf;exact .cons ⟨h.1,(a4D (m':=m')).1 _ _ hf.1.2 h.2⟩ (ih hf.2)
  rcases h with⟨kvs,e,r⟩|⟨kvs,e,r⟩
  · exact .inl ⟨kvs,e,go (A:=fun p q=>J6 p=some q) f r⟩
  · exact .inr ⟨kvs,e,go (A:=fun(p:D) q=>∃l,p=D.tup l/\E7 l=some q) f r⟩
 |_=>cases f
theorem b8t {E :XK} {g:Nat} {r:R Out} (s:Sim Γ ah m H) (h:g9 Γ E m H (gcR g ah (b7T r)) Q):j9 Γ E m H r (SQ {nx:=fun _ H'=>Q .non H',rt:=Q}):=by
 have main : ∀{d:D} {ah':AH},g9 Γ E m H (gcR g ah (.ok d ah')) Q->∀m' H' v,Pre m m'->Keep m m' H H'->Sim Γ ah' m' H'->Rp m' H' d v->Q v H':=by
  intro d ah' h m' H' v p k s' rv;unfold gcR at h
  simp only at h
  split at h
  · exact h m' H' v p k s' rv
  · split at h
    · split at h
      · rename_i hh;exact h m H' v (Pre.refl m) ⟨k.im,k.out,fun _ z=>.inl z⟩ (s.drop s' p k hh.1) ((a4D (m':=m)).1 d v hh.2 rv)
      · exact h.elim
    · split at h
      · rename_i kk
        split at h
        · rename_i c hc
          split at h
          · rename_i hh;obtain⟨a,rfl,ha⟩:=rv;have s0:=s.drop s' p k hh.1
            have hna:a∉m:=fun z=>by
             obtain⟨i,hi⟩:=List.getElem?_of_mem z
             have e1:=p.get hi;have hlt:=(ac.mp hi).1
             obtain⟨h1,e1⟩:=ac.mp e1
             obtain⟨h2,e2⟩:=ac.mp ha
             have:=(getElem_inj s'.nd).mp (e1.trans e2.symm)
             have hl:=s.len;omega
            have Hn:H a=none:=by
             rcases k.fr a (aC ha) with z|z
             · exact absurd z hna
             · exact z
            refine h (m++[a]) H' (.ref a) (Pre.snoc m a) ⟨k.im,k.out,fun b hb=>?_⟩ ?_ ⟨a,rfl,?_⟩
            · rcases aF.mp hb with z|z
              · exact .inl z
              · simp at z;subst z;exact .inr Hn
            · refine⟨by simp[s.len],a0Q s.nd hna,fun n b cc hn hcc=>?_⟩
              by_cases hl:n<m.length
              · rw[ap hl] at hn
                rw[ap (by rw[←s.len];exact hl)] at hcc
                exact(s0.at hn hcc).mono' (Pre.snoc m a) (fun _ _ _ z=>z) rfl
              · have hn':n=m.length:=by
                 have:=(ac.mp hn).1
                 simp at this;omega
                subst hn';rw[ao (ai _)] at hn
                rw[s.len,ao (ai _)] at hcc
                simp at hn hcc;subst hn;subst hcc
                exact a9g hh.2.2 (s'.at ha hc)
            · rw[←s.len,ao (ai _)];simp
          · exact h.elim
        · exact h.elim
      · exact h.elim
 cases r with
 |ok o ah'=>
  cases o with
  |nx env=>exact fun m' H' p k s' σ' _=>main h m' H' .non p k s' rfl
  |rt d=>exact fun m' H' p k s' v rv=>main h m' H' v p k s' rv
 |no=>exact h.elim
theorem a5d(S:Stat P w Γ G ct F mg)(ih1:∀x id np,G.fn.lookup x=some (id,np)->∃f fd ps,ps.length=np/\mg x=some (.ref f)/\PySem.W.keepIn Γ.K (.ref f)=true/\U1 Γ.K fd ps []/\∀base,FnOk P w Γ.K mg base CX0 (2*n+6) f fd ps (a4w Γ (b4 ct F n) id np))
 (ih2:∀x k,G.obj.lookup x=some k->k∈Γ.ob/\mg x=some (.ref (Γ.cA k))/\∃f fd ps,ps.length=1/\Mk Γ.K (Γ.cA k) f/\U1 Γ.K fd ps []/\∀base,FnOk P w Γ.K mg base CX0 (2*n+6) f fd ps (a4w Γ (b4 ct F n) (ct.init k) 1))
 (ar:∀x id np,G.fn.lookup x=some (id,np)->∀ds h,ds.length≠np->b4 ct F n id ds h=.no)
 {qual:Str} {f:Addr} {fd:FuncData} {N ps:List Str} (R:RowOk Γ.K G F x qual id np f fd st N ps) (base:Heap):FnOk P w Γ.K mg base CX0 (2*(n+1)+6) f fd ps (a4w Γ (b4 ct F (n+1)) id np):=by
 obtain⟨fn,F1,F2,F3,F4⟩:=R.F;obtain⟨oc,od,kV,doc,pm,an,cdv,ct',osl,rfl,lk,hcd⟩:=R.fn.ex;refine b8w (k:=2*n+7) lk hcd R.sc (fun vs H Q E h=>?_) fun A outer s H vs Q E hr hsp=>?_
 · obtain⟨ds,ah,m,h1,h2,_⟩:=h;rw[h2.len,h1,R.np]
 · obtain⟨ds,ah,m,h1,h2,h3,h4⟩:=hsp
   have C:Cxt (a7o CX0 P w Γ.K mg base N qual (t9 st) f cdv A outer s H E) Γ G ct (b4 ct F n) E N (t9 st) true:=by
    refine⟨rfl,R.sc.nd,rfl,rfl,?_,rfl,fun _ _=>rfl,S.scal,S.tups,S.dicts,S.blt,fun y i j hy=>?_,fun y k hy=>?_,S.att⟩
    · exact Nat.lt_of_le_of_lt (Nat.add_le_add_left (by decide:8<=64) _) hr.units
    · obtain⟨f',fd',ps',a1,a2,a3,a4,a5⟩:=ih1 y i j hy;exact⟨2*n+6,f',fd',ps',a1,hr.mono (by omega),a2,a3,a4,a5 base,ar y i j hy⟩
    · obtain⟨b1,b2,f',fd',ps',a1,a2,a3,a4⟩:=ih2 y k hy;exact⟨b1,2*n+6,f',fd',ps',a1,hr.mono (by omega),a2,b2,a3,a4 base⟩
   have Cs:Cxs (a7o CX0 P w Γ.K mg base N qual (t9 st) f cdv A outer s H E) Γ G ct (b4 ct F n) E N (t9 st):=by
    exact⟨C,PassesOwn.leaving⟩
   refine⟨_,b1L Cs 20 _ _ F4,ds.map some++List.replicate (fn.ns-fn.np) none,ah,m,⟨h3,a9i h2 F3 (by rw[h1,F2])⟩,?_⟩
   rw[a3l,F1] at h4
   simp only at h4
   rw[av (by rw[h1,F2])] at h4
   exact b8t h3 h4
theorem b1P(S:Stat P w Γ G ct F mg):∀n x id np,G.fn.lookup x=some (id,np)->∀ds h,ds.length≠np->b4 ct F n id ds h=.no
 |0,_,_,_,_,_,_,_=>rfl
 |n+1,x,id,np,hx,ds,h,hl=>by
  obtain⟨_,_,_,_,_,_,R⟩:=S.fn x id np hx;obtain⟨fn,F1,F2,_⟩:=R.F;rw[a3l,F1]
  simp only
  rw[aw (by rw[F2];exact hl)]
theorem b6g(S:Stat P w Γ G ct F mg):∀n,(∀x id np,G.fn.lookup x=some (id,np)->∃f fd ps,ps.length=np/\mg x=some (.ref f)/\PySem.W.keepIn Γ.K (.ref f)=true/\U1 Γ.K fd ps []/\∀base,FnOk P w Γ.K mg base CX0 (2*n+6) f fd ps (a4w Γ (b4 ct F n) id np))∧
 (∀x k,G.obj.lookup x=some k->k∈Γ.ob/\mg x=some (.ref (Γ.cA k))/\∃f fd ps,ps.length=1/\Mk Γ.K (Γ.cA k) f/\U1 Γ.K fd ps []/\∀base,FnOk P w Γ.K mg base CX0 (2*n+6) f fd ps (a4w Γ (b4 ct F n) (ct.init k) 1)):=by
 have zero:∀{k:Nat} {f:Addr} {fd:FuncData} {ps:List Str} {id np:Nat} {base:Heap},FnOk P w Γ.K mg base CX0 k f fd ps (a4w Γ (b4 ct F 0) id np):=fun{k f fd ps id np base}=>
  ⟨fun vs H Q E h=>by obtain⟨_,_,_,_,_,_,z⟩:=h;exact z.elim,fun A outer s H args us vs Q E _ _ _ _ h=>by obtain⟨_,_,_,_,_,_,z⟩:=h;exact z.elim⟩
 intro n
 induction n with
 |zero=>
  refine⟨fun x id np hx=>?_,fun x k hk=>?_⟩
  · obtain⟨f,fd,st,N,ps,g,R⟩:=S.fn x id np hx;exact⟨f,fd,ps,R.np,g,R.fn.kp,R.bd,fun base=>zero⟩
  · obtain⟨o1,o2,f,fd,st,N,ps,qual,M,R⟩:=S.obj x k hk;exact⟨o1,o2,f,fd,ps,R.np,M,R.bd,fun base=>zero⟩
 |succ n ih=>
  refine⟨fun x id np hx=>?_,fun x k hk=>?_⟩
  · obtain⟨f,fd,st,N,ps,g,R⟩:=S.fn x id np hx;exact⟨f,fd,ps,R.np,g,R.fn.kp,R.bd,fun base=>a5d S ih.1 ih.2 (b1P S n) R base⟩
  · obtain⟨o1,o2,f,fd,st,N,ps,qual,M,R⟩:=S.obj x k hk;exact⟨o1,o2,f,fd,ps,R.np,M,R.bd,fun base=>a5d S ih.1 ih.2 (b1P S n) R base⟩
end
end EV
namespace L2T
open PySem
abbrev cd(z:Str):List Nat:=z.cps.toList
variable{x:Str}
theorem V0{y:Str}(h:cd x=cd y):x=y:=by
 cases x;cases y
 exact congrArg Str.mk (Array.toList_inj.mp h)
theorem E1(x y:Str):cd (x++y)=cd x++cd y:=by
 show(x.cps++y.cps).toList=_
 simp
theorem o4(x:Str):(cd x).length=x.length:=by simp[cd,Str.length]
noncomputable def jn(c:Nat):List (List Nat)->List Nat
 |[]=>[]
 |[x]=>x
 |x::y::r=>x++c::jn c (y::r)
theorem a2q(c:Nat):∀ps:List Str,cd (Str.join ⟨#[c]⟩ ps)=jn c (ps.map cd)
 |[]=>rfl
 |[x]=>rfl
 |x::y::r=>by
  show cd (x++⟨#[c]⟩++Str.join ⟨#[c]⟩ (y::r))=cd x++c::jn c ((y::r).map cd)
  rw[E1,E1,a2q c (y::r)];simp[cd]
theorem a4h{c:Nat}:∀{p q a b:List Nat},c∉p->c∉q->p++c::a=q++c::b->p=q/\a=b
 |[],[],a,b,_,_,h=>⟨rfl,by simpa using h⟩
 |[],y::q,a,b,_,hq,h=>by
  have e:c=y:=(List.cons.inj h).1
  exact absurd (by rw[e];exact aP) hq
 |x::p,[],a,b,hp,_,h=>by
  have e:x=c:=(List.cons.inj h).1
  exact absurd (by rw[←e];exact aP) hp
 |x::p,y::q,a,b,hp,hq,h=>by
  obtain⟨e1,e2⟩:=List.cons.inj h;obtain⟨e3,e4⟩:=a4h (fun z=>hp (aA _ z)) (fun z=>hq (aA _ z)) e2
  exact⟨by rw[e1,e3],e4⟩
theorem b0S{c:Nat}:∀{ps qs:List (List Nat)},ps≠[]->qs≠[]->(∀p∈ps,c∉p)->(∀q∈qs,c∉q)->jn c ps=jn c qs->ps=qs
 |[],_,h,_,_,_,_=>absurd rfl h
 |_::_,[],_,h,_,_,_=>absurd rfl h
 |[x],[y],_,_,_,_,h=>by rw[show x=y from h]
 |[x],y::z::r,_,_,hp,_,h=>by
  have h':x=y++c::jn c (z::r):=h
  exact absurd (by rw[h'];simp) (hp x aP)
 |x::y::r,[z],_,_,_,hq,h=>by
  have h':x++c::jn c (y::r)=z:=h
  exact absurd (by rw[←h'];simp) (hq z aP)
 |x::y::r,z::u::t,_,_,hp,hq,h=>by
  obtain⟨e1,e2⟩:=a4h (hp x aP) (hq z aP) h;have e3:=b0S (cons_ne_nil _ _) (cons_ne_nil _ _) (fun p hp'=>hp p (aA _ hp')) (fun q hq'=>hq q (aA _ hq')) e2
  rw[e1,e3]
theorem a7R:∀{ps qs:List Str},ps.map cd=qs.map cd->ps=qs
 |[],[],_=>rfl
 |[],_::_,h=>by cases h
 |_::_,[],h=>by cases h
 |x::r,y::t,h=>by
  obtain⟨e1,e2⟩:=List.cons.inj h;rw[V0 e1,a7R e2]
variable{c:Nat}
theorem a2y{ps:List Str}(hn:ps≠[])(hf:∀p∈ps,c∉cd p)(h:cd x=jn c (ps.map cd)):Txt.split x ⟨#[c]⟩=ps:=by
 have h1:=StrLaws.join_split x ⟨#[c]⟩
 have h2:jn c ((Txt.split x ⟨#[c]⟩).map cd)=jn c (ps.map cd):=by rw[←a2q,h1,h]
 have h3:Txt.split x ⟨#[c]⟩≠[]:=fun e=>by
  have:=PyProof.Rows.split_pos x ⟨#[c]⟩
  rw[e] at this;exact absurd this (by decide)
 refine a7R (b0S (fun e=>h3 (List.map_eq_nil_iff.mp e)) (fun e=>hn (List.map_eq_nil_iff.mp e)) (fun p hp=>?_) (fun p hp=>?_) h2)
 · obtain⟨q,hq,rfl⟩:=ak.mp hp;exact StrLaws.split_free x c q hq
 · obtain⟨q,hq,rfl⟩:=ak.mp hp;exact hf q hq
def b8y:Str:="0123456789"
noncomputable def a1d:Str:="abcdefghijklmnopqrstuvwxyz0123456789"
def O2(c:Nat):Bool:=decide (c∈cd a1d)
def T2(c:Nat):Bool:=decide (c∈cd b8y)
theorem a5g(c:Nat):T2 c=true↔48<=c/\c<=57:=by
 unfold T2;rw[decide_eq_true_iff,show cd b8y=List.range' 48 10 from by decide+kernel,List.mem_range'_1]
 exact and_congr_right fun _=>Nat.lt_succ_iff
def b9(z:Str):Bool:=decide (1<=z.length)&&decide (z.length<=12)&&(cd z).all O2
noncomputable def a1S(z:Str):Bool:=decide (1<=z.length)&&decide (z.length<=5)&&(cd z).all T2&&(decide (z="0")||!decide ((cd z).head? =some 48))
noncomputable def V9(z:Str):Option Int:=if(cd z).all T2=true then(if z=""∨5<z.length∨((cd z).head? =some 48/\1<z.length) then none else some ((NumText.digitsVal (cd z):Nat):Int)) else none
noncomputable def tl(z:Str):Str:=⟨((cd z).drop 1).toArray⟩
theorem a3i(z:Str):cd (tl z)=(cd z).drop 1:=by simp[tl,cd]
def a3M(z:Str):Bool:=if(cd z).head? =some 45 then(!decide (z="-0")&&a1S (tl z)) else a1S z
def a0H(z:Str):Option Int:=if(cd z).head? =some 45 then(match V9 (tl z) with|none=>none|some n=>if n=0 then none else some (-n)) else V9 z
theorem a8W(z:Str):z=""↔z.length=0:=by
 constructor
 · rintro rfl;rfl
 · intro h;refine V0 ?_
   have:(cd z).length=0:=by rw[o4];exact h
   rw[length_eq_zero_iff.mp this];rfl
variable{z:Str}
theorem a3r(h:(cd z).all T2=true):NumText.AllDigits (cd z):=fun c hc=>(a5g c).mp (aX.mp h c hc)
theorem a4f:∀(cs:List Nat) (a:Nat),a<=cs.foldl (fun acc c=>acc*10+(c-48)) a
 |[],a=>ai _
 |c::r,a=>aK (by omega) (a4f r (a*10+(c-48)))
theorem a7n{r:List Nat}(h:48<c):0<NumText.digitsVal (c::r):=by
 unfold NumText.digitsVal;rw[foldl_cons];exact az (by omega) (a4f r (0*10+(c-48)))
theorem a2N:a1S z=(V9 z).isSome:=by
 unfold a1S V9
 by_cases h:(cd z).all T2=true
 · rw [av h,h]
   by_cases q:z=""∨5<z.length∨((cd z).head? =some 48/\1<z.length)
   · rw[av q]
     show _=false
     rcases q with q|q|⟨q1,q2⟩
     · rw[a8W] at q;simp[q]
     · simp[show¬z.length<=5 by omega]
     · have ne:¬z="0":=by rintro rfl;exact absurd q2 (by decide)
       simp[q1,ne]
   · rw [aw q]
     show _=true
     have q1:¬z.length=0:=fun e=>q (.inl ((a8W z).mpr e))
     have q2:z.length<=5:=aM fun e=>q (.inr (.inl e))
     have q3:z="0"∨¬(cd z).head? =some 48:=by
      by_cases e:(cd z).head? =some 48
      · left
        have l:z.length=1:=by
         have k:¬1<z.length:=fun e'=>q (.inr (.inr ⟨e,e'⟩))
         omega
        refine V0 ?_
        have l':(cd z).length=1:=by rw[o4];exact l
        obtain⟨x,hx⟩:=List.length_eq_one_iff.mp l';rw[hx] at e⊢
        have e':x=48:=by simpa using e
        rw[e']
        decide+kernel
      · exact .inr e
     have a1:1<=z.length:=by omega
     rcases q3 with q3|q3
     · rw[q3];decide+kernel
     · simp[a1,q2,q3]
 · rw[aw h]
   show _=false
   simp[show(cd z).all T2=false from by simpa using h]
variable{n:Int}
theorem a2m (h:V9 z=some n):intText? z=some n/\z.length<=640/\0<=n/\(n=0↔z="0"):=by
 unfold V9 at h
 by_cases q:(cd z).all T2=true
 · rw[av q] at h
   by_cases p:z=""∨5<z.length∨((cd z).head? =some 48/\1<z.length)
   · rw[av p] at h;cases h
   · rw [aw p] at h;cases h
     have p1:¬z.length=0:=fun e=>p (.inl ((a8W z).mpr e))
     have p2:z.length<=5:=aM fun e=>p (.inr (.inl e))
     have ne:cd z≠[]:=fun e=>p1 (by rw[←o4,e];rfl)
     refine⟨PySem.intText_digits (a3r q) ne (by omega),by omega,Int.natCast_nonneg _,?_,?_⟩
     · intro e
       have e0:NumText.digitsVal (cd z)=0:=by omega
       cases hz:cd z with
       |nil=>exact absurd hz ne
       | cons c r=>
        have hc:c=48:=by
         have:=(a3r q) c (by rw[hz];exact aP)
         rw[hz] at e0
         by_cases k:48<c
         · exact absurd (a7n (r:=r) k) (by omega)
         · omega
        have hl:¬1<z.length:=fun e'=>p (.inr (.inr ⟨by rw[hz,hc];rfl,e'⟩))
        have hr:r=[]:=by
         have:(cd z).length=r.length+1:=by rw[hz];rfl
         rw[o4] at this;exact length_eq_zero_iff.mp (by omega)
        refine V0 ?_
        rw[hz,hc,hr]
        decide+kernel
     · rintro rfl
       decide+kernel
 · rw[aw q] at h;cases h
theorem a5I:a3M z=(a0H z).isSome:=by
 unfold a3M a0H
 by_cases h:(cd z).head? =some 45
 · rw [av h,av h,a2N]
   have hz:(z="-0")↔tl z="0":=by
    constructor
    · rintro rfl;decide+kernel
    · intro e;refine V0 ?_
      have e1:(cd z).drop 1=cd "0":=by rw[←a3i,e]
      cases hc:cd z with
      |nil=>rw[hc] at h;cases h
      |cons c r=>
       rw[hc] at h e1
       have hc':c=45:=by simpa using h
       have hr:r=cd "0":=e1
       rw[hc',hr]
       decide+kernel
   cases q:V9 (tl z) with
   |none=>simp
   |some n=>
    obtain⟨_,_,_,k⟩:=a2m q
    by_cases e:n=0
    · simp[e,hz,k.mp e]
    · have k':¬tl z="0":=fun z'=>e (k.mpr z')
      simp[e,hz,k']
 · rw[aw h,aw h];exact a2N
theorem a2g(h:a0H z=some n):intText? z=some n/\z.length<=640:=by
 unfold a0H at h
 by_cases q:(cd z).head? =some 45
 · rw [av q] at h
   cases e:V9 (tl z) with
   |none=>rw[e] at h;cases h
   |some m=>
    rw[e] at h
    dsimp only at h
    by_cases m0:m=0
    · rw[av m0] at h;cases h
    · rw [aw m0] at h;cases h
      cases hc:cd z with
      |nil=>rw[hc] at q;cases q
      |cons c r=>
       have hc':c=45:=by rw[hc] at q;simpa using q
       have ht:cd (tl z)=r:=by rw[a3i,hc];rfl
       unfold V9 at e
       by_cases f:(cd (tl z)).all T2=true
       · rw[av f] at e
         by_cases p:tl z=""∨5<(tl z).length∨((cd (tl z)).head? =some 48/\1<(tl z).length)
         · rw[av p] at e;cases e
         · rw[aw p] at e;cases e
           have l2:(tl z).length<=5:=aM fun k=>p (.inr (.inl k))
           have l3:z.length=(tl z).length+1:=by rw[←o4 z,←o4 (tl z),ht,hc];rfl
           have ne:r≠[]:=fun k=>p (.inl ((a8W _).mpr (by rw[←o4,ht,k];rfl)))
           refine⟨?_,by omega⟩
           rw[ht];exact PySem.intText_neg (by rw[←hc'];exact hc) (ht▸a3r f) ne (by omega)
       · rw[aw f] at e;cases e
 · rw[aw q] at h;exact⟨(a2m h).1,(a2m h).2.1⟩
end L2T
namespace EV
open PySem L2
noncomputable def abc:Str:="abcdefghijklmnopqrstuvwxyz"
def cA:E:=(.comp (.nm 0) (.rng1 (.v 1)) 1 [3,2,1] .yes (.bin .mul (.ix (.v 2) (.v 1)) (.bin .sub (.v 3) (.v 0))))
def cS:E:=(.comp (.nm 0) (.rng1 (.v 4)) 1 [0,2] .yes (.ix (.bin .add (.v 2) (.k (.str "0123456789"))) (.bin .mod (.bin .add (.bin .div (.v 1) (.k (.int (16224)))) (.bin .mul (.k (.int (7))) (.v 0))) (.k (.int (36))))))
def cB:E:=(.comp (.nm 0) (.rng1 (.v 1)) 1 [3,2,5,6] .yes (.bin .add (.bin .add (.sl (.v 4) .no (.at (.v 3))) (.ix (.v 2) (.bin .mod (.bin .add (.v 1) (.bin .mul (.k (.int (5))) (.v 0))) (.k (.int (26)))))) (.sl (.v 4) (.at (.v 3)) .no)))
def wE:E:=(.ix (.lst (.cons (.k (.int (0))) (.cons (.bin .mod (.bin .div (.v 5) (.k (.int (4)))) (.k (.int (20)))) (.cons (.bin .mod (.bin .div (.v 5) (.k (.int (4)))) (.k (.int (1000)))) (.cons (.bin .mod (.bin .div (.v 5) (.k (.int (4)))) (.k (.int (99999)))) .nil))))) (.bin .mod (.v 5) (.k (.int (4)))))
def wB:Ss:=(.cons (.set 5 (.call 202 (.cons (.v 0) (.cons (.bin .add (.v 4) (.k (.int (10)))) .nil)))) (.cons (.ex (.mt .append (.v 3) (.cons wE .nil))) .nil))
def a9H:E:=(.ix (.lst (.cons (.k (.str "above")) (.cons (.k (.str "below")) .nil))) (.bin .mod (.bin .div (.v 4) (.k (.int (4)))) (.k (.int (2)))))
def b8c:Ss:=(.cons (.ex (.mt .append (.v 2) (.cons (.tup (.cons (.ix (.ix (.v 1) (.v 3)) (.k (.int (0)))) (.cons (.v 5) (.cons (.call 205 (.cons (.bin .div (.v 4) (.k (.int (8)))) .nil)) (.cons (.call 205 (.cons (.bin .div (.v 4) (.k (.int (8000)))) .nil)) .nil))))) .nil))) .nil)
def mkB:Ss:=(.cons (.set 4 (.call 202 (.cons (.v 0) (.cons (.bin .add (.v 3) (.k (.int (40)))) .nil)))) (.cons (.iff (.cmp .eq (.bin .mod (.v 4) (.k (.int (4)))) (.k (.int (1)))) (.cons (.set 5 a9H) b8c) .nil) .nil))
def b0h:Ss:=(.cons (.iff (.cmp .gt (.bin .mod (.bin .div (.v 4) (.k (.int (2)))) (.k (.int (3)))) (.k (.int (0)))) (.cons (.ex (.mt .append (.v 2) (.cons (.tup (.cons (.ix (.ix (.v 1) (.v 3)) (.k (.int (0)))) (.cons (.v 5) (.cons (.call 205 (.cons (.bin .div (.v 4) (.k (.int (6)))) .nil)) .nil)))) .nil))) .nil) .nil) .nil)
def ptB:Ss:=(.cons (.set 4 (.call 202 (.cons (.v 0) (.cons (.bin .add (.v 3) (.k (.int (70)))) .nil)))) (.cons (.for (.nm 5) (.seq (.sl (.lst (.cons (.k (.str "above")) (.cons (.k (.str "below")) .nil))) (.at (.bin .mod (.v 4) (.k (.int (2))))) .no)) b0h) .nil))
noncomputable def jnD:List (D×D):=[((.str "both"),(.int (4))),((.str "back"),(.int (2))),((.str "none"),(.int (1))),((.str "clear"),(.int (1)))]
noncomputable def jnE:E:=(.lst (.cons (.k (.str "both")) (.cons (.k (.str "back")) (.cons (.k (.str "none")) (.cons (.k (.str "both")) (.cons (.k (.str "clear")) (.cons (.k (.str "both")) .nil)))))))
noncomputable def wyE:E:=(.lst (.cons (.k (.str "left")) (.cons (.k (.str "right")) (.cons (.k (.str "either")) .nil))))
def fcE:E:=(.comp (.nm 0) (.rng1 (.v 8)) 1 [6,1] .yes (.ix (.ix (.v 2) (.bin .mod (.bin .div (.v 1) (.bin .add (.bin .mul (.bin .mul (.v 0) (.v 0)) (.k (.int (31)))) (.k (.int (7))))) (.bi .len (.cons (.v 2) .nil)))) (.k (.int (0)))))
def lB5:Ss:=(.cons (.ex (.mt .append (.v 4) (.cons (.tup (.cons (.ix (.v 3) (.v 5)) (.cons (.v 7) (.cons (.ix wyE (.bin .mod (.bin .div (.v 6) (.k (.int (6)))) (.k (.int (3))))) (.cons (.v 9) .nil))))) .nil))) .nil)
def lB4:Ss:=(.cons (.set 9 (.bi .tuple (.cons fcE .nil))) lB5)
def lB3:Ss:=(.cons (.set 8 (.ix (.dlit jnD) (.v 7))) lB4)
def lB:Ss:=(.cons (.set 6 (.call 202 (.cons (.v 0) (.cons (.bin .add (.v 5) (.k (.int (100)))) .nil)))) (.cons (.set 7 (.ix jnE (.bin .mod (.v 6) (.k (.int (6)))))) lB3))
def smE:E:=(.comp (.nm 0) (.rng1 (.bin .add (.k (.int (1))) (.bin .mod (.v 6) (.k (.int (5)))))) 1 [6,1] .yes (.ix (.ix (.v 2) (.bin .mod (.bin .div (.v 1) (.bin .add (.bin .mul (.v 0) (.k (.int (13)))) (.k (.int (5))))) (.bi .len (.cons (.v 2) .nil)))) (.k (.int (0)))))
def kB:Ss:=(.cons (.set 6 (.call 202 (.cons (.v 0) (.cons (.bin .add (.v 4) (.k (.int (130)))) .nil)))) (.cons (.set 7 smE) (.cons (.ex (.mt .append (.v 3) (.cons (.tup (.cons (.v 5) (.cons (.bi .tuple (.cons (.v 7) .nil)) .nil))) .nil))) .nil)))
def iA:Ss:=(.cons (.ex (.mt .append (.v 5) (.cons (.bin .add (.k (.str "@")) (.ix (.ix (.v 4) (.bin .mod (.bin .div (.v 7) (.k (.int (3)))) (.bi .len (.cons (.v 4) .nil)))) (.k (.int (0))))) .nil))) .nil)
def iC:Ss:=(.cons (.set 8 (.ix (.ix (.v 3) (.bin .mod (.bin .div (.v 7) (.k (.int (3)))) (.bi .len (.cons (.v 3) .nil)))) (.k (.int (3))))) (.cons (.ex (.mt .append (.v 5) (.cons (.ix (.v 8) (.bin .mod (.bin .div (.v 7) (.k (.int (50)))) (.bi .len (.cons (.v 8) .nil)))) .nil))) .nil))
def iD:Ss:=(.cons (.ex (.mt .append (.v 5) (.cons (.ix (.ix (.v 2) (.bin .mod (.bin .div (.v 7) (.k (.int (3)))) (.bi .len (.cons (.v 2) .nil)))) (.k (.int (0)))) .nil))) .nil)
def iB:Ss:=(.cons (.set 7 (.bin .div (.v 0) (.bin .add (.bin .mul (.bin .mul (.v 6) (.v 6)) (.k (.int (17)))) (.k (.int (3)))))) (.cons (.iff (.cmp .eq (.bin .mod (.v 7) (.k (.int (3)))) (.k (.int (0)))) iA (.cons (.iff (.cmp .eq (.bin .mod (.v 7) (.k (.int (3)))) (.k (.int (1)))) iC iD) .nil)) .nil))
noncomputable def e6L:E:=(.lst (.cons (.k (.int (0))) (.cons (.k (.int (0))) (.cons (.k (.int (0))) (.cons (.k (.int (1))) (.cons (.k (.int (2))) (.cons (.k (.int (3))) .nil)))))))
noncomputable def e7L:E:=(.lst (.cons (.k (.int (1))) (.cons (.k (.int (2))) (.cons (.k (.int (1))) (.cons (.k (.int (2))) (.cons (.k (.int (3))) (.cons (.k (.int (4))) (.cons (.k (.int (1))) .nil))))))))
def e5L:E:=(.lst (.cons (.k (.int (1))) (.cons (.k (.int (1))) (.cons (.k (.int (1))) (.cons (.k (.int (2))) (.cons (.bin .add (.k (.int (2))) (.bi .int (.cons (.bin .eq (.v 7) (.k (.int (0)))) .nil))) .nil))))))
def tdE:E:=(.comp (.nm 0) (.rng1 (.v 15)) 1 [9,2] .yes (.ix (.ix (.v 2) (.bin .mod (.bin .div (.v 1) (.bin .add (.bin .mul (.v 0) (.k (.int (7)))) (.k (.int (3))))) (.bi .len (.cons (.v 2) .nil)))) (.k (.int (0)))))
def rB7:Ss:=(.cons (.ex (.mt .append (.v 6) (.cons (.tup (.cons (.v 8) (.cons (.ix (.ix (.v 5) (.bin .mod (.bin .div (.v 9) (.k (.int (1260)))) (.bi .len (.cons (.v 5) .nil)))) (.k (.int (0)))) (.cons (.v 12) (.cons (.v 13) (.cons (.v 14) (.cons (.v 16) .nil))))))) .nil))) .nil)
def rB6:Ss:=(.cons (.set 15 (.ix e5L (.bin .mod (.bin .div (.v 9) (.k (.int (252)))) (.k (.int (5)))))) (.cons (.set 16 (.bi .tuple (.cons tdE .nil))) rB7))
def rB5:Ss:=(.cons (.set 14 (.call 210 (.cons (.bin .add (.bin .div (.v 10) (.k (.int (101)))) (.k (.int (3)))) (.cons (.ix (.v 11) (.k (.int (2)))) (.cons (.v 2) (.cons (.v 3) (.cons (.v 4) .nil))))))) rB6)
def rB4:Ss:=(.cons (.set 13 (.call 210 (.cons (.bin .add (.bin .div (.v 10) (.k (.int (11)))) (.bin .mul (.k (.int (5))) (.v 7))) (.cons (.ix (.v 11) (.k (.int (1)))) (.cons (.v 2) (.cons (.v 3) (.cons (.v 4) .nil))))))) rB5)
def rB3:Ss:=(.cons (.set 12 (.call 210 (.cons (.v 10) (.cons (.ix (.v 11) (.k (.int (0)))) (.cons (.v 2) (.cons (.v 3) (.cons (.v 4) .nil))))))) rB4)
def szE:E:=(.lst (.cons (.ix e6L (.bin .mod (.v 9) (.k (.int (6))))) (.cons (.ix e7L (.bin .mod (.bin .div (.v 9) (.k (.int (6)))) (.k (.int (7))))) (.cons (.ix e6L (.bin .mod (.bin .div (.v 9) (.k (.int (42)))) (.k (.int (6))))) .nil))))
def rB:Ss:=(.cons (.set 9 (.call 202 (.cons (.v 0) (.cons (.bin .add (.v 7) (.k (.int (160)))) .nil)))) (.cons (.set 10 (.call 202 (.cons (.v 0) (.cons (.bin .add (.v 7) (.k (.int (190)))) .nil)))) (.cons (.set 11 szE) rB3)))
def feE:E:=(.comp (.tp (.cons (.nm 0) (.cons (.nm 1) .nil))) (.enum (.call 203 (.cons (.bin .div (.v 6) (.k (.int (3)))) (.cons (.bin .add (.k (.int (1))) (.bin .mod (.v 6) (.k (.int (3))))) .nil)))) 2 [6] .yes (.tup (.cons (.v 1) (.cons (.bin .gt (.bin .mod (.bin .div (.v 2) (.bin .add (.v 0) (.k (.int (5))))) (.k (.int (4)))) (.k (.int (0)))) .nil))))
def gpE:E:=(.comp (.tp (.cons (.nm 0) (.cons (.nm 1) .nil))) (.enum (.v 4)) 2 [6] (.cmp .eq (.bin .mod (.bin .div (.v 2) (.bin .add (.bin .mul (.k (.int (7))) (.v 0)) (.k (.int (9))))) (.k (.int (4)))) (.k (.int (0)))) (.ix (.v 1) (.k (.int (0)))))
def hB4:Ss:=(.cons (.set 9 gpE) (.cons (.set 10 (.call 206 (.cons (.v 2) (.cons (.v 3) .nil)))) (.cons (.set 11 (.call 207 (.cons (.v 2) (.cons (.v 3) .nil)))) (.cons (.ret (.tup (.cons (.v 3) (.cons (.v 10) (.cons (.v 11) (.cons (.v 4) (.cons (.v 9) (.cons (.v 5) (.cons (.v 7) (.cons (.v 8) .nil)))))))))) .nil))))
def hB3:Ss:=(.cons (.set 7 feE) (.cons (.set 8 (.call 211 (.cons (.call 201 (.cons (.v 0) (.cons (.k (.int (3))) .nil))) (.cons (.v 1) (.cons (.v 3) (.cons (.v 4) (.cons (.v 5) (.cons (.v 7) .nil)))))))) hB4))
def hB2:Ss:=(.cons (.set 4 (.call 208 (.cons (.call 201 (.cons (.v 0) (.cons (.k (.int (1))) .nil))) (.cons (.v 3) .nil)))) (.cons (.set 5 (.call 209 (.cons (.call 201 (.cons (.v 0) (.cons (.k (.int (2))) .nil))) (.cons (.v 3) .nil)))) (.cons (.set 6 (.call 202 (.cons (.call 201 (.cons (.v 0) (.cons (.k (.int (2))) .nil))) (.cons (.k (.int (5))) .nil)))) hB3)))
def b3n:E:=(.bin .add (.bin .add (.bin .add (.k (.str "shape ")) (.v 0)) (.k (.str " "))) (.bi .str (.cons (.v 1) .nil)))
def b8r:E:=(.comp (.tp (.cons (.nm 0) (.cons (.nm 1) .nil))) (.seq (.ix (.v 0) (.k (.int (0))))) 2 [] .yes b3n)
def b3p:Ss:=(.cons (.set 6 (.bin .add (.bin .add (.call 213 (.cons (.v 4) .nil)) (.k (.str " "))) (.call 213 (.cons (.v 5) .nil)))) (.cons (.ex (.mt .append (.v 2) (.cons (.bin .add (.bin .add (.bin .add (.bin .add (.bin .add (.k (.str "mark ")) (.v 1)) (.k (.str " "))) (.v 3)) (.k (.str " "))) (.v 6)) .nil))) .nil))
def b6c:E:=(.bin .add (.bin .add (.bin .add (.bin .add (.bin .add (.k (.str "point ")) (.v 0)) (.k (.str " "))) (.v 1)) (.k (.str " "))) (.call 213 (.cons (.v 2) .nil)))
def b8q:E:=(.comp (.tp (.cons (.nm 0) (.cons (.nm 1) (.cons (.nm 2) .nil)))) (.seq (.ix (.v 0) (.k (.int (2))))) 3 [] .yes b6c)
def b8l:E:=(.bin .add (.lst (.cons (.k (.str "letter")) (.cons (.v 1) (.cons (.v 7) (.cons (.v 8) .nil))))) (.bi .list (.cons (.v 9) .nil)))
def b3o:Ss:=(.cons (.ex (.mt .append (.v 2) (.cons (.mt .join (.k (.str " ")) (.cons b8l .nil)) .nil))) .nil)
def b8p:E:=(.comp (.nm 0) (.seq (.ix (.v 0) (.k (.int (4))))) 1 [] .yes (.bin .add (.k (.str "gap ")) (.v 0)))
def b6a:E:=(.bin .add (.lst (.cons (.k (.str "class")) (.cons (.v 0) .nil))) (.bi .list (.cons (.v 1) .nil)))
def b8o:E:=(.comp (.tp (.cons (.nm 0) (.cons (.nm 1) .nil))) (.seq (.ix (.v 0) (.k (.int (5))))) 2 [] .yes (.mt .join (.k (.str " ")) (.cons b6a .nil)))
def b6b:E:=(.bin .add (.bin .add (.bin .add (.k (.str "feature ")) (.v 0)) (.k (.str " "))) (.ix (.lst (.cons (.k (.str "off")) (.cons (.k (.str "on")) .nil))) (.bi .int (.cons (.v 1) .nil))))
def b8n:E:=(.comp (.tp (.cons (.nm 0) (.cons (.nm 1) .nil))) (.seq (.ix (.v 0) (.k (.int (6))))) 2 [] .yes b6b)
noncomputable def b8m:E:=(.comp (.nm 0) (.seq (.ix (.v 0) (.k (.int (7))))) 1 [] .yes (.call 214 (.cons (.v 0) .nil)))
noncomputable def htP(a b c d:Nat):Pat:=.tp (.cons (.nm a) (.cons (.nm b) (.cons (.nm c) (.cons (.nm d) .nil))))
def lfB:Ss:=(.cons (.iff (.cmp .eq (.bin .add (.k (.str "@")) (.v 3)) (.v 1)) (.cons (.ret (.bin .isin (.v 2) (.v 4))) .nil) .nil) .nil)
noncomputable def p34:Pat:=.tp (.cons (.nm 3) (.cons (.nm 4) .nil))
noncomputable def b3D:Ss:=(.cons (.iff (.val (.call 217 (.cons (.v 0) (.cons (.v 4) (.cons (.v 3) .nil))))) (.cons (.ret (.k (.bl true))) .nil) .nil) .nil)
def fdB:Ss:=(.cons (.for (.nm 4) (.seq (.ix (.v 2) (.k (.int (3))))) b3D) .nil)
noncomputable def fbE:E:=(.comp (.nm 0) (.seq (.fld (.v 0) "rules")) 1 [0,2] (.val (.call 35 (.cons (.v 1) (.cons (.v 0) (.cons (.v 2) .nil))))) (.ix (.v 0) (.k (.int (0)))))
def fbB:Ss:=(.cons (.six (.v 1) (.ix (.v 2) (.k (.int (0)))) fbE) .nil)
def raT:T:=(.cmp .notin (.v 3) (.v 2))
noncomputable def raB:Ss:=(.cons (.ex (.mt .append (.v 2) (.cons (.v 3) .nil))) (.cons (.set 3 (.ix (.call 39 (.cons (.ix (.v 0) (.v 3)) (.cons (.v 1) .nil))) (.k (.int (0))))) .nil))
def roT:T:=(.cmp .gt (.bi .len (.cons (.v 2) .nil)) (.k (.int (0))))
def roF:E:=(.comp (.nm 0) (.seq (.v 2)) 1 [1,2] (.cmp .eq (.bi .len (.cons (.call 39 (.cons (.ix (.v 1) (.v 0)) (.cons (.v 2) .nil))) .nil)) (.k (.int (0)))) (.v 0))
def roR:E:=(.comp (.nm 0) (.seq (.v 2)) 1 [4] (.cmp .notin (.v 0) (.v 1)) (.v 0))
def roI:S:=(.iff (.cmp .eq (.bi .len (.cons (.v 4) .nil)) (.k (.int (0)))) (.cons (.ret (.tup (.cons (.k (.str "ring")) (.cons (.call 40 (.cons (.v 1) (.cons (.v 2) .nil))) .nil)))) .nil) .nil)
def roB:Ss:=(.cons (.set 4 roF) (.cons roI (.cons (.ex (.mt .extend (.v 3) (.cons (.v 4) .nil))) (.cons (.set 2 roR) .nil))))
noncomputable def roL:E:=(.comp (.nm 0) (.seq (.fld (.v 0) "rules")) 1 [] .yes (.ix (.v 0) (.k (.int (0)))))
def rgT:T:=(.orr (.nt (.val (.ist (.v 1)))) (.orr (.cmp .ne (.bi .len (.cons (.v 1) .nil)) (.k (.int (2)))) (.nt (.val (.isl (.ix (.v 1) (.k (.int (1)))))))))
noncomputable def rgC:E:=(.comp (.nm 0) (.seq (.ix (.v 0) (.k (.int (7))))) 1 [] .yes (.tup (.cons (.ix (.v 0) (.k (.int (0)))) (.cons (.v 0) .nil))))
def a9T:Ss:=(.cons (.iff (.orr (.nt (.val (.iss (.v 4)))) (.orr (.cmp .notin (.v 4) (.v 2)) (.cmp .ne (.lm false (.v 3) (.v 4)) (.k (.int (1)))))) (.cons (.ret (.k (.bl false))) .nil) .nil) .nil)
noncomputable def a7I:Ss:=(.cons (.iff (.val (.call 218 (.cons (.v 0) (.cons (.ix (.v 2) (.v 6)) (.cons (.ix (.v 2) (.ix (.v 3) (.v 5))) .nil))))) (.cons (.ret (.k (.bl false))) .nil) .nil) .nil)
def b2x:Ss:=(.cons (.for (.nm 6) (.seq (.sl (.v 3) (.at (.v 5)) .no)) a7I) .nil)
def rgO:Ss:=(.cons (.for (.nm 5) (.rng1 (.bi .len (.cons (.v 3) .nil))) b2x) (.cons (.ret (.bin .eq (.bi .len (.cons (.v 3) .nil)) (.bi .len (.cons (.v 2) .nil)))) .nil))
noncomputable def a9S:Ss:=(.cons (.iff (.nt (.val (.call 218 (.cons (.v 0) (.cons (.ix (.v 2) (.v 6)) (.cons (.ix (.v 2) (.v 7)) .nil)))))) (.cons (.ret (.k (.bl false))) .nil) .nil) .nil)
def rgZ:E:=(.bin .add (.sl (.v 3) (.at (.k (.int (1)))) .no) (.sl (.v 3) .no (.at (.k (.int (1))))))
noncomputable def p67:Pat:=.tp (.cons (.nm 6) (.cons (.nm 7) .nil))
def fwC:E:=(.comp (.nm 0) (.seq (.bin .add (.v 3) (.lst (.cons (.v 4) .nil)))) 1 [0,4] .yes (.call 218 (.cons (.v 1) (.cons (.v 2) (.cons (.v 0) .nil)))))
def fwB:Ss:=(.cons (.iff (.nt (.val (.bi .any (.cons fwC .nil)))) (.cons (.ex (.mt .append (.v 3) (.cons (.v 4) .nil))) .nil) .nil) .nil)
def lw3:Ss:=(.cons (.iff (.nt (.val (.call 219 (.cons (.v 1) (.cons (.v 3) .nil))))) (.cons (.ret (.k (.bl false))) .nil) .nil) (.cons (.ex (.mt .append (.ix (.v 3) (.k (.int (1)))) (.cons (.k (.str "")) .nil))) (.cons (.set 4 (.call 37 (.cons (.v 2) .nil))) (.cons (.ret (.an (.call 219 (.cons (.v 1) (.cons (.v 4) .nil))) (.bin .eq (.ix (.v 4) (.k (.int (0)))) (.ix (.v 3) (.k (.int (0))))))) .nil))))
def X2:Fn:=⟨1,1,2,(.cons (.ret (.comp (.nm 0) (.seq (.mt .split (.v 0) (.cons (.k (.str " ")) .nil))) 1 [] (.cmp .ne (.v 0) (.k (.str ""))) (.v 0))) .nil)⟩
def a0x:Fn:=⟨2,2,1,(.cons (.ret (.bi .all (.cons (.comp (.nm 0) (.seq (.v 0)) 1 [1] .yes (.bin .isin (.v 0) (.v 1))) .nil))) .nil)⟩
noncomputable def a0y:Fn:=⟨1,1,1,(.cons (.ret (.an (.chn .le .le (.k (.int (1))) (.bi .len (.cons (.v 0) .nil)) (.k (.int (12)))) (.call 2 (.cons (.v 0) (.cons (.k (.str "abcdefghijklmnopqrstuvwxyz0123456789")) .nil))))) .nil)⟩
def T7:Fn:=⟨1,1,1,(.cons (.iff (.orr (.nt (.chn .le .le (.k (.int (1))) (.bi .len (.cons (.v 0) .nil)) (.k (.int (5))))) (.nt (.val (.call 2 (.cons (.v 0) (.cons (.k (.str "0123456789")) .nil)))))) (.cons (.ret (.k (.bl false))) .nil) .nil) (.cons (.ret (.orr (.bin .eq (.v 0) (.k (.str "0"))) (.bin .ne (.ix (.v 0) (.k (.int (0)))) (.k (.str "0"))))) .nil))⟩
def D1:Fn:=⟨1,1,1,(.cons (.iff (.val (.mt .starts (.v 0) (.cons (.k (.str "-")) .nil))) (.cons (.ret (.an (.bin .ne (.v 0) (.k (.str "-0"))) (.call 4 (.cons (.sl (.v 0) (.at (.k (.int (1)))) .no) .nil)))) .nil) .nil) (.cons (.ret (.call 4 (.cons (.v 0) .nil))) .nil))⟩
noncomputable def J4:Fn:=⟨1,1,1,(.cons (.ret (.sl (.v 0) (.at (.bi .len (.cons (.k (.str "@")) .nil))) .no)) .nil)⟩
noncomputable def J1:Fn:=⟨1,1,1,(.cons (.ret (.an (.mt .starts (.v 0) (.cons (.k (.str "@")) .nil)) (.call 3 (.cons (.call 6 (.cons (.v 0) .nil)) .nil)))) .nil)⟩
noncomputable def a0z:Fn:=⟨1,1,1,(.cons (.ret (.orr (.call 3 (.cons (.v 0) .nil)) (.call 7 (.cons (.v 0) .nil)))) .nil)⟩
noncomputable def a0d:Fn:=⟨1,1,1,(.cons (.ret (.bi .all (.cons (.comp (.nm 0) (.seq (.v 0)) 1 [] .yes (.call 3 (.cons (.v 0) .nil))) .nil))) .nil)⟩
noncomputable def F0:Fn:=⟨1,1,1,(.cons (.ret (.bi .all (.cons (.comp (.nm 0) (.seq (.v 0)) 1 [] .yes (.call 5 (.cons (.v 0) .nil))) .nil))) .nil)⟩
noncomputable def a0e:Fn:=⟨1,1,1,(.cons (.ret (.bi .all (.cons (.comp (.nm 0) (.seq (.v 0)) 1 [] .yes (.call 8 (.cons (.v 0) .nil))) .nil))) .nil)⟩
def Y0:Fn:=⟨3,3,1,(.cons (.ret (.bin .isin (.v 2) (.call 34 (.cons (.v 0) (.cons (.v 1) .nil))))) .nil)⟩
noncomputable def n4:Fn:=⟨2,2,1,(.cons (.iff (.val (.mt .starts (.v 1) (.cons (.k (.str "@")) .nil))) (.cons (.ret (.dget (.fld (.v 0) "classes") (.call 6 (.cons (.v 1) .nil)) (.tup .nil))) .nil) .nil) (.cons (.ret (.tup (.cons (.v 1) .nil))) .nil))⟩
noncomputable def Y1:Fn:=⟨3,3,1,(.cons (.ret (.bi .any (.cons (.comp (.nm 0) (.seq (.ix (.v 1) (.k (.int (5))))) 1 [0,2] .yes (.call 36 (.cons (.v 1) (.cons (.ix (.v 2) (.k (.int (3)))) (.cons (.v 0) .nil))))) .nil))) .nil)⟩
noncomputable def x4:Fn:=⟨3,3,1,(.cons (.ret (.bi .any (.cons (.comp (.nm 0) (.seq (.v 1)) 1 [0,2] .yes (.call 33 (.cons (.v 1) (.cons (.v 0) (.cons (.v 2) .nil))))) .nil))) .nil)⟩
def L8:Fn:=⟨1,5,0,(.cons (.set 1 (.call 38 (.cons (.v 0) .nil))) (.cons (.set 2 roL) (.cons (.set 3 (.lst .nil)) (.cons (.whl roT roB) (.cons (.ret (.tup (.cons (.k (.str "order")) (.cons (.v 3) .nil)))) .nil)))))⟩
def u5:Fn:=⟨1,3,0,(.cons (.set 1 .dnew) (.cons (.for (.nm 2) (.seq (.fld (.v 0) "rules")) fbB) (.cons (.ret (.v 1)) .nil)))⟩
def a0c:Fn:=⟨2,2,2,(.cons (.ret (.comp (.nm 0) (.seq (.v 0)) 1 [1] (.cmp .isin (.v 0) (.v 1)) (.v 0))) .nil)⟩
def C9:Fn:=⟨2,4,2,(.cons (.set 2 (.lst .nil)) (.cons (.set 3 (.ix (.v 1) (.k (.int (0))))) (.cons (.whl raT raB) (.cons (.ret (.rev (.sl (.v 2) (.at (.lm true (.v 2) (.v 3))) .no))) .nil))))⟩
noncomputable def N5:Fn:=⟨1,1,0,(.cons (.sfl (.v 0) "shapes" .dnew) (.cons (.sfl (.v 0) "marks" .dnew) (.cons (.sfl (.v 0) "points" .dnew) (.cons (.sfl (.v 0) "letters" .dnew) (.cons (.sfl (.v 0) "gaps" (.lst .nil)) (.cons (.sfl (.v 0) "classes" .dnew) (.cons (.sfl (.v 0) "features" .dnew) (.cons (.sfl (.v 0) "rules" (.lst .nil)) .nil))))))))⟩
def T6:Fn:=⟨1,6,0,(.cons (.set 1 (.mk 6 .nil)) (.cons (.for (.tp (.cons (.nm 2) (.cons (.nm 3) .nil))) (.enum (.mt .split (.v 0) (.cons (.k (.str "\n")) .nil))) (.cons (.set 4 (.call 1 (.cons (.v 3) .nil))) (.cons (.iff (.cmp .gt (.bi .len (.cons (.v 4) .nil)) (.k (.int (0)))) (.cons (.set 5 (.call 13 (.cons (.v 1) (.cons (.v 4) .nil)))) (.cons (.iff (.notN (.v 5)) (.cons .bad .nil) .nil) .nil)) .nil) .nil))) (.cons (.ret (.v 1)) .nil)))⟩
def B7:Fn:=⟨2,3,0,(.cons (.set 2 (.ix (.v 1) (.k (.int (0))))) (.cons (.iff (.cmp .eq (.v 2) (.k (.str "shape"))) (.cons (.ret (.call 17 (.cons (.v 0) (.cons (.v 1) .nil)))) .nil) .nil) (.cons (.iff (.cmp .eq (.v 2) (.k (.str "mark"))) (.cons (.ret (.call 19 (.cons (.v 0) (.cons (.v 1) .nil)))) .nil) .nil) (.cons (.iff (.cmp .eq (.v 2) (.k (.str "point"))) (.cons (.ret (.call 20 (.cons (.v 0) (.cons (.v 1) .nil)))) .nil) .nil) (.cons (.iff (.cmp .eq (.v 2) (.k (.str "letter"))) (.cons (.ret (.call 22 (.cons (.v 0) (.cons (.v 1) .nil)))) .nil) .nil) (.cons (.iff (.cmp .eq (.v 2) (.k (.str "gap"))) (.cons (.ret (.call 23 (.cons (.v 0) (.cons (.v 1) .nil)))) .nil) .nil) (.cons (.iff (.cmp .eq (.v 2) (.k (.str "class"))) (.cons (.ret (.call 24 (.cons (.v 0) (.cons (.v 1) .nil)))) .nil) .nil) (.cons (.iff (.cmp .eq (.v 2) (.k (.str "feature"))) (.cons (.ret (.call 25 (.cons (.v 0) (.cons (.v 1) .nil)))) .nil) .nil) (.cons (.iff (.cmp .eq (.v 2) (.k (.str "rule"))) (.cons (.ret (.call 26 (.cons (.v 0) (.cons (.v 1) .nil)))) .nil) .nil) (.cons (.ret (.k (.str "row"))) .nil))))))))))⟩
noncomputable def T9:Fn:=⟨3,3,1,(.cons (.iff (.val (.v 0)) (.cons (.ret (.k (.str "twice"))) .nil) .nil) (.cons (.iff (.nt (.val (.v 1))) (.cons (.ret (.k (.str "name"))) .nil) .nil) (.cons (.iff (.val (.v 2)) (.cons (.ret (.k (.str "many"))) .nil) .nil) (.cons (.ret (.k .non)) .nil))))⟩
def Q0:Fn:=⟨2,2,1,(.cons (.ret (.bi .all (.cons (.comp (.nm 0) (.seq (.v 1)) 1 [0] .yes (.bin .isin (.v 0) (.fld (.v 1) "shapes"))) .nil))) .nil)⟩
noncomputable def a0w:Fn:=⟨1,1,1,(.cons (.ret (.tup (.cons (.bi .int (.cons (.ix (.v 0) (.k (.int (0)))) .nil)) (.cons (.bi .int (.cons (.ix (.v 0) (.k (.int (1)))) .nil)) .nil)))) .nil)⟩
def O7:Fn:=⟨2,4,0,(.cons (.iff (.orr (.cmp .ne (.bi .len (.cons (.v 1) .nil)) (.k (.int (3)))) (.orr (.nt (.val (.call 3 (.cons (.ix (.v 1) (.k (.int (1)))) .nil)))) (.nt (.val (.call 4 (.cons (.ix (.v 1) (.k (.int (2)))) .nil)))))) (.cons (.ret (.k (.str "row"))) .nil) .nil) (.cons (.set 2 (.ix (.v 1) (.k (.int (1))))) (.cons (.set 3 (.call 14 (.cons (.bin .isin (.v 2) (.fld (.v 0) "shapes")) (.cons (.k (.bl true)) (.cons (.bin .ge (.bi .len (.cons (.fld (.v 0) "shapes") .nil)) (.k (.int (60)))) .nil))))) (.cons (.iff (.isN (.v 3)) (.cons (.six (.fld (.v 0) "shapes") (.v 2) (.bi .int (.cons (.ix (.v 1) (.k (.int (2)))) .nil))) .nil) .nil) (.cons (.ret (.v 3)) .nil)))))⟩
def J2:Fn:=⟨2,2,1,(.cons (.iff (.orr (.cmp .ne (.bi .len (.cons (.v 0) .nil)) (.bin .add (.k (.int (3))) (.v 1))) (.nt (.val (.call 3 (.cons (.ix (.v 0) (.k (.int (1)))) .nil))))) (.cons (.ret (.k (.bl false))) .nil) .nil) (.cons (.ret (.an (.gin false (.ix (.v 0) (.k (.int (2)))) [(.str "above"),(.str "below")]) (.call 10 (.cons (.sl (.v 0) (.at (.k (.int (3)))) .no) .nil)))) .nil))⟩
def T5:Fn:=⟨2,4,0,(.cons (.iff (.nt (.val (.call 18 (.cons (.v 1) (.cons (.k (.int (4))) .nil))))) (.cons (.ret (.k (.str "row"))) .nil) .nil) (.cons (.set 2 (.ix (.v 1) (.k (.int (1))))) (.cons (.set 3 (.call 14 (.cons (.bin .isin (.v 2) (.fld (.v 0) "marks")) (.cons (.bin .isin (.v 2) (.fld (.v 0) "shapes")) (.cons (.k (.bl false)) .nil))))) (.cons (.iff (.isN (.v 3)) (.cons (.six (.fld (.v 0) "marks") (.v 2) (.tup (.cons (.ix (.v 1) (.k (.int (2)))) (.cons (.call 16 (.cons (.sl (.v 1) (.at (.k (.int (3)))) (.at (.k (.int (5))))) .nil)) (.cons (.call 16 (.cons (.sl (.v 1) (.at (.k (.int (5)))) (.at (.k (.int (7))))) .nil)) .nil))))) .nil) .nil) (.cons (.ret (.v 3)) .nil)))))⟩
def O8:Fn:=⟨2,5,0,(.cons (.iff (.nt (.val (.call 18 (.cons (.v 1) (.cons (.k (.int (2))) .nil))))) (.cons (.ret (.k (.str "row"))) .nil) .nil) (.cons (.set 2 (.ix (.v 1) (.k (.int (1))))) (.cons (.set 3 (.tup (.cons (.v 2) (.cons (.ix (.v 1) (.k (.int (2)))) .nil)))) (.cons (.set 4 (.call 14 (.cons (.bin .isin (.v 3) (.fld (.v 0) "points")) (.cons (.bin .isin (.v 2) (.fld (.v 0) "shapes")) (.cons (.k (.bl false)) .nil))))) (.cons (.iff (.isN (.v 4)) (.cons (.six (.fld (.v 0) "points") (.v 3) (.call 16 (.cons (.sl (.v 1) (.at (.k (.int (3)))) (.at (.k (.int (5))))) .nil))) .nil) .nil) (.cons (.ret (.v 4)) .nil))))))⟩
def E4:Fn:=⟨1,2,1,(.cons (.iff (.orr (.cmp .lt (.bi .len (.cons (.v 0) .nil)) (.k (.int (4)))) (.nt (.val (.call 3 (.cons (.ix (.v 0) (.k (.int (1)))) .nil))))) (.cons (.ret (.k (.bl false))) .nil) .nil) (.cons (.iff (.orr (.val (.gdin true (.ix (.v 0) (.k (.int (2)))) [((.str "none"),(.int (1))),((.str "clear"),(.int (1))),((.str "back"),(.int (2))),((.str "both"),(.int (4)))])) (.val (.gin true (.ix (.v 0) (.k (.int (3)))) [(.str "left"),(.str "right"),(.str "either")]))) (.cons (.ret (.k (.bl false))) .nil) .nil) (.cons (.set 1 (.sl (.v 0) (.at (.k (.int (4)))) .no)) (.cons (.ret (.an (.bin .eq (.bi .len (.cons (.v 1) .nil)) (.gdix (.ix (.v 0) (.k (.int (2)))) [((.str "none"),(.int (1))),((.str "clear"),(.int (1))),((.str "back"),(.int (2))),((.str "both"),(.int (4)))])) (.call 9 (.cons (.v 1) .nil)))) .nil))))⟩
def M5:Fn:=⟨2,5,0,(.cons (.iff (.nt (.val (.call 21 (.cons (.v 1) .nil)))) (.cons (.ret (.k (.str "row"))) .nil) .nil) (.cons (.set 2 (.ix (.v 1) (.k (.int (1))))) (.cons (.set 3 (.sl (.v 1) (.at (.k (.int (4)))) .no)) (.cons (.set 4 (.call 14 (.cons (.bin .isin (.v 2) (.fld (.v 0) "letters")) (.cons (.call 15 (.cons (.v 0) (.cons (.v 3) .nil))) (.cons (.bin .ge (.bi .len (.cons (.fld (.v 0) "letters") .nil)) (.k (.int (24)))) .nil))))) (.cons (.iff (.isN (.v 4)) (.cons (.six (.fld (.v 0) "letters") (.v 2) (.tup (.cons (.ix (.v 1) (.k (.int (2)))) (.cons (.ix (.v 1) (.k (.int (3)))) (.cons (.bi .tuple (.cons (.v 3) .nil)) .nil))))) .nil) .nil) (.cons (.ret (.v 4)) .nil))))))⟩
def X4:Fn:=⟨2,4,0,(.cons (.iff (.orr (.cmp .ne (.bi .len (.cons (.v 1) .nil)) (.k (.int (2)))) (.nt (.val (.call 3 (.cons (.ix (.v 1) (.k (.int (1)))) .nil))))) (.cons (.ret (.k (.str "row"))) .nil) .nil) (.cons (.set 2 (.ix (.v 1) (.k (.int (1))))) (.cons (.set 3 (.call 14 (.cons (.bin .isin (.v 2) (.fld (.v 0) "gaps")) (.cons (.bin .isin (.v 2) (.fld (.v 0) "letters")) (.cons (.k (.bl false)) .nil))))) (.cons (.iff (.isN (.v 3)) (.cons (.ex (.mt .append (.fld (.v 0) "gaps") (.cons (.v 2) .nil))) .nil) .nil) (.cons (.ret (.v 3)) .nil)))))⟩
def O9:Fn:=⟨2,5,0,(.cons (.set 2 (.sl (.v 1) (.at (.k (.int (2)))) .no)) (.cons (.iff (.orr (.nt (.chn .le .le (.k (.int (1))) (.bi .len (.cons (.v 2) .nil)) (.k (.int (20))))) (.nt (.val (.call 9 (.cons (.sl (.v 1) (.at (.k (.int (1)))) .no) .nil))))) (.cons (.ret (.k (.str "row"))) .nil) .nil) (.cons (.set 3 (.ix (.v 1) (.k (.int (1))))) (.cons (.set 4 (.call 14 (.cons (.bin .isin (.v 3) (.fld (.v 0) "classes")) (.cons (.call 15 (.cons (.v 0) (.cons (.v 2) .nil))) (.cons (.bin .ge (.bi .len (.cons (.fld (.v 0) "classes") .nil)) (.k (.int (20)))) .nil))))) (.cons (.iff (.isN (.v 4)) (.cons (.six (.fld (.v 0) "classes") (.v 3) (.bi .tuple (.cons (.v 2) .nil))) .nil) .nil) (.cons (.ret (.v 4)) .nil))))))⟩
def K7:Fn:=⟨2,4,0,(.cons (.iff (.orr (.cmp .ne (.bi .len (.cons (.v 1) .nil)) (.k (.int (3)))) (.orr (.nt (.val (.call 3 (.cons (.ix (.v 1) (.k (.int (1)))) .nil)))) (.val (.gin true (.ix (.v 1) (.k (.int (2)))) [(.str "on"),(.str "off")])))) (.cons (.ret (.k (.str "row"))) .nil) .nil) (.cons (.set 2 (.ix (.v 1) (.k (.int (1))))) (.cons (.set 3 (.call 14 (.cons (.bin .isin (.v 2) (.fld (.v 0) "features")) (.cons (.k (.bl true)) (.cons (.bin .ge (.bi .len (.cons (.fld (.v 0) "features") .nil)) (.k (.int (10)))) .nil))))) (.cons (.iff (.isN (.v 3)) (.cons (.six (.fld (.v 0) "features") (.v 2) (.bin .eq (.ix (.v 1) (.k (.int (2)))) (.k (.str "on")))) .nil) .nil) (.cons (.ret (.v 3)) .nil)))))⟩
def T4:Fn:=⟨2,8,0,(.cons (.iff (.nt (.val (.call 27 (.cons (.v 1) .nil)))) (.cons (.ret (.k (.str "row"))) .nil) .nil) (.cons (.set 2 (.ix (.v 1) (.k (.int (1))))) (.cons (.set 3 (.ix (.v 1) (.k (.int (2))))) (.cons (.set 4 (.call 28 (.cons (.v 1) .nil))) (.cons (.set 5 (.bin .add (.bin .add (.ix (.v 4) (.k (.int (0)))) (.ix (.v 4) (.k (.int (1))))) (.ix (.v 4) (.k (.int (2)))))) (.cons (.set 6 (.an (.bin .isin (.v 3) (.fld (.v 0) "features")) (.an (.call 29 (.cons (.v 0) (.cons (.v 5) .nil))) (.call 15 (.cons (.v 0) (.cons (.ix (.v 4) (.k (.int (3)))) .nil)))))) (.cons (.set 7 (.call 14 (.cons (.call 31 (.cons (.v 0) (.cons (.v 2) .nil))) (.cons (.v 6) (.cons (.bin .ge (.bi .len (.cons (.fld (.v 0) "rules") .nil)) (.k (.int (30)))) .nil))))) (.cons (.iff (.isN (.v 7)) (.cons (.ex (.mt .append (.fld (.v 0) "rules") (.cons (.tup (.cons (.v 2) (.cons (.v 3) (.cons (.bi .tuple (.cons (.ix (.v 4) (.k (.int (0)))) .nil)) (.cons (.bi .tuple (.cons (.ix (.v 4) (.k (.int (1)))) .nil)) (.cons (.bi .tuple (.cons (.ix (.v 4) (.k (.int (2)))) .nil)) (.cons (.bi .tuple (.cons (.ix (.v 4) (.k (.int (3)))) .nil)) .nil))))))) .nil))) .nil) .nil) (.cons (.ret (.v 7)) .nil)))))))))⟩
def J3:Fn:=⟨1,2,1,(.cons (.iff (.nt (.val (.call 9 (.cons (.sl (.v 0) (.at (.k (.int (1)))) (.at (.k (.int (3))))) .nil)))) (.cons (.ret (.k (.bl false))) .nil) .nil) (.cons (.set 1 (.call 28 (.cons (.v 0) .nil))) (.cons (.iff (.orr (.isN (.v 1)) (.orr (.cmp .gt (.bi .len (.cons (.ix (.v 1) (.k (.int (0)))) .nil)) (.k (.int (3)))) (.cmp .gt (.bi .len (.cons (.ix (.v 1) (.k (.int (2)))) .nil)) (.k (.int (3)))))) (.cons (.ret (.k (.bl false))) .nil) .nil) (.cons (.iff (.orr (.nt (.chn .le .le (.k (.int (1))) (.bi .len (.cons (.ix (.v 1) (.k (.int (1)))) .nil)) (.k (.int (4))))) (.nt (.chn .le .le (.k (.int (1))) (.bi .len (.cons (.ix (.v 1) (.k (.int (3)))) .nil)) (.k (.int (3)))))) (.cons (.ret (.k (.bl false))) .nil) .nil) (.cons (.ret (.an (.call 11 (.cons (.bin .add (.bin .add (.ix (.v 1) (.k (.int (0)))) (.ix (.v 1) (.k (.int (1))))) (.ix (.v 1) (.k (.int (2))))) .nil)) (.call 9 (.cons (.ix (.v 1) (.k (.int (3)))) .nil)))) .nil)))))⟩
def P9:Fn:=⟨1,4,0,(.cons (.set 1 (.lst (.cons (.lst .nil) .nil))) (.cons (.set 2 (.lst .nil)) (.cons (.for (.nm 3) (.seq (.sl (.v 0) (.at (.k (.int (3)))) .no)) (.cons (.iff (.cmp .isin (.v 3) (.tup (.cons (.k (.str "/")) (.cons (.k (.str ">")) .nil)))) (.cons (.ex (.mt .append (.v 2) (.cons (.v 3) .nil))) (.cons (.ex (.mt .append (.v 1) (.cons (.lst .nil) .nil))) .nil)) (.cons (.ex (.mt .append (.ix (.v 1) (.neg (.k (.int (1))))) (.cons (.v 3) .nil))) .nil)) .nil)) (.cons (.iff (.cmp .ne (.v 2) (.lst (.cons (.k (.str "/")) (.cons (.k (.str "/")) (.cons (.k (.str ">")) .nil))))) (.cons (.ret (.k .non)) .nil) .nil) (.cons (.ret (.v 1)) .nil)))))⟩
noncomputable def T8:Fn:=⟨2,2,1,(.cons (.ret (.bi .all (.cons (.comp (.nm 0) (.seq (.v 1)) 1 [0] .yes (.call 30 (.cons (.v 1) (.cons (.v 0) .nil)))) .nil))) .nil)⟩
def X9:Fn:=⟨2,2,1,(.cons (.iff (.val (.call 7 (.cons (.v 1) .nil))) (.cons (.ret (.bin .isin (.call 6 (.cons (.v 1) .nil)) (.fld (.v 0) "classes"))) .nil) .nil) (.cons (.ret (.bin .isin (.v 1) (.fld (.v 0) "shapes"))) .nil))⟩
def X5:Fn:=⟨2,2,1,(.cons (.ret (.bi .any (.cons (.comp (.nm 0) (.seq (.fld (.v 0) "rules")) 1 [1] .yes (.bin .eq (.ix (.v 0) (.k (.int (0)))) (.v 1))) .nil))) .nil)⟩
def C6:Fn:=⟨2,2,1,(.cons (.iff (.cmp .lt (.v 1) (.bi .len (.cons (.v 0) .nil))) (.cons (.ret (.ix (.v 0) (.v 1))) .nil) .nil) (.cons (.ret (.k (.int (0)))) .nil))⟩
def o5:Fn:=⟨2,2,1,(.cons (.ret (.bin .mod (.bin .mul (.bin .mul (.bin .add (.bin .mod (.v 0) (.k (.int (2305843009213693951)))) (.k (.int (1)))) (.bin .add (.bin .mul (.v 1) (.v 1)) (.k (.int (48271))))) (.k (.int (40692)))) (.k (.int (2147483399))))) .nil)⟩
def m8:Fn:=⟨2,7,2,(.cons (.set 2 (.k (.str abc))) (.cons (.set 3 (.bin .mod (.bin .div (.v 0) (.k (.int (4)))) (.k (.int (26))))) (.cons (.iff (.an (.cmp .eq (.bin .mod (.v 0) (.k (.int (4)))) (.k (.int (0)))) (.cmp .lt (.v 1) (.k (.int (13))))) (.cons (.ret cA) .nil) .nil) (.cons (.set 4 (.bin .mod (.bin .div (.v 0) (.k (.int (104)))) (.k (.int (12))))) (.cons (.set 5 (.bin .mod (.bin .div (.v 0) (.k (.int (1248)))) (.bin .add (.v 4) (.k (.int (1)))))) (.cons (.set 6 (.mt .join (.k (.str "")) (.cons cS .nil))) (.cons (.ret cB) .nil)))))))⟩
def x5:Fn:=⟨1,6,2,(.cons (.set 1 (.call 202 (.cons (.v 0) (.cons (.k (.int (1))) .nil)))) (.cons (.set 2 (.call 203 (.cons (.bin .div (.v 1) (.k (.int (13)))) (.cons (.bin .add (.k (.int (4))) (.bin .mod (.v 1) (.k (.int (13))))) .nil)))) (.cons (.set 3 (.lst .nil)) (.cons (.for (.nm 4) (.rng1 (.bi .len (.cons (.v 2) .nil))) wB) (.cons (.ret (.comp (.tp (.cons (.nm 0) (.cons (.nm 1) .nil))) (.zip (.v 2) (.v 3)) 2 [] .yes (.tup (.cons (.v 0) (.cons (.v 1) .nil))))) .nil)))))⟩
def u8:Fn:=⟨1,1,1,(.cons (.ret (.tup (.cons (.bin .sub (.bin .mod (.v 0) (.k (.int (41)))) (.k (.int (20)))) (.cons (.ix (.lst (.cons (.k (.int (0))) (.cons (.bin .mod (.bin .div (.v 0) (.k (.int (41)))) (.k (.int (99999)))) (.cons (.neg (.bin .mod (.bin .div (.v 0) (.k (.int (41)))) (.k (.int (99999))))) .nil)))) (.bin .mod (.bin .div (.v 0) (.k (.int (7)))) (.k (.int (3))))) .nil)))) .nil)⟩
def z3:Fn:=⟨2,6,2,(.cons (.set 2 (.lst .nil)) (.cons (.for (.nm 3) (.rng1 (.bi .len (.cons (.v 1) .nil))) mkB) (.cons (.ret (.v 2)) .nil)))⟩
def y7:Fn:=⟨2,6,2,(.cons (.set 2 (.lst .nil)) (.cons (.for (.nm 3) (.rng1 (.bi .len (.cons (.v 1) .nil))) ptB) (.cons (.ret (.v 2)) .nil)))⟩
def v5:Fn:=⟨2,10,2,(.cons (.set 2 (.call 202 (.cons (.v 0) (.cons (.k (.int (2))) .nil)))) (.cons (.set 3 (.call 203 (.cons (.bin .div (.v 2) (.k (.int (6)))) (.cons (.bin .add (.k (.int (1))) (.bin .mod (.v 2) (.k (.int (6))))) .nil)))) (.cons (.set 4 (.lst .nil)) (.cons (.for (.nm 5) (.rng1 (.bi .len (.cons (.v 3) .nil))) lB) (.cons (.ret (.v 4)) .nil)))))⟩
def v7:Fn:=⟨2,8,2,(.cons (.set 2 (.call 202 (.cons (.v 0) (.cons (.k (.int (3))) .nil)))) (.cons (.set 3 (.lst .nil)) (.cons (.for (.tp (.cons (.nm 4) (.cons (.nm 5) .nil))) (.enum (.call 203 (.cons (.bin .div (.v 2) (.k (.int (4)))) (.cons (.bin .add (.k (.int (1))) (.bin .mod (.v 2) (.k (.int (3))))) .nil)))) kB) (.cons (.ret (.v 3)) .nil))))⟩
def w5:Fn:=⟨5,9,1,(.cons (.set 5 (.lst .nil)) (.cons (.for (.nm 6) (.rng1 (.v 1)) iB) (.cons (.ret (.bi .tuple (.cons (.v 5) .nil))) .nil)))⟩
def p7:Fn:=⟨6,17,2,(.cons (.set 6 (.lst .nil)) (.cons (.for (.tp (.cons (.nm 7) (.cons (.nm 8) .nil))) (.enum (.call 203 (.cons (.call 202 (.cons (.v 0) (.cons (.k (.int (4))) .nil))) (.cons (.v 1) .nil)))) rB) (.cons (.ret (.v 6)) .nil)))⟩
def F5:Fn:=⟨2,12,0,(.cons (.set 2 (.call 201 (.cons (.v 0) (.cons (.k (.int (0))) .nil)))) (.cons (.set 3 (.call 204 (.cons (.v 2) .nil))) hB2))⟩
def y8:Fn:=⟨1,1,1,(.cons (.ret (.bin .add (.bin .add (.bi .str (.cons (.ix (.v 0) (.k (.int (0)))) .nil)) (.k (.str " "))) (.bi .str (.cons (.ix (.v 0) (.k (.int (1)))) .nil)))) .nil)⟩
def y0:Fn:=⟨1,2,1,(.cons (.set 1 (.bin .add (.bin .add (.bin .add (.lst (.cons (.k (.str "rule")) (.cons (.ix (.v 0) (.k (.int (0)))) (.cons (.ix (.v 0) (.k (.int (1)))) .nil)))) (.bi .list (.cons (.ix (.v 0) (.k (.int (2)))) .nil))) (.lst (.cons (.k (.str "/")) .nil))) (.bi .list (.cons (.ix (.v 0) (.k (.int (3)))) .nil)))) (.cons (.ret (.mt .join (.k (.str " ")) (.cons (.bin .add (.bin .add (.bin .add (.bin .add (.v 1) (.lst (.cons (.k (.str "/")) .nil))) (.bi .list (.cons (.ix (.v 0) (.k (.int (4)))) .nil))) (.lst (.cons (.k (.str ">")) .nil))) (.bi .list (.cons (.ix (.v 0) (.k (.int (5)))) .nil))) .nil))) .nil))⟩
def C2:Fn:=⟨1,10,1,(.cons (.set 2 b8r) (.cons (.for (htP 1 3 4 5) (.seq (.ix (.v 0) (.k (.int (1))))) b3p) (.cons (.set 2 (.bin .add (.v 2) b8q)) (.cons (.for (htP 1 7 8 9) (.seq (.ix (.v 0) (.k (.int (3))))) b3o) (.cons (.set 2 (.bin .add (.v 2) b8p)) (.cons (.set 2 (.bin .add (.v 2) b8o)) (.cons (.set 2 (.bin .add (.v 2) b8n)) (.cons (.ret (.mt .join (.k (.str "\n")) (.cons (.bin .add (.v 2) b8m) .nil))) .nil))))))))⟩
def z9:Fn:=⟨3,5,1,(.cons (.iff (.cmp .ne (.ix (.v 1) (.k (.int (0)))) (.k (.str "@"))) (.cons (.ret (.bin .eq (.v 1) (.v 2))) .nil) .nil) (.cons (.for p34 (.seq (.ix (.v 0) (.k (.int (5))))) lfB) (.cons (.ret (.k (.bl false))) .nil)))⟩
def A8:Fn:=⟨3,5,1,(.cons (.for (.nm 3) (.seq (.ix (.v 1) (.k (.int (5))))) fdB) (.cons (.ret (.k (.bl false))) .nil))⟩
def K8:Fn:=⟨2,8,1,(.cons (.iff rgT (.cons (.ret (.k (.bl false))) .nil) .nil) (.cons (.set 2 (.bi .dict (.cons rgC .nil))) (.cons (.set 3 (.ix (.v 1) (.k (.int (1))))) (.cons (.for (.nm 4) (.seq (.v 3)) a9T) (.cons (.iff (.cmp .eq (.ix (.v 1) (.k (.int (0)))) (.k (.str "order"))) rgO .nil) (.cons (.iff (.orr (.cmp .ne (.ix (.v 1) (.k (.int (0)))) (.k (.str "ring"))) (.cmp .eq (.bi .len (.cons (.v 3) .nil)) (.k (.int (0))))) (.cons (.ret (.k (.bl false))) .nil) .nil) (.cons (.for p67 (.zip (.v 3) rgZ) a9S) (.cons (.ret (.k (.bl true))) .nil))))))))⟩
def F6:Fn:=⟨2,5,0,(.cons (.set 2 (.ix (.v 0) (.k (.int (7))))) (.cons (.iff (.cmp .eq (.bin .mod (.v 1) (.k (.int (2)))) (.k (.int (0)))) (.cons (.ret (.v 0)) .nil) .nil) (.cons (.set 3 (.lst .nil)) (.cons (.for (.nm 4) (.seq (.v 2)) fwB) (.cons (.iff (.cmp .eq (.bin .mod (.bin .div (.v 1) (.k (.int (2)))) (.k (.int (2)))) (.k (.int (1)))) (.cons (.ex (.rvs (.v 3))) .nil) .nil) (.cons (.ret (.bin .add (.sl (.v 0) .no (.at (.k (.int (7))))) (.tup (.cons (.v 3) .nil)))) .nil))))))⟩
def a6l:Fn:=⟨1,5,0,(.cons (.set 1 (.call 220 (.cons (.call 212 (.cons (.v 0) (.cons (.bin .mod (.call 201 (.cons (.v 0) (.cons (.k (.int (4))) .nil))) (.k (.int (10)))) .nil))) (.cons (.call 201 (.cons (.v 0) (.cons (.k (.int (5))) .nil))) .nil)))) (.cons (.set 2 (.call 12 (.cons (.call 215 (.cons (.v 1) .nil)) .nil))) (.cons (.set 3 (.call 37 (.cons (.v 2) .nil))) lw3)))⟩
end EV
namespace K34
open PySem L2 EV
noncomputable def top(i:Nat):Stmt:=PySem.Challenge.pw_glyphhall_k34_rings_walked.main.body.getD i (.Pass ⟨0,0,0,0⟩)
noncomputable def fe(x:Str)(a b:Nat):Str×Nat×Nat:=(x,a,b)
def se(x:Str)(d:D):Str×D:=(x,d)
def fns:List (Str×Nat×Nat):=[fe "words_of" 1 1,fe "made_of" 2 2,fe "is_name" 3 1,fe "is_number" 4 1,fe "is_signed_number" 5 1,fe "class_of_item" 6 1,fe "is_class_item" 7 1,fe "is_item" 8 1,fe "all_names" 9 1,fe "all_signed_numbers" 10 1,fe "all_items" 11 1,fe "read_hall" 12 1,fe "take_row" 13 2,fe "first_due" 14 3,fe "has_shapes" 15 2,fe "pair_of" 16 1,fe "take_shape" 17 2,fe "has_side_form" 18 2,fe "take_mark" 19 2,fe "take_point" 20 2,fe "has_letter_form" 21 1,fe "take_letter" 22 2,fe "take_gap" 23 2,fe "take_class" 24 2,fe "take_feature" 25 2,fe "take_rule" 26 2,fe "has_rule_form" 27 1,fe "rule_parts" 28 1,fe "has_items" 29 2,fe "has_item" 30 2,fe "has_rule" 31 2,fe "fits" 33 3,fe "fitting_shapes" 34 2,fe "feeds" 35 3,fe "fits_one_of" 36 3,fe "rings_of" 37 1,fe "feeders_by_title" 38 1,fe "shared" 39 2,fe "ring_among" 40 2,fe "_law_cell_at" 201 2,fe "_law_mixed" 202 2,fe "_law_names_by" 203 2,fe "_law_shapes_by" 204 1,fe "_law_spot_by" 205 1,fe "_law_marks_by" 206 2,fe "_law_points_by" 207 2,fe "_law_letters_by" 208 2,fe "_law_classes_by" 209 2,fe "_law_items_by" 210 5,fe "_law_rules_by" 211 6,fe "_law_hall_by" 212 2,fe "_law_pair_text" 213 1,fe "_law_rule_text" 214 1,fe "_law_hall_text" 215 1,fe "_law_fits" 217 3,fe "_law_feeds" 218 3,fe "_law_rings" 219 2,fe "_law_forward" 220 2,fe "law" 221 1]
def G:GT:={
 fn:=fns
 scal:=[se "FIGURES" (.str "0123456789"),se "NAME_SIGNS" (.str "abcdefghijklmnopqrstuvwxyz0123456789"),se "CLASS_SIGN" (.str "@"),se "LONGEST_NAME" (.int 12),se "LONGEST_NUMBER" (.int 5),se "MOST_SHAPES" (.int 60),se "MOST_LETTERS" (.int 24),se "MOST_CLASSES" (.int 20),se "MOST_FEATURES" (.int 10),se "MOST_RULES" (.int 30),se "MOST_IN_CLASS" (.int 20),se "MOST_AROUND" (.int 3),se "MOST_IN_CORE" (.int 4),se "MOST_TOLD" (.int 3)]
 tups:=[("SIDES",[.str "above",.str "below"]),("WAYS",[.str "left",.str "right",.str "either"]),("SWITCHES",[.str "on",.str "off"])]
 dicts:=[("SHAPES_OF_JOIN",[(.str "none",.int 1),(.str "clear",.int 1),(.str "back",.int 2),(.str "both",.int 4)])]
 obj:=[("Hall",6)]
 atts:=["shapes","marks","points","letters","gaps","classes","features","rules"]
 blt:=["len","str","int","list","tuple","all","any","isinstance","bool","range","enumerate","zip","dict","reversed"]}
def F(i:Nat):Option Fn:=match i with
 |1=>some X2
 |2=>some a0x
 |3=>some a0y
 |4=>some T7
 |5=>some D1
 |6=>some J4
 |7=>some J1
 |8=>some a0z
 |9=>some a0d
 |10=>some F0
 |11=>some a0e
 |12=>some T6
 |13=>some B7
 |14=>some T9
 |15=>some Q0
 |16=>some a0w
 |17=>some O7
 |18=>some J2
 |19=>some T5
 |20=>some O8
 |21=>some E4
 |22=>some M5
 |23=>some X4
 |24=>some O9
 |25=>some K7
 |26=>some T4
 |27=>some J3
 |28=>some P9
 |29=>some T8
 |30=>some X9
 |31=>some X5
 |33=>some Y0
 |34=>some n4
 |35=>some Y1
 |36=>some x4
 |37=>some L8
 |38=>some u5
 |39=>some a0c
 |40=>some C9
 |201=>some C6
 |202=>some o5
 |203=>some m8
 |204=>some x5
 |205=>some u8
 |206=>some z3
 |207=>some y7
 |208=>some v5
 |209=>some v7
 |210=>some w5
 |211=>some p7
 |212=>some F5
 |213=>some y8
 |214=>some y0
 |215=>some C2
 |217=>some z9
 |218=>some A8
 |219=>some K8
 |220=>some F6
 |221=>some a6l
 |32=>some N5
 |_=>none
def ct:CT:=⟨fun _=>32⟩
abbrev SH:Stmt:=b3k (top 44) 0
theorem bd0{P:List Value->Prop}(h:P []):∀us,us.length=0->P us:=fun us e=>List.eq_nil_of_length_eq_zero e▸h
theorem bdS{P:List Value->Prop}{n:Nat}(h:∀a us,us.length=n->P (a::us)):∀us,us.length=n+1->P us:=fun us e=>by
 cases us with
 |nil=>cases e
 |cons a r=>exact h a r (Nat.succ.inj e)
theorem bd1{P:List Value->Prop}(h:∀a,P [a]):∀us,us.length=1->P us:=bdS fun a=>bd0 (P:=fun l=>P (a::l)) (h a)
theorem bd2{P:List Value->Prop}(h:∀a b,P [a,b]):∀us,us.length=2->P us:=bdS fun a=>bd1 (P:=fun l=>P (a::l)) (h a)
theorem bd3{P:List Value->Prop}(h:∀a b c,P [a,b,c]):∀us,us.length=3->P us:=bdS fun a=>bd2 (P:=fun l=>P (a::l)) (h a)
theorem bd4{P:List Value->Prop}(h:∀a b c d,P [a,b,c,d]):∀us,us.length=4->P us:=bdS fun a=>bd3 (P:=fun l=>P (a::l)) (h a)
theorem bd5{P:List Value->Prop}(h:∀a b c d e,P [a,b,c,d,e]):∀us,us.length=5->P us:=bdS fun a=>bd4 (P:=fun l=>P (a::l)) (h a)
theorem bd6{P:List Value->Prop}(h:∀a b c d e f,P [a,b,c,d,e,f]):∀us,us.length=6->P us:=bdS fun a=>bd5 (P:=fun l=>P (a::l)) (h a)
abbrev Bd(x q:Str)(st:Stmt)(ps:List Str):Prop:=∀(kV doc pm:Value) (an:Option Addr) (cdv ct:Value) (us:List Value),us.length=ps.length->bindArgs (PySem.W.fnOf x q (U0 st) (M8 st) (t9 st) .none kV doc pm an cdv ct) ⟨us,[]⟩=pure (ps.zip us)
def pO(st:Stmt):List Str:=(U0 st).args.map (·.arg)
def nO(st:Stmt):List Str:=pO st++((t9 st).names.filter fun y=>(y.2==.local||y.2==.cell)&&!(pO st).contains y.1).map (·.1)
structure Rw(x:Str)(st:Stmt)(id np:Nat)(f:Fn):Prop where
 a:FnScope (nO st) (pO st) (t9 st)
 b:Bd x x st (pO st)
 p:(pO st).length=np
 i:F id=some f
 q:f.np=np
 s:f.ns=(nO st).length
 c:cSs G (nO st) (t9 st) 20 (M8 st)=some f.body
local macro_rules | `(tactic| ac_rfl) => `(tactic| exact ⟨⟨rfl, rfl, rfl, by decide +kernel, by kernel_rfl, by decide +kernel, by decide +kernel⟩, fun _ _ _ _ _ _ => by first | exact bd1 fun _ => rfl | exact bd2 fun _ _ => rfl | exact bd3 fun _ _ _ => rfl | exact bd4 fun _ _ _ _ => rfl | exact bd5 fun _ _ _ _ _ => rfl | exact bd6 fun _ _ _ _ _ _ => rfl, by kernel_rfl, rfl, rfl, by kernel_rfl, by kernel_rfl⟩)
theorem R1:Rw "words_of" (top 9) 1 1 X2:=by ac_rfl
theorem R2:Rw "made_of" (top 10) 2 2 a0x:=by ac_rfl
theorem R3:Rw "is_name" (top 11) 3 1 a0y:=by ac_rfl
theorem R4:Rw "is_number" (top 12) 4 1 T7:=by ac_rfl
theorem R5:Rw "is_signed_number" (top 13) 5 1 D1:=by ac_rfl
theorem R6:Rw "class_of_item" (top 14) 6 1 J4:=by ac_rfl
theorem R7:Rw "is_class_item" (top 15) 7 1 J1:=by ac_rfl
theorem R8:Rw "is_item" (top 16) 8 1 a0z:=by ac_rfl
theorem R9:Rw "all_names" (top 17) 9 1 a0d:=by ac_rfl
theorem R10:Rw "all_signed_numbers" (top 18) 10 1 F0:=by ac_rfl
theorem R11:Rw "all_items" (top 19) 11 1 a0e:=by ac_rfl
theorem R12:Rw "read_hall" (top 45) 12 1 T6:=by ac_rfl
theorem R13:Rw "take_row" (top 46) 13 2 B7:=by ac_rfl
theorem R14:Rw "first_due" (top 47) 14 3 T9:=by ac_rfl
theorem R15:Rw "has_shapes" (top 48) 15 2 Q0:=by ac_rfl
theorem R16:Rw "pair_of" (top 49) 16 1 a0w:=by ac_rfl
theorem R17:Rw "take_shape" (top 50) 17 2 O7:=by ac_rfl
theorem R18:Rw "has_side_form" (top 51) 18 2 J2:=by ac_rfl
theorem R19:Rw "take_mark" (top 52) 19 2 T5:=by ac_rfl
theorem R20:Rw "take_point" (top 53) 20 2 O8:=by ac_rfl
theorem R21:Rw "has_letter_form" (top 54) 21 1 E4:=by ac_rfl
theorem R22:Rw "take_letter" (top 55) 22 2 M5:=by ac_rfl
theorem R23:Rw "take_gap" (top 56) 23 2 X4:=by ac_rfl
theorem R24:Rw "take_class" (top 57) 24 2 O9:=by ac_rfl
theorem R25:Rw "take_feature" (top 58) 25 2 K7:=by ac_rfl
theorem R26:Rw "take_rule" (top 59) 26 2 T4:=by ac_rfl
theorem R27:Rw "has_rule_form" (top 60) 27 1 J3:=by ac_rfl
theorem R28:Rw "rule_parts" (top 61) 28 1 P9:=by ac_rfl
theorem R29:Rw "has_items" (top 62) 29 2 T8:=by ac_rfl
theorem R30:Rw "has_item" (top 63) 30 2 X9:=by ac_rfl
theorem R31:Rw "has_rule" (top 64) 31 2 X5:=by ac_rfl
theorem R33:Rw "fits" (top 21) 33 3 Y0:=by ac_rfl
theorem R34:Rw "fitting_shapes" (top 22) 34 2 n4:=by ac_rfl
theorem R35:Rw "feeds" (top 24) 35 3 Y1:=by ac_rfl
theorem R36:Rw "fits_one_of" (top 25) 36 3 x4:=by ac_rfl
theorem R37:Rw "rings_of" (top 26) 37 1 L8:=by ac_rfl
theorem R38:Rw "feeders_by_title" (top 27) 38 1 u5:=by ac_rfl
theorem R39:Rw "shared" (top 28) 39 2 a0c:=by ac_rfl
theorem R40:Rw "ring_among" (top 29) 40 2 C9:=by ac_rfl
theorem c1l:Rw "_law_cell_at" (top 66) 201 2 C6:=by ac_rfl
theorem c1k:Rw "_law_mixed" (top 67) 202 2 o5:=by ac_rfl
theorem c1j:Rw "_law_names_by" (top 68) 203 2 m8:=by ac_rfl
theorem c1i:Rw "_law_shapes_by" (top 69) 204 1 x5:=by ac_rfl
theorem c1h:Rw "_law_spot_by" (top 70) 205 1 u8:=by ac_rfl
theorem c1g:Rw "_law_marks_by" (top 71) 206 2 z3:=by ac_rfl
theorem c1f:Rw "_law_points_by" (top 72) 207 2 y7:=by ac_rfl
theorem c1e:Rw "_law_letters_by" (top 73) 208 2 v5:=by ac_rfl
theorem c1d:Rw "_law_classes_by" (top 74) 209 2 v7:=by ac_rfl
theorem c1c:Rw "_law_items_by" (top 75) 210 5 w5:=by ac_rfl
theorem c1b:Rw "_law_rules_by" (top 76) 211 6 p7:=by ac_rfl
theorem c1a:Rw "_law_hall_by" (top 77) 212 2 F5:=by ac_rfl
theorem c0Z:Rw "_law_pair_text" (top 78) 213 1 y8:=by ac_rfl
theorem c0Y:Rw "_law_rule_text" (top 79) 214 1 y0:=by ac_rfl
theorem c0X:Rw "_law_hall_text" (top 80) 215 1 C2:=by ac_rfl
theorem c0W:Rw "_law_fits" (top 81) 217 3 z9:=by ac_rfl
theorem c0V:Rw "_law_feeds" (top 82) 218 3 A8:=by ac_rfl
theorem c0U:Rw "_law_rings" (top 83) 219 2 K8:=by ac_rfl
theorem c0T:Rw "_law_forward" (top 84) 220 2 F6:=by ac_rfl
theorem a5w:Rw "law" (top 85) 221 1 a6l:=by ac_rfl
theorem AH:FnScope ["self"] ["self"] (t9 SH):=⟨rfl,rfl,rfl,by decide+kernel,rfl,by decide+kernel,by decide+kernel⟩
theorem BH:Bd "__init__" "Hall.__init__" SH ["self"]:=fun _ _ _ _ _ _=>bd1 fun _=>rfl
theorem CH:cSs G ["self"] (t9 SH) 20 (M8 SH)=some N5.body:=by kernel_rfl
open PySem.W (nsIn codeIn keepIn findIn)
section
variable{K:PySem.W.Frag}{x:Str}
structure DfE(K:PySem.W.Frag)(x:Str)(st:Stmt):Prop where
 ex:∃f fd,nsIn K mainGlobals x=some (some (.ref f))/\Fun K x x st f fd
theorem b8x{st:Stmt}{f:Addr}{oc:Value}{od an:Option Addr}{osl:Array (Option Value)}{kV doc pm cdv ct:Value}(e1:nsIn K mainGlobals x=some (some (.ref f)))(e2:K.lookup f=some ⟨oc,od,.func (PySem.W.fnOf x x (U0 st) (M8 st) (t9 st) .none kV doc pm an cdv ct),osl⟩)(e3:codeIn K cdv x=true)(e4:keepIn K (.ref f)=true):DfE K x st:=⟨f,_,e1,b1k e2 e3 e4⟩
structure StrE(K:PySem.W.Frag)(x y:Str):Prop where
 ex:∃t,nsIn K mainGlobals x=some (some (.str y t))
theorem b4F{y:Str}{t:Tok}(e1:nsIn K mainGlobals x=some (some (.str y t))):StrE K x y:=⟨t,e1⟩
structure IntE(K:PySem.W.Frag)(x:Str)(i:Int):Prop where
 ex:∃t,nsIn K mainGlobals x=some (some (.int i t))
theorem b5Z{i:Int}{t:Tok}(e1:nsIn K mainGlobals x=some (some (.int i t))):IntE K x i:=⟨t,e1⟩
structure TupE(K:PySem.W.Frag)(x:Str)(vs:List V):Prop where
 ex:∃a,nsIn K mainGlobals x=some (some (.ref a))/\∀H,SqT K H a vs
theorem b2b{a:Addr}{d:Option Addr}{n:Nat}{sl:Array (Option Value)}{y z:Str}{t u:Tok}(e1:nsIn K mainGlobals x=some (some (.ref a)))(e2:K.lookup a=some ⟨.type "tuple",d,.seq #[.str y t,.str z u] n,sl⟩):TupE K x [.str y,.str z]:=
 ⟨a,e1,fun H=>.inr ⟨_,_,_,e2,rfl,rfl,by show 2<=sizeLine;decide,.cons ⟨_,rfl⟩ (.cons ⟨_,rfl⟩ .nil)⟩⟩
theorem b2a{a:Addr}{d:Option Addr}{n:Nat}{sl:Array (Option Value)}{y z v:Str}{t u r:Tok}(e1:nsIn K mainGlobals x=some (some (.ref a)))(e2:K.lookup a=some ⟨.type "tuple",d,.seq #[.str y t,.str z u,.str v r] n,sl⟩):TupE K x [.str y,.str z,.str v]:=
 ⟨a,e1,fun H=>.inr ⟨_,_,_,e2,rfl,rfl,by show 3<=sizeLine;decide,.cons ⟨_,rfl⟩ (.cons ⟨_,rfl⟩ (.cons ⟨_,rfl⟩ .nil))⟩⟩
structure DicE(K:PySem.W.Frag)(P:Program)(w:World)(x:Str)(gs:List (Key×V)):Prop where
 ex:∃a,nsIn K mainGlobals x=some (some (.ref a))/\a9p P w K a gs
theorem b3R{P:Program}{w:World}{a:Addr}{ep:Nat}{h1 h2 h3 h4:Int}{y1 y2 y3 y4:Str}{i1 i2 i3 i4:Int}{t1 t2 t3 t4 u1 u2 u3 u4:Tok}(e1:nsIn K mainGlobals x=some (some (.ref a)))
 (e2:K.lookup a=some ⟨.type "dict",none,.dict #[⟨h1,.str y1 t1,.int i1 u1⟩,⟨h2,.str y2 t2,.int i2 u2⟩,⟨h3,.str y3 t3,.int i3 u3⟩,⟨h4,.str y4 t4,.int i4 u4⟩] ep,#[]⟩) (ha:(a==sysModules)=false)
 (q1:h1=hashStr w y1) (q2:h2=hashStr w y2) (q3:h3=hashStr w y3) (q4:h4=hashStr w y4) (nd:([.inr y1,.inr y2,.inr y3,.inr y4]:List Key).Nodup):DicE K P w x [(.inr y1,.int i1),(.inr y2,.int i2),(.inr y3,.int i3),(.inr y4,.int i4)]:=by
 refine⟨a,e1,ha,[(.inr y1,.int i1 u1),(.inr y2,.int i2 u2),(.inr y3,.int i3 u3),(.inr y4,.int i4 u4)],?_,fun h kin=>⟨_,_,_,kin a _ e2,⟨rfl,rfl,rfl⟩,rfl,?_,?_,nd⟩⟩
 · exact .cons ⟨rfl,_,rfl⟩ (.cons ⟨rfl,_,rfl⟩ (.cons ⟨rfl,_,rfl⟩ (.cons ⟨rfl,_,rfl⟩ .nil)))
 · intro e he;simp only[List.mem_toArray,aB,not_mem_nil,or_false] at he
   rcases he with rfl|rfl|rfl|rfl
   · exact⟨.inr y1,strKind_is P w y1 t1,q1⟩
   · exact⟨.inr y2,strKind_is P w y2 t2,q2⟩
   · exact⟨.inr y3,strKind_is P w y3 t3,q3⟩
   · exact⟨.inr y4,strKind_is P w y4 t4,q4⟩
 · exact .cons (strKind_is P w y1 t1) rfl (.cons (strKind_is P w y2 t2) rfl (.cons (strKind_is P w y3 t3) rfl (.cons (strKind_is P w y4 t4) rfl .nil)))
structure HallE(K:PySem.W.Frag)(C:Addr):Prop where
 ex:∃f fd,Mk K C f/\Fun K "__init__" "Hall.__init__" SH f fd
theorem b3r{C f:Addr}{oc:Value}{od an:Option Addr}{osl:Array (Option Value)}{kV doc pm cdv ct:Value}(m1:PySem.W.makesIn K C=true)(m2:findIn K (.ref C) "__init__"=some (some (.ref f)))(m3:PySem.W.isFn K (.ref f)=true)(m4:keepIn K (.ref C)=true)
 (e2:K.lookup f=some ⟨oc,od,.func (PySem.W.fnOf "__init__" "Hall.__init__" (U0 SH) (M8 SH) (t9 SH) .none kV doc pm an cdv ct),osl⟩) (e3:codeIn K cdv "Hall.__init__"=true) (e4:keepIn K (.ref f)=true):HallE K C:=⟨f,_,⟨m1,m2,m3,m4⟩,b1k e2 e3 e4⟩
end
theorem J8{α:Type}{x y:Str}{a b:α}{l:List (Str×α)}(h:((y,a)::l).lookup x=some b):(x=y/\a=b)∨l.lookup x=some b:=by
 rw[lookup_cons] at h
 split at h
 · rename_i e;exact .inl ⟨eq_of_beq e,au h⟩
 · exact .inr h
theorem a5Y{α:Type}{x:Str}{b:α}(h:([]:List (Str×α)).lookup x=some b):False:=by simp at h
section
variable{K:PySem.W.Frag}{P:Program}{w:World}{h:Heap}{mg:Str->Option Value}
theorem row{x:Str}{st:Stmt}{id np:Nat}{fn:Fn}(X:K.In h)(Gg:h.Ns mainGlobals mg)(d:DfE K x st)(R:Rw x st id np fn):∃f fd st N ps,mg x=some (.ref f)/\RowOk K G F x x id np f fd st N ps:=by
 obtain⟨f,fd,e,F⟩:=d.ex;exact⟨f,fd,st,_,_,PySem.W.mg_of X Gg e,F,R.a,F.binds R.b,R.p,fn,R.i,R.q,R.s,R.c⟩
def a5v(K:PySem.W.Frag)(mg:Str->Option Value):List (Str×Nat×Nat)->Prop
 |[]=>True
 |p::l=>(∃f fd st N ps,mg p.1=some (.ref f)/\RowOk K G F p.1 p.1 p.2.1 p.2.2 f fd st N ps)/\a5v K mg l
theorem i9{p:Str×Nat×Nat}{l:List (Str×Nat×Nat)}(h:∃f fd st N ps,mg p.1=some (.ref f)/\RowOk K G F p.1 p.1 p.2.1 p.2.2 f fd st N ps)(r:a5v K mg l):a5v K mg (p::l):=⟨h,r⟩
theorem a7E:∀{l:List (Str×Nat×Nat)},a5v K mg l->∀x id np,l.lookup x=some (id,np)->∃f fd st N ps,mg x=some (.ref f)/\RowOk K G F x x id np f fd st N ps
 |[],_,x,id,np,h=>(a5Y h).elim
 |(y,a,b)::l,r,x,id,np,h=>by
  rcases J8 h with⟨rfl,e⟩|h
  · cases e;exact r.1
  · exact a7E r.2 x id np h
variable{c6:Addr}(k6:nsIn K mainGlobals "Hall"=some (some (.ref c6)))(f1:DfE K "words_of" (top 9))(f2:DfE K "made_of" (top 10))(f3:DfE K "is_name" (top 11))(f4:DfE K "is_number" (top 12))(f5:DfE K "is_signed_number" (top 13))(f6:DfE K "class_of_item" (top 14))(f7:DfE K "is_class_item" (top 15))(f8:DfE K "is_item" (top 16))(f9:DfE K "all_names" (top 17))(f10:DfE K "all_signed_numbers" (top 18))(f11:DfE K "all_items" (top 19))(f12:DfE K "read_hall" (top 45))(f13:DfE K "take_row" (top 46))(f14:DfE K "first_due" (top 47))(f15:DfE K "has_shapes" (top 48))(f16:DfE K "pair_of" (top 49))(f17:DfE K "take_shape" (top 50))(f18:DfE K "has_side_form" (top 51))(f19:DfE K "take_mark" (top 52))(f20:DfE K "take_point" (top 53))(f21:DfE K "has_letter_form" (top 54))(f22:DfE K "take_letter" (top 55))(f23:DfE K "take_gap" (top 56))(f24:DfE K "take_class" (top 57))(f25:DfE K "take_feature" (top 58))(f26:DfE K "take_rule" (top 59))(f27:DfE K "has_rule_form" (top 60))(f28:DfE K "rule_parts" (top 61))(f29:DfE K "has_items" (top 62))(f30:DfE K "has_item" (top 63))(f31:DfE K "has_rule" (top 64))(f33:DfE K "fits" (top 21))(f34:DfE K "fitting_shapes" (top 22))(f35:DfE K "feeds" (top 24))(f36:DfE K "fits_one_of" (top 25))(f37:DfE K "rings_of" (top 26))(f38:DfE K "feeders_by_title" (top 27))(f39:DfE K "shared" (top 28))(f40:DfE K "ring_among" (top 29))(f201:DfE K "_law_cell_at" (top 66))(f202:DfE K "_law_mixed" (top 67))(f203:DfE K "_law_names_by" (top 68))(f204:DfE K "_law_shapes_by" (top 69))(f205:DfE K "_law_spot_by" (top 70))(f206:DfE K "_law_marks_by" (top 71))(f207:DfE K "_law_points_by" (top 72))(f208:DfE K "_law_letters_by" (top 73))(f209:DfE K "_law_classes_by" (top 74))(f210:DfE K "_law_items_by" (top 75))(f211:DfE K "_law_rules_by" (top 76))(f212:DfE K "_law_hall_by" (top 77))(f213:DfE K "_law_pair_text" (top 78))(f214:DfE K "_law_rule_text" (top 79))(f215:DfE K "_law_hall_text" (top 80))(f217:DfE K "_law_fits" (top 81))(f218:DfE K "_law_feeds" (top 82))(f219:DfE K "_law_rings" (top 83))(f220:DfE K "_law_forward" (top 84))(f221:DfE K "law" (top 85))(c_FIGURES:StrE K "FIGURES" "0123456789")(c_NAME_SIGNS:StrE K "NAME_SIGNS" "abcdefghijklmnopqrstuvwxyz0123456789")(c_CLASS_SIGN:StrE K "CLASS_SIGN" "@")(c_LONGEST_NAME:IntE K "LONGEST_NAME" 12)(c_LONGEST_NUMBER:IntE K "LONGEST_NUMBER" 5)(c_MOST_SHAPES:IntE K "MOST_SHAPES" 60)(c_MOST_LETTERS:IntE K "MOST_LETTERS" 24)(c_MOST_CLASSES:IntE K "MOST_CLASSES" 20)(c_MOST_FEATURES:IntE K "MOST_FEATURES" 10)(c_MOST_RULES:IntE K "MOST_RULES" 30)(c_MOST_IN_CLASS:IntE K "MOST_IN_CLASS" 20)(c_MOST_AROUND:IntE K "MOST_AROUND" 3)(c_MOST_IN_CORE:IntE K "MOST_IN_CORE" 4)(c_MOST_TOLD:IntE K "MOST_TOLD" 3)(t_SIDES:TupE K "SIDES" [.str "above",.str "below"])(t_SWITCHES:TupE K "SWITCHES" [.str "on",.str "off"])(t_WAYS:TupE K "WAYS" [.str "left",.str "right",.str "either"])(dJ:DicE K P w "SHAPES_OF_JOIN" [(.inr "none",.int 1),(.inr "clear",.int 1),(.inr "back",.int 2),(.inr "both",.int 4)])(hall:HallE K c6)(cl:Cls K c6)(n_shapes:findIn K (.ref c6) "shapes"=some none)(n_marks:findIn K (.ref c6) "marks"=some none)(n_points:findIn K (.ref c6) "points"=some none)(n_letters:findIn K (.ref c6) "letters"=some none)(n_gaps:findIn K (.ref c6) "gaps"=some none)(n_classes:findIn K (.ref c6) "classes"=some none)(n_features:findIn K (.ref c6) "features"=some none)(n_rules:findIn K (.ref c6) "rules"=some none)(b_len:nsIn K mainGlobals "len"=some none)(b_str:nsIn K mainGlobals "str"=some none)(b_int:nsIn K mainGlobals "int"=some none)(b_list:nsIn K mainGlobals "list"=some none)(b_tuple:nsIn K mainGlobals "tuple"=some none)(b_all:nsIn K mainGlobals "all"=some none)(b_any:nsIn K mainGlobals "any"=some none)(b_isinstance:nsIn K mainGlobals "isinstance"=some none)(b_bool:nsIn K mainGlobals "bool"=some none)(b_range:nsIn K mainGlobals "range"=some none)(b_enumerate:nsIn K mainGlobals "enumerate"=some none)(b_zip:nsIn K mainGlobals "zip"=some none)(b_dict:nsIn K mainGlobals "dict"=some none)(b_reversed:nsIn K mainGlobals "reversed"=some none)
include k6 f1 f2 f3 f4 f5 f6 f7 f8 f9 f10 f11 f12 f13 f14 f15 f16 f17 f18 f19 f20 f21 f22 f23 f24 f25 f26 f27 f28 f29 f30 f31 f33 f34 f35 f36 f37 f38 f39 f40 f201 f202 f203 f204 f205 f206 f207 f208 f209 f210 f211 f212 f213 f214 f215 f217 f218 f219 f220 f221 c_FIGURES c_NAME_SIGNS c_CLASS_SIGN c_LONGEST_NAME c_LONGEST_NUMBER c_MOST_SHAPES c_MOST_LETTERS c_MOST_CLASSES c_MOST_FEATURES c_MOST_RULES c_MOST_IN_CLASS c_MOST_AROUND c_MOST_IN_CORE c_MOST_TOLD t_SIDES t_SWITCHES t_WAYS dJ hall cl n_shapes n_marks n_points n_letters n_gaps n_classes n_features n_rules b_len b_str b_int b_list b_tuple b_all b_any b_isinstance b_bool b_range b_enumerate b_zip b_dict b_reversed
theorem b2l(X:K.In h)(Gg:h.Ns mainGlobals mg):Stat P w ⟨K,fun _=>c6,[6],[]⟩ G ct F mg where
 scal:=fun x d hx=>by
  have S:∀{x y:Str},StrE K x y->∃u v,mg x=some u/\n0 v u/\∀m H,Rp m H (.str y) v:=fun e=>by
   obtain⟨t,e⟩:=e.ex;exact⟨_,.str _,PySem.W.mg_of X Gg e,⟨t,rfl⟩,fun _ _=>rfl⟩
  have I:∀{x:Str} {i:Int},IntE K x i->∃u v,mg x=some u/\n0 v u/\∀m H,Rp m H (.int i) v:=fun e=>by
   obtain⟨t,e⟩:=e.ex;exact⟨_,.int _,PySem.W.mg_of X Gg e,⟨t,rfl⟩,fun _ _=>rfl⟩
  unfold G se at hx
  simp only at hx
  rcases J8 hx with⟨rfl,rfl⟩|hx
  · exact S c_FIGURES
  rcases J8 hx with⟨rfl,rfl⟩|hx
  · exact S c_NAME_SIGNS
  rcases J8 hx with⟨rfl,rfl⟩|hx
  · exact S c_CLASS_SIGN
  rcases J8 hx with⟨rfl,rfl⟩|hx
  · exact I c_LONGEST_NAME
  rcases J8 hx with⟨rfl,rfl⟩|hx
  · exact I c_LONGEST_NUMBER
  rcases J8 hx with⟨rfl,rfl⟩|hx
  · exact I c_MOST_SHAPES
  rcases J8 hx with⟨rfl,rfl⟩|hx
  · exact I c_MOST_LETTERS
  rcases J8 hx with⟨rfl,rfl⟩|hx
  · exact I c_MOST_CLASSES
  rcases J8 hx with⟨rfl,rfl⟩|hx
  · exact I c_MOST_FEATURES
  rcases J8 hx with⟨rfl,rfl⟩|hx
  · exact I c_MOST_RULES
  rcases J8 hx with⟨rfl,rfl⟩|hx
  · exact I c_MOST_IN_CLASS
  rcases J8 hx with⟨rfl,rfl⟩|hx
  · exact I c_MOST_AROUND
  rcases J8 hx with⟨rfl,rfl⟩|hx
  · exact I c_MOST_IN_CORE
  rcases J8 hx with⟨rfl,rfl⟩|hx
  · exact I c_MOST_TOLD
  exact(a5Y hx).elim
 tups:=fun x ds hx=>by
  unfold G at hx
  simp only at hx
  rcases J8 hx with⟨rfl,rfl⟩|hx
  · obtain⟨a,e,s⟩:=t_SIDES.ex;exact⟨a,_,PySem.W.mg_of X Gg e,s,fun _ _=>⟨.str "above",_,rfl,rfl,⟨.str "below",_,rfl,rfl,rfl⟩⟩⟩
  rcases J8 hx with⟨rfl,rfl⟩|hx
  · obtain⟨a,e,s⟩:=t_WAYS.ex;exact⟨a,_,PySem.W.mg_of X Gg e,s,fun _ _=>⟨.str "left",_,rfl,rfl,⟨.str "right",_,rfl,rfl,⟨.str "either",_,rfl,rfl,rfl⟩⟩⟩⟩
  rcases J8 hx with⟨rfl,rfl⟩|hx
  · obtain⟨a,e,s⟩:=t_SWITCHES.ex;exact⟨a,_,PySem.W.mg_of X Gg e,s,fun _ _=>⟨.str "on",_,rfl,rfl,⟨.str "off",_,rfl,rfl,rfl⟩⟩⟩
  exact(a5Y hx).elim
 dicts:=fun x kvs hx=>by
  unfold G at hx
  simp only at hx
  rcases J8 hx with⟨rfl,rfl⟩|hx
  · obtain⟨a,e,d⟩:=dJ.ex;exact⟨a,_,PySem.W.mg_of X Gg e,d,fun _ _=>.cons ⟨rfl,rfl⟩ (.cons ⟨rfl,rfl⟩ (.cons ⟨rfl,rfl⟩ (.cons ⟨rfl,rfl⟩ .nil)))⟩
  exact(a5Y hx).elim
 blt:=fun x hx=>by
  rw[List.contains_iff_mem] at hx;unfold G at hx;simp only[aB,not_mem_nil,or_false] at hx
  rcases hx with rfl|rfl|rfl|rfl|rfl|rfl|rfl|rfl|rfl|rfl|rfl|rfl|rfl|rfl
  · exact PySem.W.ns_none_of X Gg b_len
  · exact PySem.W.ns_none_of X Gg b_str
  · exact PySem.W.ns_none_of X Gg b_int
  · exact PySem.W.ns_none_of X Gg b_list
  · exact PySem.W.ns_none_of X Gg b_tuple
  · exact PySem.W.ns_none_of X Gg b_all
  · exact PySem.W.ns_none_of X Gg b_any
  · exact PySem.W.ns_none_of X Gg b_isinstance
  · exact PySem.W.ns_none_of X Gg b_bool
  · exact PySem.W.ns_none_of X Gg b_range
  · exact PySem.W.ns_none_of X Gg b_enumerate
  · exact PySem.W.ns_none_of X Gg b_zip
  · exact PySem.W.ns_none_of X Gg b_dict
  · exact PySem.W.ns_none_of X Gg b_reversed
 fn:=fun x id np hx=>a7E (l:=fns) (i9 (row X Gg f1 R1) (i9 (row X Gg f2 R2) (i9 (row X Gg f3 R3) (i9 (row X Gg f4 R4) (i9 (row X Gg f5 R5) (i9 (row X Gg f6 R6) (i9 (row X Gg f7 R7) (i9 (row X Gg f8 R8) (i9 (row X Gg f9 R9) (i9 (row X Gg f10 R10) (i9 (row X Gg f11 R11) (i9 (row X Gg f12 R12) (i9 (row X Gg f13 R13) (i9 (row X Gg f14 R14) (i9 (row X Gg f15 R15) (i9 (row X Gg f16 R16) (i9 (row X Gg f17 R17) (i9 (row X Gg f18 R18) (i9 (row X Gg f19 R19) (i9 (row X Gg f20 R20) (i9 (row X Gg f21 R21) (i9 (row X Gg f22 R22) (i9 (row X Gg f23 R23) (i9 (row X Gg f24 R24) (i9 (row X Gg f25 R25) (i9 (row X Gg f26 R26) (i9 (row X Gg f27 R27) (i9 (row X Gg f28 R28) (i9 (row X Gg f29 R29) (i9 (row X Gg f30 R30) (i9 (row X Gg f31 R31) (i9 (row X Gg f33 R33) (i9 (row X Gg f34 R34) (i9 (row X Gg f35 R35) (i9 (row X Gg f36 R36) (i9 (row X Gg f37 R37) (i9 (row X Gg f38 R38) (i9 (row X Gg f39 R39) (i9 (row X Gg f40 R40) (i9 (row X Gg f201 c1l) (i9 (row X Gg f202 c1k) (i9 (row X Gg f203 c1j) (i9 (row X Gg f204 c1i) (i9 (row X Gg f205 c1h) (i9 (row X Gg f206 c1g) (i9 (row X Gg f207 c1f) (i9 (row X Gg f208 c1e) (i9 (row X Gg f209 c1d) (i9 (row X Gg f210 c1c) (i9 (row X Gg f211 c1b) (i9 (row X Gg f212 c1a) (i9 (row X Gg f213 c0Z) (i9 (row X Gg f214 c0Y) (i9 (row X Gg f215 c0X) (i9 (row X Gg f217 c0W) (i9 (row X Gg f218 c0V) (i9 (row X Gg f219 c0U) (i9 (row X Gg f220 c0T) (i9 (row X Gg f221 a5w) (True.intro)))))))))))))))))))))))))))))))))))))))))))))))))))))))))))) x id np hx
 obj:=fun x k hx=>by
  unfold G at hx
  simp only at hx
  rcases J8 hx with⟨rfl,rfl⟩|hx
  · obtain⟨f,fd,M,F⟩:=hall.ex;exact⟨by simp,PySem.W.mg_of X Gg k6,f,fd,SH,["self"],["self"],"Hall.__init__",M,F,AH,F.binds BH,rfl,N5,rfl,rfl,rfl,CH⟩
  exact(a5Y hx).elim
 att:=fun k hk=>by
  refine⟨cl,fun f hf=>?_⟩
  rw[List.contains_iff_mem] at hf;unfold G at hf;simp only[aB,not_mem_nil,or_false] at hf
  rcases hf with rfl|rfl|rfl|rfl|rfl|rfl|rfl|rfl
  · exact n_shapes
  · exact n_marks
  · exact n_points
  · exact n_letters
  · exact n_gaps
  · exact n_classes
  · exact n_features
  · exact n_rules
theorem b2m:∃cA,DfE K "law" (top 85)/\∀{h:Heap} {mg:Str->Option Value},K.In h->h.Ns mainGlobals mg->Stat P w ⟨K,cA,[6],[]⟩ G ct F mg:=⟨_,f221,fun X Gg=>b2l k6 f1 f2 f3 f4 f5 f6 f7 f8 f9 f10 f11 f12 f13 f14 f15 f16 f17 f18 f19 f20 f21 f22 f23 f24 f25 f26 f27 f28 f29 f30 f31 f33 f34 f35 f36 f37 f38 f39 f40 f201 f202 f203 f204 f205 f206 f207 f208 f209 f210 f211 f212 f213 f214 f215 f217 f218 f219 f220 f221 c_FIGURES c_NAME_SIGNS c_CLASS_SIGN c_LONGEST_NAME c_LONGEST_NUMBER c_MOST_SHAPES c_MOST_LETTERS c_MOST_CLASSES c_MOST_FEATURES c_MOST_RULES c_MOST_IN_CLASS c_MOST_AROUND c_MOST_IN_CORE c_MOST_TOLD t_SIDES t_SWITCHES t_WAYS dJ hall cl n_shapes n_marks n_points n_letters n_gaps n_classes n_features n_rules b_len b_str b_int b_list b_tuple b_all b_any b_isinstance b_bool b_range b_enumerate b_zip b_dict b_reversed X Gg⟩
end
open PyProof.Rows hiding St
theorem b7k{l:PySem.W.OpenLaw}{n k:Nat}{q:Program}{loose:List Str}{XP:(Str->Option Value)->Heap->Prop}{YP:World->Heap->Prop}{d:DefRec}{K:Params->PySem.W.Frag}{CX:World->CXT}{sp:PySem.W.Frag->Sp}{x:Str}
 (hn:l.most=some n) (hn2:n<=sizeLine) (hdf:d.params.defaults=[]) (hr:Room k callerA)
 (hY:∀(w:World) (h:Heap),YP w h->(K w.params).In h)
 (F:∀(w:World) (mg:Str->Option Value) (fa:Addr) (h:Heap),(K w.params).In h->h.Ns mainGlobals mg->mg d.name=some (.ref fa)→
  ∃fd:FuncData,(∀(s:Shared) (u:Value),BindsTo s fd ⟨[u],[]⟩ [(x,u)])∧
   ∀base:Heap,(K w.params).In base->base.Ns mainGlobals mg->FnOk l.prog w (K w.params) mg base (CX w) k fa fd [x] (sp (K w.params)))
 (hsp:∀(w:World) (H:Hp) (a:Addr) (ns:List Int),ns.length<=n->b1U H->SqL (K w.params) H a (ns.map V.int)->sp (K w.params) [.ref a] H (fun v _=>v=.bl true) fun _ _ _=>False)
 (hCX:∀(w:World) (H:Hp) (s:Shared) (e:Value) (s':Shared),CX w [] H s (fun _ _ _=>False) e s'->False):
 PySem.W.WalkO q loose XP YP l.row.toRowW d [] (fun f vs=>PySem.call f vs):=
 b1X (K:=K) (CX:=CX) (sp:=fun w=>sp (K w.params)) hn hn2 hdf hr hY F hsp hCX
def spK(K:PySem.W.Frag):Sp:=fun vs H Q E=>∀cA,a4w ⟨K,cA,[6],[]⟩ (b4 ct F 20) 221 1 vs H Q E
theorem b6h{K:PySem.W.Frag}{P:Program}{w:World}{cA:Nat->Addr}{h:Heap}{mg:Str->Option Value}{fa:Addr}(D:DfE K "law" (top 85))(S:Stat P w ⟨K,cA,[6],[]⟩ G ct F mg)(X:K.In h)(Gg:h.Ns mainGlobals mg)(hmg:mg "law"=some (.ref fa)):
 ∃fd,(∀(s:Shared) (u:Value),BindsTo s fd ⟨[u],[]⟩ [("_law_script",u)])/\∀base:Heap,FnOk P w K mg base CX0 46 fa fd ["_law_script"] (spK K):=by
 obtain⟨f,fd,e,Fn⟩:=D.ex;have e0:=hmg.symm.trans (PySem.W.mg_of X Gg e);cases e0
 have R:RowOk K G F "law" "law" 221 1 fa fd (top 85) (nO (top 85)) (pO (top 85)):=⟨Fn,a5w.a,Fn.binds a5w.b,a5w.p,a6l,a5w.i,a5w.q,a5w.s,a5w.c⟩
 refine⟨fd,fun s u=>?_,fun base=>?_⟩
 · obtain⟨oc,od,kV,doc,pm,an,cdv,ct,osl,rfl,lk,hcd⟩:=Fn.ex;exact .of_eq (a5w.b kV doc pm an cdv ct [u] rfl)
 · have ih:=b6g S 19;have g:=a5d S ih.1 ih.2 (b1P S 19) R base;exact⟨fun vs H Q E hh=>g.len vs H Q E (hh cA),fun A outer s H args us vs Q E a1 a2 a3 a4 hh=>g.run A outer s H args us vs Q E a1 a2 a3 a4 (hh cA)⟩
noncomputable def isL(o:Obj):Bool:=match o.cls with
 |.type n=>n=="list"
 |_=>false
def b0D(K:PySem.W.Frag):Bool:=K.all fun p=>!isL p.2
theorem b2Y{K:PySem.W.Frag}(h:b0D K=true){a:Addr}{o:Obj}(e:K.lookup a=some o):o.cls≠.type "list":=by
 intro z
 have hm:∃b,(b,o)∈K:=by
  clear h
  induction K with
  |nil=>cases e
  |cons p r ih=>
   rw[lookup_cons] at e
   split at e
   · cases e;exact⟨p.1,aP⟩
   · obtain⟨b,hb⟩:=ih e;exact⟨b,aA _ hb⟩
 obtain⟨b,hb⟩:=hm
 have:=aX.mp h (b,o) hb
 unfold isL at this
 simp only at this
 rw[z] at this
 simp at this
theorem a5K(m:List Addr)(H:Hp):∀ns:List Int,Rps m H (ns.map D.int) (ns.map V.int)
 |[]=>rfl
 |n::r=>⟨_,_,rfl,rfl,a5K m H r⟩
theorem b5L{K:PySem.W.Frag}{H:Hp}{a:Addr}{ns:List Int}(LT:∀ns:List Int,ns.length<=63->∃h',b4 ct F 20 221 [.ref 0] [.rol (ns.map .int)]=.ok (.bl true) h')(nl:b0D K=true)(hl:ns.length<=63)(hO:b1U H)(hS:SqL K H a (ns.map V.int)):
 spK K [.ref a] H (fun v _=>v=.bl true) fun _ _ _=>False:=by
 intro cA;obtain⟨h',e⟩:=LT ns hl
 have hf:∃o,H a=some (.frz o (.lst (ns.map V.int))):=by
  rcases hS with hS|⟨o,its,n,hk,hc,_⟩
  · rcases hS with hS|hS
    · rcases hO a with z|⟨o,xs,z⟩
      · rw[hS] at z;cases z
      · rw[hS] at z;cases z
    · exact hS
  · exact absurd hc (b2Y nl hk)
 refine⟨[.ref 0],[.rol (ns.map .int)],[a],rfl,⟨_,_,rfl,⟨a,rfl,rfl⟩,rfl⟩,⟨rfl,by simp,fun n b c hn hc=>?_⟩,?_⟩
 · cases n with
   |zero=>
    cases hn;cases hc;obtain⟨o,hf⟩:=hf;exact⟨_,hS,a5K _ _ _,o,hf⟩
   |succ n=>simp at hn
 · rw[e];exact fun m' H' v _ _ _ rv=>rv
end K34
namespace EV
open PySem L2 L2T
noncomputable def K2:R Out->R D
 |.ok (.nx _) h=>.ok .non h
 |.ok (.rt d) h=>.ok d h
 |.no=>.no
theorem a0K:∀{a b:List Char},a.map Char.toNat=b.map Char.toNat->a=b
 |[],[],_=>rfl
 |[],_::_,h=>by simp at h
 |_::_,[],h=>by simp at h
 |x::xs,y::ys,h=>by
  rw[map_cons,map_cons] at h
  injection h with h1 h2
  rw[a0K h2,Char.ext (UInt32.toNat_inj.mp h1)]
theorem a4L{a b:String}:(Str.ofString a=Str.ofString b)=(a=b):=propext ⟨fun h=>by
 rw[Str.ofString_eq_toList,Str.ofString_eq_toList] at h
 injection h with h
 have:=congrArg Array.toList h
 exact String.toList_inj.mp (a0K (by simpa using this)),fun h=>by rw[h]⟩
theorem sl1:(1<=SL)=True:=eq_true (by decide)
theorem sl2:(2<=SL)=True:=eq_true (by decide)
theorem sl3:(3<=SL)=True:=eq_true (by decide)
theorem sl4:(4<=SL)=True:=eq_true (by decide)
theorem sl5:(5<=SL)=True:=eq_true (by decide)
theorem sl6:(6<=SL)=True:=eq_true (by decide)
variable{env:o9}{h:AH}
theorem a7O:K2 (.ok (.nx env) h)=.ok .non h:=rfl
variable{d:D}
theorem b2R:K2 (.ok (.rt d) h)=.ok d h:=rfl
theorem b2S:K2 .no=.no:=rfl
structure PF(F:Nat->Option Fn):Prop where
 f1:F 1=some X2
 f2:F 2=some a0x
 f3:F 3=some a0y
 f4:F 4=some T7
 f5:F 5=some D1
 f6:F 6=some J4
 f7:F 7=some J1
 f8:F 8=some a0z
 f9:F 9=some a0d
 f10:F 10=some F0
 f11:F 11=some a0e
 f12:F 12=some T6
 f13:F 13=some B7
 f14:F 14=some T9
 f15:F 15=some Q0
 f16:F 16=some a0w
 f17:F 17=some O7
 f18:F 18=some J2
 f19:F 19=some T5
 f20:F 20=some O8
 f21:F 21=some E4
 f22:F 22=some M5
 f23:F 23=some X4
 f24:F 24=some O9
 f25:F 25=some K7
 f26:F 26=some T4
 f27:F 27=some J3
 f28:F 28=some P9
 f29:F 29=some T8
 f30:F 30=some X9
 f31:F 31=some X5
 f32:F 32=some N5
variable{n:Nat}{f:Nat}{ds:List D}{p:Pat}{c:CF}{l:List D}{α:Type}{g:AH}{r:R D}{i:Nat}{o:B}{neg:Bool}{kvs:List (D×D)}{u:Ss}{it:I}{h1:AH}
section
variable{ct:CT}{F:Nat->Option Fn}
theorem i6{fd:Fn}(hF:F f=some fd)(hl:ds.length=fd.np):b4 ct F (n+1) f ds h=gcR fd.gc h (K2 (exs ct (b4 ct F n) fd.body (ds.map some++List.replicate (fd.ns-fd.np) none) h)):=by
 show(match F f with
  |none=>R.no
  |some fd=>if ds.length=fd.np then gcR fd.gc h (match exs ct (b4 ct F n) fd.body (ds.map some++List.replicate (fd.ns-fd.np) none) h with
   |.ok (.nx _) h'=>.ok .non h'
   |.ok (.rt d) h'=>.ok d h'
   |.no=>.no) else .no)=_
 rw[hF]
 simp only
 rw[av hl];generalize exs ct (b4 ct F n) fd.body (ds.map some++List.replicate (fd.ns-fd.np) none) h=r
 cases r with
 |ok o h=>cases o<;>rfl
 |no=>rfl
theorem a0W{g:List (Nat×Cell)}{p:Pat}{t:o9->AH->R Bool}{e:o9->AH->R D}{env0:o9}{h:AH}(hg:gOk g h=true)(B:D->Bool)(f:D->D)(env:D->o9):
 ∀(l acc:List D),(∀x∈l,D6 p x env0=some (env x)/\t (env x) h=.ok (B x) h/\(B x=true->e (env x) h=.ok (f x) h))->acc.length+l.length<=SL->N6 g p t e env0 l acc h=.ok (acc++(l.filter B).map f) h
 |[],acc,_,_=>by rw[N6,av hg];simp
 | x::r,acc,hx,hl=>by
  obtain⟨h1,h2,h3⟩:=hx x aP;have ih:=fun acc' hl'=>a0W hg B f env r acc' (fun y hy=>hx y (aA _ hy)) hl'
  rw[N6,av hg,h1]
  simp only
  rw[h2,b8];rw[length_cons] at hl
  cases hb:B x with
  |true=>
   rw[av rfl,h3 hb,b8,av (by omega),ih _ (by simp;omega),List.filter_cons_of_pos hb]
   simp
  |false=>
   rw[aw (by simp),ih _ (by omega),List.filter_cons_of_neg (by simp[hb])]
theorem a9m{g:List (Nat×Cell)}{e:o9->AH->R D}{env0:o9}(hg:gOk g h=true)(f:D->D)(env:D->o9)(l:List D)(hx:∀x∈l,D6 p x env0=some (env x)/\e (env x) h=.ok (f x) h)(hl:l.length<=SL):
 N6 g p (tst ct c .yes) e env0 l [] h=.ok (l.map f) h:=by
 have:=a0W (t:=tst ct c .yes) hg (fun _=>true) f env l [] (fun x hx'=>⟨(hx x hx').1,by simp only[tst],fun _=>(hx x hx').2⟩) (by simpa using hl)
 rw[this,List.filter_eq_self.mpr (fun _ _=>rfl),nil_append]
theorem a3p{α:Type}(P:α->Bool):∀l:List α,a6y (l.map fun x=>D.bl (P x))=some (l.map P)
 |[]=>rfl
 |x::r=>by rw[map_cons,a6y,a3p P r];rfl
theorem V4:∀l:List Str,a1O (l.map D.str)=some l
 |[]=>rfl
 |x::r=>by rw[map_cons,a1O,V4 r];rfl
theorem a4F:rdL (h++[.lst l]) h.length=some l:=by
 unfold rdL;simp
theorem b6{c:Cell}:(h++[c])[h.length]? =some c:=by simp
theorem a2s{P:α->Bool}{l:List α}:biD .all (h++[.lst (l.map fun x=>D.bl (P x))]) [.ref h.length]=.ok (.bl (l.all P)) (h++[.lst (l.map fun x=>D.bl (P x))]):=by
 simp only[biD,b6,a4F,a3p];congr 2;simp[all_map]
theorem a5t{P:α->Bool}{l:List α}:biD .any (h++[.lst (l.map fun x=>D.bl (P x))]) [.ref h.length]=.ok (.bl (l.any P)) (h++[.lst (l.map fun x=>D.bl (P x))]):=by
 simp only[biD,b6,a4F,a3p];congr 2;simp[List.any_map]
theorem gc1(hd:d.flat=true):gcR 1 h (.ok d (h++g))=.ok d h:=by
 unfold gcR
 simp only
 rw[aw (by decide)]
 simp[hd]
theorem x3(hd:d.flat=true):gcR 1 h (.ok d h)=.ok d h:=by
 have:=gc1 (h:=h) (g:=[]) hd
 simpa using this
theorem gc0:gcR 0 h r=r:=by
 cases r<;>rfl
noncomputable def M0(row:Str):List Str:=(Txt.split row " ").filter fun w=>decide (w≠"")
theorem a1Q(c:Nat):∀cs:List Nat,∃ps:List (List Nat),ps≠[]/\(∀p∈ps,c∉p)/\jn c ps=cs
 |[]=>⟨[[]],by simp,by simp,rfl⟩
 | x ::cs=>by
  obtain⟨ps,h1,h2,h3⟩:=a1Q c cs
  by_cases hx:x=c
  · subst hx;refine⟨[]::ps,by simp,fun p hp=>?_,?_⟩
    · rcases aB.mp hp with rfl|hp
      · simp
      · exact h2 p hp
    · cases ps with
      |nil=>exact absurd rfl h1
      |cons p r=>rw[←h3];rfl
  · cases ps with
    |nil=>exact absurd rfl h1
    |cons p r=>
     refine⟨(x::p)::r,by simp,fun q hq=>?_,?_⟩
     · rcases aB.mp hq with rfl|hq
       · intro hc
         rcases aB.mp hc with e|e
         · exact hx e.symm
         · exact h2 p aP e
       · exact h2 q (aA _ hq)
     · rw[←h3]
       cases r<;>rfl
theorem b0R(c:Nat):∀ps:List (List Nat),ps.length<=(jn c ps).length+1
 |[]=>by simp
 |[x]=>by simp
 |x::y::r=>by
  have:=b0R c (y::r)
  show(y::r).length+1<=(x++c::jn c (y::r)).length+1
  simp only[am,length_cons] at this⊢;omega
theorem a8z(x:Str)(c:Nat):(Txt.split x ⟨#[c]⟩).length<=x.length+1:=by
 obtain⟨ps,h1,h2,h3⟩:=a1Q c (cd x)
 have e:(ps.map fun p=>(⟨p.toArray⟩:Str)).map cd=ps:=by
  rw[aD];refine List.map_id'' (fun p=>?_) ps
  simp[cd]
 rw[a2y (ps:=ps.map fun p=>(⟨p.toArray⟩:Str)) (by simpa using h1) (fun p hp=>by
  obtain⟨q,hq,rfl⟩:=ak.mp hp
  simpa [cd] using h2 q hq) (by rw[e,h3]),aa,←o4,←h3]
 exact b0R c ps
theorem C1:∀l:List Str,D.flats (l.map D.str)=true
 |[]=>rfl
 |x::r=>by rw[map_cons,D.flats,C1 r];rfl
section
variable{a b e:E}{t:T}
theorem b8B:ev ct c (.v i) env h=(match env[i]? with
 |some (some d)=>.ok d h
 |_=>.no):=by(rw[ev];try rfl)
theorem c0x:ev ct c (.k d) env h=.ok d h:=by(rw[ev];try rfl)
theorem b6A:ev ct c (.bin o a b) env h=(ev ct c a env h).bind fun x h1=>(ev ct c b env h1).bind fun y h2=>op2 o h2 x y:=by(rw[ev];try rfl)
theorem b6w:ev ct c (.isN a) env h=(ev ct c a env h).bind fun x h1=>.ok (.bl (decide (x=.non))) h1:=by(rw[ev];try rfl)
theorem b3F:ev ct c (.notN a) env h=(ev ct c a env h).bind fun x h1=>.ok (.bl (!decide (x=.non))) h1:=by(rw[ev];try rfl)
theorem b8D:ev ct c (.nt a) env h=(asB (ev ct c a env h)).bind fun b h1=>.ok (.bl (!b)) h1:=by(rw[ev];try rfl)
theorem b8I:ev ct c (.an a b) env h=(asB (ev ct c a env h)).bind fun x h1=>if x=true then ev ct c b env h1 else .ok (.bl false) h1:=by(rw[ev];try rfl)
theorem b6r:ev ct c (.orr a b) env h=(asB (ev ct c a env h)).bind fun x h1=>if x=true then .ok (.bl true) h1 else ev ct c b env h1:=by(rw[ev];try rfl)
theorem b6z{p:B}:ev ct c (.chn o p a b e) env h=(ev ct c a env h).bind fun x h1=>(ev ct c b env h1).bind fun y h2=>(asB (op2 o h2 x y)).bind fun k h3=>if k=true then(ev ct c e env h3).bind fun z h4=>op2 p h4 y z else .ok (.bl false) h3:=by(rw[ev];try rfl)
theorem b8G:ev ct c (.ix a b) env h=(ev ct c a env h).bind fun x h1=>(ev ct c b env h1).bind fun y h2=>ixD h2 x y:=by(rw[ev];try rfl)
theorem b8C{lo hi:O}:ev ct c (.sl a lo hi) env h=(ev ct c a env h).bind fun x h1=>(evo ct c lo env h1).bind fun l h2=>(evo ct c hi env h2).bind fun u h3=>slD h3 l u x:=by(rw[ev];try rfl)
theorem b6y{f:Str}:ev ct c (.fld a f) env h=(ev ct c a env h).bind fun x h1=>X0 h1 f x:=by(rw[ev];try rfl)
theorem b1A{es:Es}:ev ct c (.lst es) env h=(evs ct c es env h).bind fun ds h1=>if ds.length<=SL then y9 (.lst ds) h1 else .no:=by(rw[ev];try rfl)
theorem b6o{es:Es}:ev ct c (.tup es) env h=(evs ct c es env h).bind fun ds h1=>if ds.length<=SL then .ok (.tup ds) h1 else .no:=by(rw[ev];try rfl)
theorem b3I:ev ct c .dnew env h=y9 (.dict []) h:=by(rw[ev];try rfl)
theorem b6s:ev ct c (.neg a) env h=(ev ct c a env h).bind fun x h1=>(match x with
 |.int i=>.ok (.int (-i)) h1
 |_=>.no):=by(rw[ev];try rfl)
theorem b3L{es:Es}:ev ct c (.call f es) env h=(evs ct c es env h).bind fun ds h1=>c f ds h1:=by(rw[ev];try rfl)
theorem b8F{k:Nat}{es:Es}:ev ct c (.mk k es) env h=(evs ct c es env h).bind fun ds h1=>(c (ct.init k) (.ref h1.length::ds) (h1++[.obj k []])).bind fun r h2=>(match r with
 |.non=>.ok (.ref h1.length) h2
 |_=>.no):=by(rw[ev];try rfl)
theorem b8H{b:Bi}{es:Es}:ev ct c (.bi b es) env h=(evs ct c es env h).bind fun ds h1=>biD b h1 ds:=by(rw[ev];try rfl)
theorem b8E{b:Mt}{o:E}{es:Es}:ev ct c (.mt b o es) env h=(ev ct c o env h).bind fun x h1=>if mtT b h1 x=true then(evs ct c es env h1).bind fun ds h2=>mtD b h2 x ds else .no:=by(rw[ev];try rfl)
theorem b6x:ev ct c (.gin neg a ds) env h=(ev ct c a env h).bind fun x h1=>if w6 x=true/\ds.all w6=true then .ok (.bl (inD x ds !=neg)) h1 else .no:=by(rw[ev];try rfl)
theorem b3H:ev ct c (.gdin neg a kvs) env h=(ev ct c a env h).bind fun x h1=>if(J6 x).isSome=true then .ok (.bl ((n9 kvs x).isSome !=neg)) h1 else .no:=by(rw[ev];try rfl)
theorem b3G:ev ct c (.gdix a kvs) env h=(ev ct c a env h).bind fun x h1=>if(J6 x).isSome=true then(match n9 kvs x with
 |some d=>.ok d h1
 |none=>.no) else .no:=by(rw[ev];try rfl)
theorem b3E:evs ct c .nil env h=.ok [] h:=by(rw[evs];try rfl)
theorem b1x{r:Es}:evs ct c (.cons e r) env h=(ev ct c e env h).bind fun d h1=>(evs ct c r env h1).bind fun ds h2=>.ok (d::ds) h2:=by(rw[evs];try rfl)
theorem a7w:tst ct c .yes env h=.ok true h:=by(rw[tst];try rfl)
theorem a4p:tst ct c (.val e) env h=asB (ev ct c e env h):=by(rw[tst];try rfl)
theorem b2e:tst ct c (.cmp o a b) env h=asB ((ev ct c a env h).bind fun x h1=>(ev ct c b env h1).bind fun y h2=>op2 o h2 x y):=by(rw[tst];try rfl)
theorem b2d:tst ct c (.isN a) env h=(ev ct c a env h).bind fun x h1=>.ok (decide (x=.non)) h1:=by(rw[tst];try rfl)
theorem a9w:tst ct c (.notN a) env h=(ev ct c a env h).bind fun x h1=>.ok (!decide (x=.non)) h1:=by(rw[tst];try rfl)
theorem b2f{p:B}:tst ct c (.chn o p a b e) env h=asB ((ev ct c a env h).bind fun x h1=>(ev ct c b env h1).bind fun y h2=>(asB (op2 o h2 x y)).bind fun k h3=>if k=true then(ev ct c e env h3).bind fun z h4=>op2 p h4 y z else .ok (.bl false) h3):=by(rw[tst];try rfl)
theorem b4x{u:T}:tst ct c (.an t u) env h=(tst ct c t env h).bind fun x h1=>if x=true then tst ct c u env h1 else .ok false h1:=by(rw[tst];try rfl)
theorem b2c{u:T}:tst ct c (.orr t u) env h=(tst ct c t env h).bind fun x h1=>if x=true then .ok true h1 else tst ct c u env h1:=by(rw[tst];try rfl)
theorem a6D:tst ct c (.nt t) env h=(tst ct c t env h).bind fun x h1=>.ok (!x) h1:=by(rw[tst];try rfl)
theorem b6m:evo ct c .no env h=.ok none h:=by(rw[evo];try rfl)
theorem b6n:evo ct c (.at e) env h=a8a (ev ct c e env h):=by(rw[evo];try rfl)
theorem b3j{i:Int}:a8a (.ok (.int i) h)=.ok (some i) h:=rfl
theorem a0m{b:Bool}:asB (.ok (.bl b) h)=.ok b h:=rfl
theorem M6:evi ct c (.seq e) env h=(ev ct c e env h).bind fun d h1=>L4 h1 d:=by(rw[evi];try rfl)
theorem b1z:evi ct c (.enum e) env h=(ev ct c e env h).bind fun d h1=>a1s h1 d:=by(rw[evi];try rfl)
theorem a3e:evi ct c (.rng1 a) env h=(ev ct c a env h).bind fun d h1=>a9P h1 (.int 0) d:=by(rw[evi];try rfl)
theorem a8i:evi ct c (.zip a b) env h=(ev ct c a env h).bind fun x h1=>(ev ct c b env h1).bind fun y h2=>a9q h2 x y:=by(rw[evi];try rfl)
theorem a3b:ex ct c (.set i e) env h=(ev ct c e env h).bind fun d h1=>.ok (.nx (env.set i (some d))) h1:=by(rw[ex];try rfl)
theorem b8z:ex ct c (.ex e) env h=(ev ct c e env h).bind fun _ h1=>.ok (.nx env) h1:=by(rw[ex];try rfl)
theorem a3c:ex ct c (.ret e) env h=(ev ct c e env h).bind fun d h1=>.ok (.rt d) h1:=by(rw[ex];try rfl)
theorem a7k{v:Ss}:ex ct c (.iff t u v) env h=(tst ct c t env h).bind fun x h1=>if x=true then exs ct c u env h1 else exs ct c v env h1:=by(rw[ex];try rfl)
theorem a0f:ex ct c (.for p it u) env h=(evi ct c it env h).bind fun x h1=>K6 x.2 p (exs ct c u) x.1 env h1:=by(rw[ex];try rfl)
theorem b6k{i v:E}:ex ct c (.six a i v) env h=(ev ct c v env h).bind fun x h1=>(ev ct c a env h1).bind fun o h2=>(ev ct c i env h2).bind fun k h3=>(a0I h3 o k x).bind fun _ h4=>.ok (.nx env) h4:=by(rw[ex];try rfl)
theorem b6l{f:Str}{v:E}:ex ct c (.sfl a f v) env h=(ev ct c v env h).bind fun x h1=>(ev ct c a env h1).bind fun o h2=>(a4z h2 o f x).bind fun _ h3=>.ok (.nx env) h3:=by(rw[ex];try rfl)
theorem a1q:exs ct c .nil env h=.ok (.nx env) h:=by(rw[exs];try rfl)
theorem G5{s:S}{r:Ss}:exs ct c (.cons s r) env h=(ex ct c s env h).bind fun o h1=>(match o with
 |.nx env'=>exs ct c r env' h1
 |.rt d=>.ok (.rt d) h1):=by(rw[exs];try rfl)
theorem a2p{fr:List Nat}{x:Its}{h2:AH}(hi:evi ct c it env h=.ok x h1)(hc:N6 x.2 p (tst ct c t) (ev ct c e) (A9 n fr env) x.1 [] h1=.ok ds h2):ev ct c (.comp p it n fr t e) env h=.ok (.ref h2.length) (h2++[.lst ds]):=by
 rw[ev,hi,b8,hc];rfl
end
section
variable{e:E}{t:T}
theorem F7{fr:List Nat}{g:List (Nat×Cell)}(hi:evi ct c it env h=.ok (l,g) h1)(hg:gOk g h1=true)(B:D->Bool)(f:D->D)(envf:D->o9)
 (hx:∀x∈l,D6 p x (A9 n fr env)=some (envf x)/\tst ct c t (envf x) h1=.ok (B x) h1/\(B x=true->ev ct c e (envf x) h1=.ok (f x) h1)) (hl:l.length<=SL):ev ct c (.comp p it n fr t e) env h=.ok (.ref h1.length) (h1++[.lst ((l.filter B).map f)]):=
 a2p (x:=(l,g)) hi (a0W hg B f envf l [] hx (by simpa using hl))
theorem p8{fr:List Nat}{g:List (Nat×Cell)}(hi:evi ct c it env h=.ok (l,g) h1)(hg:gOk g h1=true)(f:D->D)(envf:D->o9)
 (hx:∀x∈l,D6 p x (A9 n fr env)=some (envf x)/\ev ct c e (envf x) h1=.ok (f x) h1) (hl:l.length<=SL):ev ct c (.comp p it n fr .yes e) env h=.ok (.ref h1.length) (h1++[.lst (l.map f)]):=
 a2p (x:=(l,g)) hi (a9m hg f envf l hx hl)
end
theorem gc2{k:Nat}{c:Cell}(hk:(h++g)[k]? =some c)(hl:h.length<=k)(hc:c.flat=true):gcR 2 h (.ok (.ref k) (h++g))=.ok (.ref h.length) (h++[c]):=by
 unfold gcR;simp only[hk];simp[hl,hc]
end
end EV
local macro_rules
  | `(tactic| simp_arith [$ls,*]) => `(tactic| simp only [EV.b8B, EV.c0x, EV.b6A, EV.b6w, EV.b3F, EV.b8D, EV.b8I, EV.b6r, EV.b6z, EV.b8G, EV.b8C, EV.b6y, EV.b1A, EV.b6o, EV.b3I, EV.b6s, EV.b3L, EV.b8F, EV.b8H, EV.b8E, EV.b6x, EV.b3H, EV.b3G, EV.b3E, EV.b1x, EV.a7w, EV.a4p, EV.b2e, EV.b2d, EV.a9w, EV.b2f, EV.b4x, EV.b2c, EV.a6D, EV.b6m, EV.b6n, EV.b3j, EV.a0m, EV.M6, EV.b1z, EV.a3e, EV.a8i, EV.a3b, EV.b8z, EV.a3c, EV.a7k, EV.a0f, EV.b6k, EV.b6l, EV.a1q, EV.G5, EV.b8, EV.b4d,
      map_cons, map_nil, cons_append, nil_append, List.getElem?_cons_zero, List.getElem?_cons_succ, List.set_cons_zero, List.set_cons_succ, List.replicate, length_cons, length_nil, if_true, if_false, Bool.false_eq_true, Bool.true_eq_false, EV.b2R, EV.a7O, EV.b2S, Nat.reduceSub, Nat.reduceAdd, Nat.reduceLT, ay, Nat.zero_le, EV.a4L, String.reduceEq, EV.sl1, EV.sl2, EV.sl3, EV.sl4, EV.sl5, EV.sl6, $ls,*])
namespace EV
open PySem L2 L2T
variable{z:Str}{i:Nat}{h:AH}{w:Nat}{d:D}{n:Nat}{row:Str}{id:Nat}{ws:List Str}
section
variable{ct:CT}{F:Nat->Option Fn}
noncomputable def due(a b c:Bool):Option Str:=if a then some "twice" else if !b then some "name" else if c then some "many" else none
noncomputable def U9:Option Str->D
 |some x=>.str x
 |none=>.non
theorem W2(o:Option Str):decide (U9 o=.non)=o.isNone:=by cases o<;>simp[U9]
theorem a0k{a b c:Bool}(h:due a b c=none):a=false/\b=true/\c=false:=by
 cases a<;>cases b<;>cases c<;>simp[due] at h⊢
theorem W4{c:Nat}:Txt.startswith z ⟨#[c]⟩=decide ((cd z).head? =some c):=by
 have:=StrLaws.subAt_one z c 0
 unfold Txt.startswith;rw[Bool.eq_iff_iff,ae,decide_eq_true_iff,this,decide_eq_true_iff]
 show(cd z)[0]? =some c↔_
 rw[List.head?_eq_getElem?]
theorem a5H(z:Str)(h:1<=z.length):Txt.slice z (some 1) none=tl z:=by
 rw[PyProof.Rows.slice_from_eq (b:=z.length) (by decide) (by omega) rfl]
 unfold tl;congr 2
 have:(z.cps.toList.drop 1).length=z.length-1:=by rw[bg,show z.cps.toList.length=z.length from o4 z]
 show List.take ((z.length:Int)-1).toNat (List.drop 1 z.cps.toList)=_
 exact aU (by omega)
theorem ix_str{c:Nat}(hl:z.length<=SL)(hc:(cd z)[i]? =some c):ixD h (.str z) (.int (i:Nat))=.ok (.str ⟨#[c]⟩) h:=by
 have hi:=(ac.mp hc).1
 have:atI z.cps.toList (i:Int)=some c:=by
  show(ixN (cd z).length (i:Int)).bind (fun j=>(cd z)[j]?)=some c
  have e:ixN (cd z).length (i:Int)=some i:=by
   unfold ixN;rw[av (by omega),av (by omega)]
   simp
  rw[e];exact hc
 simp only[ixD,av hl,this]
theorem C7{xs:List D}(hw:h[w]? =some (.lst xs))(hd:xs[i]? =some d):ixD h (.ref w) (.int (i:Nat))=.ok d h:=by
 have hi:=(ac.mp hd).1
 have:atI xs (i:Int)=some d:=by
  show(ixN xs.length (i:Int)).bind (fun j=>xs[j]?)=some d
  have e:ixN xs.length (i:Int)=some i:=by
   unfold ixN;rw[av (by omega),av (by omega)]
   simp
  rw[e];exact hd
 simp only[ixD,hw,this]
variable(W:PF F)
include W
theorem a5A(hr:row.length<=100000):b4 ct F (n+1) 1 [.str row] h=.ok (.ref h.length) (h++[.lst ((M0 row).map .str)]):=by
 rw[i6 W.f1 rfl]
 have hs:(Txt.split row " ").length<=SL:=aK (a8z row 32) (by show _<=16777216;omega)
 simp only[X2];simp_arith[];rw[F7 (l:=(Txt.split row " ").map D.str) (g:=[(h.length,.lst ((Txt.split row " ").map D.str))]) (h1:=h++[.lst ((Txt.split row " ").map D.str)]) ?_ (by simp[gOk]) (fun d=>match d with|.str w=>decide (w≠"")|_=>false) id (fun d=>[some d]) ?_ (by simpa using hs)]
 · simp_arith[]
   have e:List.map id (List.filter (fun d=>match d with|D.str w=>decide (w≠"")|_=>false) ((Txt.split row " ").map D.str))=(M0 row).map D.str:=by
    rw[map_id,filter_map];rfl
   rw[e,ax];exact gc2 (by simp) (by simp) (C1 _)
 · simp_arith[mtT,mtD,y9];rw[av ⟨by decide,by show _<=16777216;omega⟩]
   simp only[b8,L4,b6]
 · intro x hx;obtain⟨w,_,rfl⟩:=ak.mp hx;refine⟨rfl,?_,fun _=>?_⟩
   · simp_arith[op2,a1h,eqS];simp
   · simp_arith[id]
theorem a2T{g:Str}(hz:z.length<=100000):b4 ct F (n+1) 2 [.str z,.str g] h=.ok (.bl ((cd z).all fun c=>decide (c∈cd g))) h:=by
 rw[i6 W.f2 rfl];simp only[a0x];simp_arith[];rw[p8 (l:=Y2 z) (g:=[]) (h1:=h) ?_ (by simp[gOk]) (fun d=>match d with|.str w=>.bl (a4M w g)|_=>.non) (fun d=>[some d,some (.str g)]) ?_ (by unfold Y2;rw[aa,show z.cps.toList.length=z.length from o4 z];show _<=16777216;omega)]
 · have e:(Y2 z).map (fun d=>match d with|D.str w=>D.bl (a4M w g)|_=>D.non)=(cd z).map fun c=>D.bl (decide (c∈cd g)):=by
    unfold Y2;rw[aD];refine List.map_congr_left fun c _=>?_
    simp only[Function.comp,a4M];rw[StrLaws.found_one]
   rw[e];simp_arith[a2s];exact gc1 rfl
 · simp_arith[L4]
 · intro x hx;unfold Y2 at hx;obtain⟨w,_,rfl⟩:=ak.mp hx;refine⟨rfl,?_⟩
   simp_arith[op2,O1];simp
theorem E8(hz:z.length<=100000):b4 ct F (n+2) 3 [.str z] h=.ok (.bl (b9 z)) h:=by
 rw[i6 W.f3 rfl];simp only[a0y]
 have hl:z.length<=SL:=by show _<=16777216;omega
 simp_arith[biD,av hl,op2,E6,a2T W hz]
 have e:b9 z=(decide ((1:Int)<=(z.length:Int))&&(decide ((z.length:Int)<=12)&&(cd z).all O2)):=by
  unfold b9;rw[Bool.and_assoc];congr 1
  · exact decide_eq_decide.mpr (by omega)
  · congr 1;exact decide_eq_decide.mpr (by omega)
 rw[e]
 by_cases h1:(1:Int)<=(z.length:Int)
 · by_cases h2:(z.length:Int)<=12
   · simp only[h1,h2,decide_true,if_true,Bool.true_and,b8,a0m];exact x3 rfl
   · simp only[h1,h2,decide_true,decide_false,if_true,Bool.true_and,Bool.false_and,b8,a0m,Bool.false_eq_true,if_false];exact x3 rfl
 · simp only[h1,decide_false,Bool.false_and,b8,a0m,Bool.false_eq_true,if_false];exact x3 rfl
theorem K5(hz:z.length<=100000):b4 ct F (n+2) 4 [.str z] h=.ok (.bl (a1S z)) h:=by
 rw[i6 W.f4 rfl];simp only[T7]
 have hl:z.length<=SL:=by show _<=16777216;omega
 have hm:∀h,b4 ct F (n+1) 2 [.str z,.str "0123456789"] h=.ok (.bl ((cd z).all T2)) h:=fun h=>a2T W hz
 simp_arith[biD,av hl,op2,E6,hm]
 have e:a1S z=(decide ((1:Int)<=(z.length:Int))&&(decide ((z.length:Int)<=5)&&((cd z).all T2&&(decide (z="0")||!decide ((cd z).head? =some 48))))):=by
  unfold a1S;rw[Bool.and_assoc,Bool.and_assoc];congr 1
  · exact decide_eq_decide.mpr (by omega)
  · congr 1;exact decide_eq_decide.mpr (by omega)
 rw[e]
 by_cases h1:(1:Int)<=(z.length:Int)
 · by_cases h2:(z.length:Int)<=5
   · simp_arith[hm,h1,h2,decide_true,if_true,Bool.true_and,b8,a0m,Bool.not_true,Bool.false_eq_true,if_false,op2]
     cases hf:(cd z).all T2 with
     |false=>
      simp_arith[hm,Bool.not_false,if_true,Bool.false_and,b8,op2];exact x3 rfl
     | true=>
      obtain⟨c,r,hc⟩:∃c r,cd z=c::r:=by
       cases hq:cd z with
       |nil=>have:=o4 z;rw[hq] at this;simp at this;omega
       |cons c r=>exact⟨c,r,rfl⟩
      have hix:ixD h (.str z) (.int 0)=.ok (.str ⟨#[c]⟩) h:=ix_str (i:=0) hl (by rw[hc];rfl)
      have h0:decide ((⟨#[c]⟩:Str)="0")=decide ((cd z).head? =some 48):=by
       rw[hc];refine decide_eq_decide.mpr ?_
       rw[show(Str.ofString "0")=⟨#[48]⟩ from rfl];simp
      simp_arith[hm,Bool.not_true,Bool.false_eq_true,if_false,Bool.true_and,b8,C0,a1h,eqS,a0m,hix,h0,op2]
      cases hz0:decide (z="0") with
      |true=>
       simp_arith[hm,if_true,Bool.true_or,op2];exact x3 rfl
      |false=>
       simp_arith[hm,Bool.false_eq_true,if_false,Bool.false_or,op2];exact x3 rfl
   · simp_arith[hm,h1,h2,decide_true,decide_false,if_true,Bool.true_and,Bool.false_and,b8,a0m,Bool.false_eq_true,if_false,Bool.not_false,op2];exact x3 rfl
 · simp_arith[hm,h1,decide_false,Bool.false_and,b8,a0m,Bool.false_eq_true,if_false,Bool.not_false,if_true,op2];exact x3 rfl
theorem a4V(hz:z.length<=100000):b4 ct F (n+3) 5 [.str z] h=.ok (.bl (a3M z)) h:=by
 rw[i6 W.f5 rfl];simp only[D1]
 have hl:z.length<=SL:=by show _<=16777216;omega
 have hst:Txt.startswith z "-"=decide ((cd z).head? =some 45):=W4
 simp_arith[mtT,mtD,op2,a1h,eqS,slD,av hl,hst,K5 W hz];unfold a3M
 by_cases h1:(cd z).head? =some 45
 · have hl1:1<=z.length:=by
    rw[←o4]
    cases hq:cd z with
    |nil=>rw[hq] at h1;cases h1
    |cons c r=>simp
   have ht:(tl z).length<=100000:=by rw[←o4,a3i,bg,o4];omega
   simp_arith[h1,decide_true,if_true,a5H z hl1,K5 W ht,b8,K5 W hz]
   cases hz0:decide (z="-0") with
   |true=>
    simp_arith[Bool.not_true,Bool.false_eq_true,if_false,Bool.false_and];exact x3 rfl
   |false=>
    simp_arith[Bool.not_false,if_true,Bool.true_and];exact x3 rfl
 · simp_arith[h1,decide_false,Bool.false_eq_true,if_false,K5 W hz];exact x3 rfl
theorem z8{a b c:Bool}:b4 ct F (n+1) 14 [.bl a,.bl b,.bl c] h=.ok (U9 (due a b c)) h:=by
 rw[i6 W.f14 rfl];simp only[T9];simp_arith[]
 cases a<;>cases b<;>cases c<;>exact x3 rfl
theorem a1M{k:Nat}{P:Str->Bool}{fd:Fn}(hF:F id=some fd)(hb:fd=⟨1,1,1,(.cons (.ret (.bi .all (.cons (.comp (.nm 0) (.seq (.v 0)) 1 [] .yes (.call k (.cons (.v 0) .nil))) .nil))) .nil)⟩)
 (hw:h[w]? =some (.lst (ws.map D.str))) (hl:ws.length<=SL) (hP:∀x∈ws,b4 ct F n k [.str x] h=.ok (.bl (P x)) h):b4 ct F (n+1) id [.ref w] h=.ok (.bl (ws.all P)) h:=by
  subst hb;rw[i6 hF rfl];simp_arith[];rw[p8 (l:=ws.map D.str) (g:=[(w,.lst (ws.map D.str))]) (h1:=h) ?_ (by simp[gOk,hw]) (fun d=>match d with|.str x=>.bl (P x)|_=>.non) (fun d=>[some d]) ?_ (by simpa using hl)]
  · have e:(ws.map D.str).map (fun d=>match d with|D.str x=>D.bl (P x)|_=>D.non)=ws.map fun x=>D.bl (P x):=by
      rw[aD];rfl
    rw[e];simp_arith[a2s];exact gc1 rfl
  · simp_arith[L4,hw]
  · intro x hx;obtain⟨y,hy,rfl⟩:=ak.mp hx;refine⟨rfl,?_⟩
    simp_arith[hP y hy]
theorem Q3(hw:h[w]? =some (.lst (ws.map D.str)))(hl:ws.length<=SL)(hs:∀x∈ws,x.length<=100000):b4 ct F (n+3) 9 [.ref w] h=.ok (.bl (ws.all b9)) h:=
 a1M (n:=n+2) W W.f9 rfl hw hl fun x hx=>E8 W (hs x hx)
theorem a3F(hw:h[w]? =some (.lst (ws.map D.str)))(hl:ws.length<=SL)(hs:∀x∈ws,x.length<=100000):b4 ct F (n+4) 10 [.ref w] h=.ok (.bl (ws.all a3M)) h:=
 a1M (n:=n+3) W W.f10 rfl hw hl fun x hx=>a4V W (hs x hx)
end
structure HD where
 shapes:List (Str×D):=[]
 marks:List (Str×D):=[]
 points:List ((Str×Str)×D):=[]
 letters:List (Str×D):=[]
 gaps:List Str:=[]
 classes:List (Str×D):=[]
 features:List (Str×D):=[]
 rules:List (Str×List D):=[]
noncomputable def kd(l:List (Str×D)):List (D×D):=l.map fun p=>(.str p.1,p.2)
noncomputable def pd(l:List ((Str×Str)×D)):List (D×D):=l.map fun p=>(.tup [.str p.1.1,.str p.1.2],p.2)
noncomputable def rd(l:List (Str×List D)):List D:=l.map fun r=>.tup (.str r.1::r.2)
noncomputable def a1K(n:Nat):List (Str×D):=[("shapes",.ref (n+1)),("marks",.ref (n+2)),("points",.ref (n+3)),("letters",.ref (n+4)),("gaps",.ref (n+5)),("classes",.ref (n+6)),("features",.ref (n+7)),("rules",.ref (n+8))]
structure HallAt(h:AH)(n:Nat)(H:HD):Prop where
 o:h[n]? =some (.obj 6 (a1K n))
 c1:h[n+1]? =some (.dict (kd H.shapes))
 c2:h[n+2]? =some (.dict (kd H.marks))
 c3:h[n+3]? =some (.dict (pd H.points))
 c4:h[n+4]? =some (.dict (kd H.letters))
 c5:h[n+5]? =some (.lst (H.gaps.map .str))
 c6:h[n+6]? =some (.dict (kd H.classes))
 c7:h[n+7]? =some (.dict (kd H.features))
 c8:h[n+8]? =some (.lst (rd H.rules))
structure Fr(n:Nat)(h h':AH):Prop where
 len:h.length<=h'.length
 get:∀i,i<h.length->(i<n∨n+8<i)->h'[i]? =h[i]?
theorem Fr.refl(n:Nat)(h:AH):Fr n h h:=⟨ai _,fun _ _ _=>rfl⟩
variable{h':AH}
theorem Fr.trans{h'':AH}(a:Fr n h h')(b:Fr n h' h''):Fr n h h'':=
 ⟨aK a.len b.len,fun i hi hn=>(b.get i (az hi a.len) hn).trans (a.get i hi hn)⟩
theorem Fr.app(n:Nat)(h g:AH):Fr n h (h++g):=⟨by simp,fun i hi _=>ap hi⟩
theorem Fr.set{k:Nat}{c:Cell}(h1:n<=k)(h2:k<=n+8):Fr n h (h.set k c):=⟨by simp,fun i hi hn=>List.getElem?_set_ne (by omega)⟩
variable{g:AH}
theorem b5{c:Cell}(e:h[i]? =some c):(h++g)[i]? =some c:=by
 rw[ap (ac.mp e).1]
 exact e
theorem HallAt.app{H:HD}(A:HallAt h n H)(g:AH):HallAt (h++g) n H:=
 ⟨b5 A.o,b5 A.c1,b5 A.c2,b5 A.c3,b5 A.c4,b5 A.c5,b5 A.c6,b5 A.c7,b5 A.c8⟩
variable{c':Cell}
theorem b7{k:Nat}{c:Cell}(hne:k≠i)(e:h[i]? =some c):(h.set k c')[i]? =some c:=by
 rw[List.getElem?_set_ne hne]
 exact e
theorem u7{c:Cell}(e:h[i]? =some c):(h.set i c')[i]? =some c':=List.getElem?_set_self (ac.mp e).1
theorem HallAt.s1{H:HD}(A:HallAt h n H)(l:List (Str×D)):HallAt (h.set (n+1) (.dict (kd l))) n {H with shapes:=l}:=
 ⟨b7 (by omega) A.o,u7 A.c1,b7 (by omega) A.c2,b7 (by omega) A.c3,b7 (by omega) A.c4,b7 (by omega) A.c5,b7 (by omega) A.c6,b7 (by omega) A.c7,b7 (by omega) A.c8⟩
theorem HallAt.s2{H:HD}(A:HallAt h n H)(l:List (Str×D)):HallAt (h.set (n+2) (.dict (kd l))) n {H with marks:=l}:=
 ⟨b7 (by omega) A.o,b7 (by omega) A.c1,u7 A.c2,b7 (by omega) A.c3,b7 (by omega) A.c4,b7 (by omega) A.c5,b7 (by omega) A.c6,b7 (by omega) A.c7,b7 (by omega) A.c8⟩
theorem HallAt.s3{H:HD}(A:HallAt h n H)(l:List ((Str×Str)×D)):HallAt (h.set (n+3) (.dict (pd l))) n {H with points:=l}:=
 ⟨b7 (by omega) A.o,b7 (by omega) A.c1,b7 (by omega) A.c2,u7 A.c3,b7 (by omega) A.c4,b7 (by omega) A.c5,b7 (by omega) A.c6,b7 (by omega) A.c7,b7 (by omega) A.c8⟩
theorem HallAt.s4{H:HD}(A:HallAt h n H)(l:List (Str×D)):HallAt (h.set (n+4) (.dict (kd l))) n {H with letters:=l}:=
 ⟨b7 (by omega) A.o,b7 (by omega) A.c1,b7 (by omega) A.c2,b7 (by omega) A.c3,u7 A.c4,b7 (by omega) A.c5,b7 (by omega) A.c6,b7 (by omega) A.c7,b7 (by omega) A.c8⟩
theorem HallAt.s6{H:HD}(A:HallAt h n H)(l:List (Str×D)):HallAt (h.set (n+6) (.dict (kd l))) n {H with classes:=l}:=
 ⟨b7 (by omega) A.o,b7 (by omega) A.c1,b7 (by omega) A.c2,b7 (by omega) A.c3,b7 (by omega) A.c4,b7 (by omega) A.c5,u7 A.c6,b7 (by omega) A.c7,b7 (by omega) A.c8⟩
theorem HallAt.s7{H:HD}(A:HallAt h n H)(l:List (Str×D)):HallAt (h.set (n+7) (.dict (kd l))) n {H with features:=l}:=
 ⟨b7 (by omega) A.o,b7 (by omega) A.c1,b7 (by omega) A.c2,b7 (by omega) A.c3,b7 (by omega) A.c4,b7 (by omega) A.c5,b7 (by omega) A.c6,u7 A.c7,b7 (by omega) A.c8⟩
theorem HallAt.s8{H:HD}(A:HallAt h n H)(l:List (Str×List D)):HallAt (h.set (n+8) (.lst (rd l))) n {H with rules:=l}:=
 ⟨b7 (by omega) A.o,b7 (by omega) A.c1,b7 (by omega) A.c2,b7 (by omega) A.c3,b7 (by omega) A.c4,b7 (by omega) A.c5,b7 (by omega) A.c6,b7 (by omega) A.c7,u7 A.c8⟩
theorem HallAt.fld1{H:HD}(A:HallAt h n H):X0 h "shapes" (.ref n)=.ok (.ref (n+1)) h:=by simp only[X0,A.o];rfl
theorem HallAt.fld2{H:HD}(A:HallAt h n H):X0 h "marks" (.ref n)=.ok (.ref (n+2)) h:=by simp only[X0,A.o];rfl
theorem HallAt.fld3{H:HD}(A:HallAt h n H):X0 h "points" (.ref n)=.ok (.ref (n+3)) h:=by simp only[X0,A.o];rfl
theorem HallAt.fld4{H:HD}(A:HallAt h n H):X0 h "letters" (.ref n)=.ok (.ref (n+4)) h:=by simp only[X0,A.o];rfl
theorem HallAt.fld5{H:HD}(A:HallAt h n H):X0 h "gaps" (.ref n)=.ok (.ref (n+5)) h:=by simp only[X0,A.o];rfl
theorem HallAt.fld6{H:HD}(A:HallAt h n H):X0 h "classes" (.ref n)=.ok (.ref (n+6)) h:=by simp only[X0,A.o];rfl
theorem HallAt.fld7{H:HD}(A:HallAt h n H):X0 h "features" (.ref n)=.ok (.ref (n+7)) h:=by simp only[X0,A.o];rfl
theorem HallAt.fld8{H:HD}(A:HallAt h n H):X0 h "rules" (.ref n)=.ok (.ref (n+8)) h:=by simp only[X0,A.o];rfl
theorem W9(k:Str)(l:List (Str×D)):F9 (.str k) (kd l)=true:=by
 simp[F9,kd,J0]
theorem a7T(a b:Str)(l:List ((Str×Str)×D)):F9 (.tup [.str a,.str b]) (pd l)=true:=by
 simp[F9,pd,J0,E7,J6]
theorem a3a(k:Str):∀l:List (Str×D),(n9 (kd l) (.str k)).isSome=decide (k∈l.map (·.1))
 |[]=>rfl
 | p ::r=>by
  have ih:=a3a k r;unfold n9 kd at ih⊢;rw[map_cons,List.find?_cons]
  by_cases e:p.1=k
  · simp[e]
  · have e':¬(D.str p.1=D.str k):=fun z=>e (by injection z)
    simp only[e',decide_false];rw[ih]
    exact decide_eq_decide.mpr ⟨fun z=>by simp[z],fun z=>by
     rw[map_cons] at z
     rcases aB.mp z with z|z
     · exact absurd z.symm e
     · exact z⟩
theorem b1h(a b:Str):∀l:List ((Str×Str)×D),(n9 (pd l) (.tup [.str a,.str b])).isSome=decide ((a,b)∈l.map (·.1))
 |[]=>rfl
 | p ::r=>by
  have ih:=b1h a b r;unfold n9 pd at ih⊢;rw[map_cons,List.find?_cons]
  by_cases e:p.1=(a,b)
  · simp[e]
  · have e':¬(D.tup [.str p.1.1,.str p.1.2]=D.tup [.str a,.str b]):=fun z=>e (by
     injection z with z
     injection z with z1 z2
     injection z1 with z1
     injection z2 with z2
     injection z2 with z2
     exact Prod.ext z1 z2)
    simp only[e',decide_false];rw[ih]
    exact decide_eq_decide.mpr ⟨fun z=>by simp[z],fun z=>by
     rw[map_cons] at z
     rcases aB.mp z with z|z
     · exact absurd z.symm e
     · exact z⟩
theorem a6N{k:Str}{l:List (Str×D)}(h:k∉l.map (·.1)):a1g (kd l) (.str k) d=kd (l++[(k,d)]):=by
 unfold a1g;rw[aw]
 · simp[kd]
 · intro z;rw[aY] at z;obtain⟨p,hp,e⟩:=z;unfold kd at hp;obtain⟨q,hq,rfl⟩:=ak.mp hp;have e:=aq e
   injection e with e
   exact h (ak.mpr ⟨q,hq,e⟩)
variable{a:Str}{b:Str}
theorem b4U{l:List ((Str×Str)×D)}(h:(a,b)∉l.map (·.1)):a1g (pd l) (.tup [.str a,.str b]) d=pd (l++[((a,b),d)]):=by
 unfold a1g;rw[aw]
 · simp[pd]
 · intro z;rw[aY] at z;obtain⟨p,hp,e⟩:=z;unfold pd at hp;obtain⟨q,hq,rfl⟩:=ak.mp hp;have e:=aq e
   injection e with e
   injection e with e1 e2
   injection e1 with e1
   injection e2 with e2
   injection e2 with e2
   exact h (ak.mpr ⟨q,hq,Prod.ext e1 e2⟩)
theorem Y4{l:List (Str×D)}{k:Str}(e:h[n]? =some (.dict (kd l))):O1 false h (.str k) (.ref n)=.ok (.bl (decide (k∈l.map (·.1)))) h:=by
 simp only[O1,e,W9,if_true,a3a];simp
theorem b8h{l:List ((Str×Str)×D)}(e:h[n]? =some (.dict (pd l))):O1 false h (.tup [.str a,.str b]) (.ref n)=.ok (.bl (decide ((a,b)∈l.map (·.1)))) h:=by
 simp only[O1,e,a7T,if_true,b1h];simp
theorem a2V{l:List (Str×D)}(e:h[n]? =some (.dict (kd l))):biD .len h [.ref n]=.ok (.int l.length) h:=by
 have:F9 (.int 0) (kd l)=true:=by simp[F9,kd,J0]
 simp only[biD,e,this,if_true];simp[kd]
variable{l:List D}
theorem n8(e:h[n]? =some (.lst l)):biD .len h [.ref n]=.ok (.int l.length) h:=by
 have:rdL h n=some l:=by unfold rdL;rw[e]
 simp only[biD,e,this]
section
variable{ct:CT}{F:Nat->Option Fn}(W:PF F)
include W
theorem b1c:b4 ct F (n+1) 32 [.ref h.length] (h++[.obj 6 []])=.ok .non (h++[.obj 6 (a1K h.length),.dict [],.dict [],.dict [],.dict [],.lst [],.dict [],.dict [],.lst []]):=by
 rw[i6 W.f32 rfl];simp only[N5];rw[gc0]
 have hs:∀(x z:Cell) (t:AH),(h++x::t).set h.length z=h++z::t:=fun x z t=>by
  rw[List.set_append_right _ _ (ai _)];simp
 have hg:∀(x:Cell) (t:AH),(h++x::t)[h.length]? =some x:=fun x t=>by simp
 simp_arith[y9,a4z,hs,hg,ax,a3P];simp only[am,length_cons,length_nil,a1K]
end
theorem o8{xs:List D}(i:Int)(k:Nat)(hi:i=(k:Nat))(hw:h[w]? =some (.lst xs))(hd:xs[k]? =some d):ixD h (.ref w) (.int i)=.ok d h:=by
 subst hi;exact C7 hw hd
theorem Y9{l:List (Str×D)}{k:Str}(e:h[n]? =some (.dict (kd l)))(hk:k∉l.map (·.1))(hl:l.length<SL):a0I h (.ref n) (.str k) d=.ok () (h.set n (.dict (kd (l++[(k,d)])))):=by
 simp only[a0I,e];rw[av ⟨W9 _ _,by simpa [kd] using hl⟩,a6N hk]
theorem a8C{l:List ((Str×Str)×D)}(e:h[n]? =some (.dict (pd l)))(hk:(a,b)∉l.map (·.1))(hl:l.length<SL):a0I h (.ref n) (.tup [.str a,.str b]) d=.ok () (h.set n (.dict (pd (l++[((a,b),d)])))):=by
 simp only[a0I,e];rw[av ⟨a7T _ _ _,by simpa [pd] using hl⟩,b4U hk]
theorem a7d{v:Int}(hl:b.length<=640)(hv:intText? b=some v):biD .int h [.str b]=.ok (.int v) h:=by
 simp only[biD,av hl,hv]
theorem G7(k:Nat)(xs:List D):S8 xs (some (k:Int)) none=xs.drop k:=by
 unfold S8 HT.sIx
 simp only
 rw[aw (by omega)]
 show(xs.drop (min k xs.length)).take (xs.length-min k xs.length)=xs.drop k
 by_cases h:k<=xs.length
 · rw[Nat.min_eq_left h];exact aU (by simp)
 · rw[Nat.min_eq_right (by omega),drop_length,List.drop_of_length_le (by omega)];simp
theorem a0B(k l:Nat)(xs:List D)(hk:k<=l)(hl:l<=xs.length):S8 xs (some (k:Int)) (some (l:Int))=(xs.drop k).take (l-k):=by
 unfold S8 HT.sIx
 simp only
 rw[aw (by omega),aw (by omega)]
 show(xs.drop (min k xs.length)).take (min l xs.length-min k xs.length)=_
 rw[Nat.min_eq_left (show k<=xs.length by omega),Nat.min_eq_left hl]
theorem J5{xs:List D}{lo hi:Option Int}(hw:h[w]? =some (.lst xs)):slD h lo hi (.ref w)=.ok (.ref h.length) (h++[.lst (S8 xs lo hi)]):=by
 have:rdL h w=some xs:=by unfold rdL;rw[hw]
 simp only[slD,this,y9]
theorem M3{xs:List D}(hw:h[w]? =some (.lst xs)):biD .tuple h [.ref w]=.ok (.tup xs) h:=by
 have:rdL h w=some xs:=by unfold rdL;rw[hw]
 simp only[biD,hw,this]
variable{x:Str}{wy:Str}
section
variable{ct:CT}{F:Nat->Option Fn}(W:PF F)
include W
theorem a3x{k:Nat}{H:HD}{v:Int}(A:HallAt h n H)(hw:h[w]? =some (.lst [.str x,.str a,.str b]))(ha:b9 a=true)(hal:a.length<=100000)(hb:V9 b=some v):
 b4 ct F (k+3) 17 [.ref n,.ref w] h=match due (decide (a∈H.shapes.map (·.1))) true (decide ((60:Int)<=(H.shapes.length:Int))) with
  |some f=>.ok (.str f) h
  |none=>.ok .non (h.set (n+1) (.dict (kd (H.shapes++[(a,.int v)])))):=by
 obtain⟨hv,hbl,_,_⟩:=a2m hb
 have hbn:a1S b=true:=by rw[a2N,hb];rfl
 rw[i6 W.f17 rfl];simp only[O7];rw[gc0];simp_arith[n8 hw,op2,a1h,eqS,o8 1 1 rfl hw rfl,o8 2 2 rfl hw rfl,E8 W hal,K5 W (show b.length<=100000 by omega),ha,hbn,A.fld1,Y4 A.c1,a2V A.c1,E6,z8 W,W2,a7d hbl hv,Int.cast_ofNat_Int,decide_true,Bool.not_true]
 cases hd:due (decide (a∈H.shapes.map (·.1))) true (decide ((60:Int)<=(H.shapes.length:Int))) with
 |some f=>simp_arith[Option.isNone_some,U9]
 |none=>
  obtain⟨d1,_,d2⟩:=a0k hd;have d2:=of_decide_eq_false d2;simp_arith[Option.isNone_none,Y9 A.c1 (of_decide_eq_false d1) (show _<16777216 by omega),U9]
theorem a1Z{k:Nat}{H:HD}(A:HallAt h n H)(hw:h[w]? =some (.lst [.str x,.str a,.str b]))(ha:b9 a=true)(hal:a.length<=100000)(hb:b="on"∨b="off"):
 b4 ct F (k+3) 25 [.ref n,.ref w] h=match due (decide (a∈H.features.map (·.1))) true (decide ((10:Int)<=(H.features.length:Int))) with
  |some f=>.ok (.str f) h
  |none=>.ok .non (h.set (n+7) (.dict (kd (H.features++[(a,.bl (decide (b="on")))])))):=by
 have hin:inD (.str b) [.str "on",.str "off"]=true:=by
  rcases hb with rfl|rfl<;>decide
 rw[i6 W.f25 rfl];simp only[K7];rw[gc0];simp_arith[n8 hw,op2,a1h,C0,eqS,o8 1 1 rfl hw rfl,o8 2 2 rfl hw rfl,E8 W hal,ha,A.fld7,Y4 A.c7,a2V A.c7,E6,z8 W,W2,hin,w6,all_cons,all_nil,Bool.and_self,and_self,bne_self_eq_false,Int.cast_ofNat_Int,decide_true,Bool.not_true]
 cases hd:due (decide (a∈H.features.map (·.1))) true (decide ((10:Int)<=(H.features.length:Int))) with
 |some f=>simp_arith[Option.isNone_some,U9]
 |none=>
  obtain⟨d1,_,d2⟩:=a0k hd;have d2:=of_decide_eq_false d2;simp_arith[Option.isNone_none,op2,C0,eqS,o8 2 2 rfl hw rfl,A.fld7,Y9 A.c7 (of_decide_eq_false d1) (show _<16777216 by omega),U9]
theorem U8{k:Nat}{H:HD}(A:HallAt h n H)(hw:h[w]? =some (.lst (ws.map .str)))(hl:ws.length<=SL):b4 ct F (k+1) 15 [.ref n,.ref w] h=.ok (.bl (ws.all fun x=>decide (x∈H.shapes.map (·.1)))) h:=by
 rw[i6 W.f15 rfl];simp only[Q0];simp_arith[];rw[p8 (l:=ws.map D.str) (g:=[(w,.lst (ws.map D.str))]) (h1:=h) ?_ (by simp[gOk,hw]) (fun d=>match d with|.str x=>.bl (decide (x∈H.shapes.map (·.1)))|_=>.non) (fun d=>[some d,some (.ref n)]) ?_ (by simpa using hl)]
 · have e:(ws.map D.str).map (fun d=>match d with|D.str x=>D.bl (decide (x∈H.shapes.map (·.1)))|_=>D.non)=ws.map fun x=>D.bl (decide (x∈H.shapes.map (·.1))):=by
    rw[aD];rfl
   rw[e];simp_arith[a2s];exact gc1 rfl
 · simp_arith[L4,hw]
 · intro x hx;obtain⟨y,hy,rfl⟩:=ak.mp hx;refine⟨rfl,?_⟩
   simp_arith[op2,A.fld1,Y4 A.c1]
noncomputable def a6b:List (D×D):=[(.str "none",.int 1),(.str "clear",.int 1),(.str "back",.int 2),(.str "both",.int 4)]
theorem a3D{k:Nat}{j:Str}{c9:List Str}(hw:h[w]? =some (.lst (.str x::.str a::.str j::.str wy::c9.map .str)))(ha:b9 a=true)(hal:a.length<=100000)(hj:n9 a6b (.str j)=some (.int c9.length))(hy:inD (.str wy) [.str "left",.str "right",.str "either"]=true)
 (hr:c9.all b9=true) (hrl:∀y∈c9,y.length<=100000) (hrs:c9.length<=100000):b4 ct F (k+4) 21 [.ref w] h=.ok (.bl true) h:=by
 rw[i6 W.f21 rfl];simp only[E4]
 have e4:∀xs,S8 xs (some 4) none=xs.drop 4:=G7 4
 have hn:b4 ct F (k+3) 9 [.ref h.length] (h++[.lst (c9.map .str)])=.ok (.bl (c9.all b9)) (h++[.lst (c9.map .str)]):=Q3 W b6 (by show _<=16777216;omega) hrl
 have hlen:decide (((c9.length+1+1+1+1:Nat):Int)<4)=false:=bf (by omega)
 unfold a6b at hj;simp_arith[n8 hw,op2,E6,hlen,aa,o8 1 1 rfl hw rfl,o8 2 2 rfl hw rfl,o8 3 3 rfl hw rfl,E8 W hal,ha,J6,Option.isSome_some,hj,hy,w6,all_cons,all_nil,Bool.and_self,and_self,bne_self_eq_false,Bool.not_true,J5 hw,e4,drop_succ_cons,drop_zero,n8 b6,o8 2 2 rfl (b5 (g:=[.lst (c9.map .str)]) hw) rfl,C0,eqS,decide_true,hn,hr];exact gc1 rfl
theorem a2w{k:Nat}{H:HD}{j:Str}{c9:List Str}(A:HallAt h n H)(hw:h[w]? =some (.lst (.str x::.str a::.str j::.str wy::c9.map .str)))(ha:b9 a=true)(hal:a.length<=100000)(hj:n9 a6b (.str j)=some (.int c9.length))(hy:inD (.str wy) [.str "left",.str "right",.str "either"]=true)
 (hr:c9.all b9=true) (hrl:∀y∈c9,y.length<=100000) (hrs:c9.length<=100000):
 b4 ct F (k+5) 22 [.ref n,.ref w] h=match due (decide (a∈H.letters.map (·.1))) (c9.all fun x=>decide (x∈H.shapes.map (·.1))) (decide ((24:Int)<=(H.letters.length:Int))) with
  |some f=>.ok (.str f) (h++[.lst (c9.map .str)])
  |none=>.ok .non ((h++[Cell.lst (c9.map .str)]).set (n+4) (.dict (kd (H.letters++[(a,D.tup [.str j,.str wy,.tup (c9.map .str)])])))):=by
 rw[i6 W.f22 rfl];simp only[M5];rw[gc0]
 have e4:∀xs,S8 xs (some 4) none=xs.drop 4:=G7 4
 have A1:=A.app [.lst (c9.map .str)];have hw1:=b5 (g:=[.lst (c9.map .str)]) hw;have hs:=U8 (ct:=ct) (k:=k+3) W A1 (b6 (h:=h)) (by show _<=16777216;omega)
 simp_arith[a3D W hw ha hal hj hy hr hrl hrs,Bool.not_true,o8 1 1 rfl hw rfl,J5 hw,e4,drop_succ_cons,drop_zero,op2,A1.fld4,Y4 A1.c4,a2V A1.c4,E6,hs,z8 W,W2]
 cases hd:due (decide (a∈H.letters.map (·.1))) (c9.all fun x=>decide (x∈H.shapes.map (·.1))) (decide ((24:Int)<=(H.letters.length:Int))) with
 |some f=>simp_arith[Option.isNone_some,U9]
 |none=>
  obtain⟨d1,_,d2⟩:=a0k hd;have d2:=of_decide_eq_false d2;simp_arith[Option.isNone_none,o8 2 2 rfl hw1 rfl,o8 3 3 rfl hw1 rfl,M3 b6,A1.fld4,Y9 A1.c4 (of_decide_eq_false d1) (show _<16777216 by omega),U9]
theorem a3z{k:Nat}{H:HD}{c9:List Str}(A:HallAt h n H)(hw:h[w]? =some (.lst (.str x::.str a::c9.map .str)))(ha:b9 a=true)(hal:a.length<=100000)
 (hr:c9.all b9=true) (hrl:∀y∈c9,y.length<=100000) (hr1:1<=c9.length) (hr2:c9.length<=20):
 b4 ct F (k+5) 24 [.ref n,.ref w] h=match due (decide (a∈H.classes.map (·.1))) (c9.all fun x=>decide (x∈H.shapes.map (·.1))) (decide ((20:Int)<=(H.classes.length:Int))) with
  |some f=>.ok (.str f) (h++[.lst (c9.map .str),.lst (.str a::c9.map .str)])
  |none=>.ok .non ((h++[Cell.lst (c9.map .str),Cell.lst (.str a::c9.map .str)]).set (n+6) (.dict (kd (H.classes++[(a,D.tup (c9.map .str))])))):=by
 rw[i6 W.f24 rfl];simp only[O9];rw[gc0]
 have e1:∀xs,S8 xs (some 1) none=xs.drop 1:=G7 1
 have e2:∀xs,S8 xs (some 2) none=xs.drop 2:=G7 2
 have hw1:=b5 (g:=[.lst (c9.map .str)]) hw;have hw2:=b5 (g:=[.lst (.str a::c9.map .str)]) hw1;have A2:=(A.app [.lst (c9.map .str)]).app [.lst (.str a::c9.map .str)]
 have hq:(h++[Cell.lst (c9.map .str)]++[.lst (.str a::c9.map .str)])[h.length]? =some (.lst (c9.map .str)):=b5 b6
 have hs:=U8 (ct:=ct) (k:=k+3) W A2 hq (by show _<=16777216;omega)
 have hn:b4 ct F (k+4) 9 [.ref (h++[Cell.lst (c9.map .str)]).length] (h++[Cell.lst (c9.map .str)]++[.lst (.str a::c9.map .str)])=.ok (.bl true) (h++[Cell.lst (c9.map .str)]++[.lst (.str a::c9.map .str)]):=by
  have:=Q3 (ct:=ct) (n:=k+1) (ws:=a::c9) W (b6 (h:=h++[Cell.lst (c9.map .str)]) (c:=.lst (.str a::c9.map .str))) (by show _<=16777216;simp;omega) (fun y hy=>by
   rcases aB.mp hy with rfl|hy
   · exact hal
   · exact hrl y hy)
  rw[all_cons,ha,hr] at this;exact this
 have l1:decide ((1:Int)<=(c9.length:Int))=true:=aR (by omega)
 have l2:decide ((c9.length:Int)<=20)=true:=aR (by omega)
 simp_arith[J5 hw,e2,drop_succ_cons,drop_zero,n8 b6,aa,op2,E6,l1,l2,Bool.not_true,J5 hw1,e1,hn,o8 1 1 rfl hw2 rfl,A2.fld6,Y4 A2.c6,a2V A2.c6,hs,z8 W,W2];rw[show h++[Cell.lst (c9.map D.str),.lst (.str a::c9.map .str)]=h++[Cell.lst (c9.map .str)]++[.lst (.str a::c9.map .str)] by simp]
 cases hd:due (decide (a∈H.classes.map (·.1))) (c9.all fun x=>decide (x∈H.shapes.map (·.1))) (decide ((20:Int)<=(H.classes.length:Int))) with
 |some f=>simp_arith[Option.isNone_some,U9]
 |none=>
  obtain⟨d1,_,d2⟩:=a0k hd;have d2:=of_decide_eq_false d2;simp_arith[Option.isNone_none,M3 hq,A2.fld6,Y9 A2.c6 (of_decide_eq_false d1) (show _<16777216 by omega),U9]
end
theorem v0{l:AH}:(h++l)[h.length+i]? =l[i]? :=by
 rw[ao (by omega)]
 congr 1;omega
theorem b2t{l:AH}{c:Cell}:(h++l).set (h.length+i) c=h++l.set i c:=by
 rw[List.set_append_right _ _ (by omega)]
 congr 2;omega
theorem b4J{c:Cell}(e:h[i]? =some c):h.set i c=h:=by
 refine ext_getElem? fun j=>?_
 by_cases hj:i=j
 · subst hj;rw[List.getElem?_set_self (ac.mp e).1,e]
 · rw[List.getElem?_set_ne hj]
theorem b4g{xs:List D}:atI (xs++[d]) (-1)=some d:=by
 unfold atI ixN;rw[aw (by omega),av (by simp;omega)]
 simp only[Option.bind_some];rw[show((-1:Int)+((xs++[d]).length:Int)).toNat=xs.length by simp;omega]
 simp
noncomputable def G0(x:Str):Bool:=decide (x="/")||decide (x=">")
theorem a6c:O1 false h (.str x) (.tup [.str "/",.str ">"])=.ok (.bl (G0 x)) h:=by
 have e:inD (.str x) [.str "/",.str ">"]=G0 x:=by
  show((Str.ofString "/"==x)||((Str.ofString ">"==x)||false))=(decide (x="/")||decide (x=">"))
  rw[Bool.or_false,Bool.eq_iff_iff,aZ,aZ,beq_iff_eq,beq_iff_eq,decide_eq_true_iff,decide_eq_true_iff];exact⟨fun z=>z.imp Eq.symm Eq.symm,fun z=>z.imp Eq.symm Eq.symm⟩
 simp only[O1,w6,all_cons,all_nil,Bool.and_self,if_true,e]
 cases G0 x<;>rfl
theorem a2I{l:AH}{xs:List D}(e:l[i]? =some (.lst xs)):rdL (h++l) (h.length+i)=some xs:=by
 unfold rdL;rw[v0,e]
theorem a0Z{l:AH}{xs:List D}(e:l[i]? =some (.lst xs))(hl:xs.length<SL):mtD .append (h++l) (.ref (h.length+i)) [d]=.ok .non (h++l.set i (.lst (xs++[d]))):=by
 simp only[mtD,v0,e,av hl,b2t]
variable{j:Nat}
theorem b5C{l:AH}{xs ys:List D}(e1:l[i]? =some (.lst xs))(e2:l[j]? =some (.lst ys))(hf:(xs.all w6&&ys.all w6)=true)(he:b1D xs ys=true):op2 .ne (h++l) (.ref (h.length+i)) (.ref (h.length+j))=.ok (.bl false) (h++l):=by
 simp only[op2,a1h,eqS,b1C,a2I e1,a2I e2,hf,if_true,he];rfl
def rpB:Ss:=(.cons (.iff (.cmp .isin (.v 3) (.tup (.cons (.k (.str "/")) (.cons (.k (.str ">")) .nil)))) (.cons (.ex (.mt .append (.v 2) (.cons (.v 3) .nil))) (.cons (.ex (.mt .append (.v 1) (.cons (.lst .nil) .nil))) .nil)) (.cons (.ex (.mt .append (.ix (.v 1) (.neg (.k (.int (1))))) (.cons (.v 3) .nil))) .nil)) .nil)
section
variable{ct:CT}{c:CF}{q:Nat}{S:List D}
theorem a2E:∀(L:List Str) (l:AH) (R P:List D) (e:Option D) (c9:List D),l[1]? =some (.lst (R++[.ref (h.length+q)]))->l[q]? =some (.lst P)->l[3]? =some (.lst S)->q≠1->q≠3->(∀x∈L,G0 x=false)->P.length+L.length<=100000→
 ∃e',K6 [(h.length+3,.lst S)] (.nm 3) (exs ct c rpB) (L.map D.str++c9) [some (.ref w),some (.ref (h.length+1)),some (.ref (h.length+2)),e] (h++l)=
  K6 [(h.length+3,.lst S)] (.nm 3) (exs ct c rpB) c9 [some (.ref w),some (.ref (h.length+1)),some (.ref (h.length+2)),e'] (h++l.set q (.lst (P++L.map D.str)))
 |[],l,R,P,e,c9,h1,h2,h3,q1,q3,_,_=>⟨e,by rw[map_nil,aQ,b4J h2,nil_append]⟩
 | x::L,l,R,P,e,c9,h1,h2,h3,q1,q3,hL,hs=>by
  rw[length_cons] at hs;have hx:=hL x aP;obtain⟨e',ih⟩:=a2E L (l.set q (.lst (P++[.str x]))) R (P++[.str x]) (some (.str x)) c9 (by rw[List.getElem?_set_ne q1];exact h1) (List.getElem?_set_self (ac.mp h2).1) (by rw[List.getElem?_set_ne q3];exact h3) q1 q3 (fun y hy=>hL y (aA _ hy)) (by simp;omega)
  refine⟨e',?_⟩
  have hg:gOk [(h.length+3,Cell.lst S)] (h++l)=true:=by simp[gOk,v0,h3]
  rw[map_cons,cons_append,K6,av hg];simp only[D6]
  have hix:ixD (h++l) (.ref (h.length+1)) (.int (-1))=.ok (.ref (h.length+q)) (h++l):=by
   simp only[ixD,v0,h1,b4g]
  have hmt:mtT .append (h++l) (.ref (h.length+q))=true:=by simp only[mtT,a2I h2,Option.isSome_some]
  have hap:=a0Z (h:=h) (d:=D.str x) h2 (show P.length<16777216 by omega)
  simp only[rpB];simp_arith[op2,a6c,hx,hix,hmt,hap];rw[List.set_set] at ih;rw[ax] at ih;exact ih
theorem a4B(x:Str)(l:AH)(R B:List D)(e:Option D)(c9:List D)(h1:l[1]? =some (.lst R))(h2:l[2]? =some (.lst B))(h3:l[3]? =some (.lst S))(hx:G0 x=true)(hR:R.length<=1000)(hB:B.length<=1000):
 ∃e',K6 [(h.length+3,.lst S)] (.nm 3) (exs ct c rpB) (D.str x::c9) [some (.ref w),some (.ref (h.length+1)),some (.ref (h.length+2)),e] (h++l)=
  K6 [(h.length+3,.lst S)] (.nm 3) (exs ct c rpB) c9 [some (.ref w),some (.ref (h.length+1)),some (.ref (h.length+2)),e'] (h++((l.set 2 (.lst (B++[.str x]))).set 1 (.lst (R++[.ref (h.length+l.length)]))++[.lst []])):=by
 refine⟨some (.str x),?_⟩
 have hg:gOk [(h.length+3,Cell.lst S)] (h++l)=true:=by simp[gOk,v0,h3]
 rw[K6,av hg];simp only[D6]
 have hm2:mtT .append (h++l) (.ref (h.length+2))=true:=by simp only[mtT,a2I h2,Option.isSome_some]
 have ha2:=a0Z (h:=h) (d:=D.str x) h2 (show B.length<16777216 by omega)
 have h1':(l.set 2 (Cell.lst (B++[.str x])))[1]? =some (.lst R):=by rw[List.getElem?_set_ne (by decide)];exact h1
 have hm1:mtT .append (h++l.set 2 (.lst (B++[.str x]))) (.ref (h.length+1))=true:=by simp only[mtT,a2I h1',Option.isSome_some]
 have h1'':(l.set 2 (Cell.lst (B++[.str x]))++[.lst []])[1]? =some (.lst R):=b5 h1'
 have ha1:mtD .append (h++l.set 2 (.lst (B++[.str x]))++[.lst []]) (.ref (h.length+1)) [.ref (h++l.set 2 (.lst (B++[.str x]))).length]=.ok .non (h++((l.set 2 (.lst (B++[.str x]))).set 1 (.lst (R++[.ref (h.length+l.length)]))++[.lst []])):=by
  rw[ax,a0Z h1'' (show R.length<16777216 by omega)]
  have hl:1<(l.set 2 (Cell.lst (B++[.str x]))).length:=(ac.mp h1').1
  rw[List.set_append_left _ _ hl];simp
 simp only[rpB];simp_arith[op2,a6c,hx,hm2,ha2,hm1,y9,ha1]
end
noncomputable def i7(bef core aft told:List Str):List Str:=bef++("/":Str)::(core++("/":Str)::(aft++(">":Str)::told))
def a0r(n:Nat)(bef core aft told:List Str):AH:=[.lst (bef.map .str),.lst [.ref n,.ref (n+4),.ref (n+5),.ref (n+6)],.lst [.str "/",.str "/",.str ">"],.lst ((i7 bef core aft told).map .str),.lst (core.map .str),.lst (aft.map .str),.lst (told.map .str),.lst [.str "/",.str "/",.str ">"]]
variable{bef:List Str}{core:List Str}{aft:List Str}{told:List Str}
section
variable{ct:CT}{F:Nat->Option Fn}(W:PF F)
include W
theorem a0J{k:Nat}{t f:Str}(hw:h[w]? =some (.lst (.str x::.str t::.str f::(i7 bef core aft told).map .str)))
 (pl:∀y∈bef++core++aft++told,G0 y=false) (hl:(bef++core++aft++told).length<=1000):b4 ct F (k+1) 28 [.ref w] h=.ok (.ref (h.length+1)) (h++a0r h.length bef core aft told):=by
 rw[i6 W.f28 rfl]
 have hf:P9=⟨1,4,0,(.cons (.set 1 (.lst (.cons (.lst .nil) .nil))) (.cons (.set 2 (.lst .nil)) (.cons (.for (.nm 3) (.seq (.sl (.v 0) (.at (.k (.int (3)))) .no)) rpB) (.cons (.iff (.cmp .ne (.v 2) (.lst (.cons (.k (.str "/")) (.cons (.k (.str "/")) (.cons (.k (.str ">")) .nil))))) (.cons (.ret (.k .non)) .nil) .nil) (.cons (.ret (.v 1)) .nil)))))⟩:=rfl
 simp only[hf];rw[gc0]
 have e3:∀xs,S8 xs (some 3) none=xs.drop 3:=G7 3
 have hw':=b5 (g:=[Cell.lst [],.lst [.ref h.length],.lst []]) hw
 simp only[am] at hl
 have m1:∀y∈bef,G0 y=false:=fun y hy=>pl y (by simp[hy])
 have m2:∀y∈core,G0 y=false:=fun y hy=>pl y (by simp[hy])
 have m3:∀y∈aft,G0 y=false:=fun y hy=>pl y (by simp[hy])
 have m4:∀y∈told,G0 y=false:=fun y hy=>pl y (by simp[hy])
 have ps:G0 "/"=true:=by decide
 have pg:G0 ">"=true:=by decide
 obtain⟨e1,s1⟩:=a2E (ct:=ct) (c:=b4 ct F k) (h:=h) (w:=w) (q:=0) (S:=(i7 bef core aft told).map D.str) bef [.lst [],.lst [.ref h.length],.lst [],.lst ((i7 bef core aft told).map D.str)] [] [] none ((("/":Str)::(core++("/":Str)::(aft++(">":Str)::told))).map D.str) rfl rfl rfl (by decide) (by decide) m1 (by simp;omega)
 obtain⟨e2,s2⟩:=a4B (ct:=ct) (c:=b4 ct F k) (h:=h) (w:=w) (S:=(i7 bef core aft told).map D.str) "/" [.lst (bef.map .str),.lst [.ref h.length],.lst [],.lst ((i7 bef core aft told).map D.str)] [.ref h.length] [] e1 ((core++("/":Str)::(aft++(">":Str)::told)).map D.str) rfl rfl rfl ps (by simp) (by simp)
 obtain⟨e3',s3⟩:=a2E (ct:=ct) (c:=b4 ct F k) (h:=h) (w:=w) (q:=4) (S:=(i7 bef core aft told).map D.str) core [.lst (bef.map .str),.lst [.ref h.length,.ref (h.length+4)],.lst [.str "/"],.lst ((i7 bef core aft told).map D.str),.lst []] [.ref h.length] [] e2 ((("/":Str)::(aft++(">":Str)::told)).map D.str) rfl rfl rfl (by decide) (by decide) m2 (by simp;omega)
 obtain⟨e4,s4⟩:=a4B (ct:=ct) (c:=b4 ct F k) (h:=h) (w:=w) (S:=(i7 bef core aft told).map D.str) "/" [.lst (bef.map .str),.lst [.ref h.length,.ref (h.length+4)],.lst [.str "/"],.lst ((i7 bef core aft told).map D.str),.lst (core.map .str)] [.ref h.length,.ref (h.length+4)] [.str "/"] e3' ((aft++(">":Str)::told).map D.str) rfl rfl rfl ps (by simp) (by simp)
 obtain⟨e5,s5⟩:=a2E (ct:=ct) (c:=b4 ct F k) (h:=h) (w:=w) (q:=5) (S:=(i7 bef core aft told).map D.str) aft [.lst (bef.map .str),.lst [.ref h.length,.ref (h.length+4),.ref (h.length+5)],.lst [.str "/",.str "/"],.lst ((i7 bef core aft told).map D.str),.lst (core.map .str),.lst []] [.ref h.length,.ref (h.length+4)] [] e4 (((">":Str)::told).map D.str) rfl rfl rfl (by decide) (by decide) m3 (by simp;omega)
 obtain⟨e6,s6⟩:=a4B (ct:=ct) (c:=b4 ct F k) (h:=h) (w:=w) (S:=(i7 bef core aft told).map D.str) ">" [.lst (bef.map .str),.lst [.ref h.length,.ref (h.length+4),.ref (h.length+5)],.lst [.str "/",.str "/"],.lst ((i7 bef core aft told).map D.str),.lst (core.map .str),.lst (aft.map .str)] [.ref h.length,.ref (h.length+4),.ref (h.length+5)] [.str "/",.str "/"] e5 (told.map D.str) rfl rfl rfl pg (by simp) (by simp)
 obtain⟨e7,s7⟩:=a2E (ct:=ct) (c:=b4 ct F k) (h:=h) (w:=w) (q:=6) (S:=(i7 bef core aft told).map D.str) told [.lst (bef.map .str),.lst [.ref h.length,.ref (h.length+4),.ref (h.length+5),.ref (h.length+6)],.lst [.str "/",.str "/",.str ">"],.lst ((i7 bef core aft told).map D.str),.lst (core.map .str),.lst (aft.map .str),.lst []] [.ref h.length,.ref (h.length+4),.ref (h.length+5)] [] e6 [] rfl rfl rfl (by decide) (by decide) m4 (by simp;omega)
 have sx:(i7 bef core aft told).map D.str=bef.map D.str++(("/":Str)::(core++("/":Str)::(aft++(">":Str)::told))).map D.str:=by unfold i7;rw[al]
 have all:K6 [(h.length+3,.lst ((i7 bef core aft told).map D.str))] (.nm 3) (exs ct (b4 ct F k) rpB) ((i7 bef core aft told).map D.str) [some (.ref w),some (.ref (h.length+1)),some (.ref (h.length+2)),none] (h++[.lst [],.lst [.ref h.length],.lst [],.lst ((i7 bef core aft told).map D.str)])=
  .ok (.nx [some (.ref w),some (.ref (h.length+1)),some (.ref (h.length+2)),e7]) (h++[.lst (bef.map .str),.lst [.ref h.length,.ref (h.length+4),.ref (h.length+5),.ref (h.length+6)],.lst [.str "/",.str "/",.str ">"],.lst ((i7 bef core aft told).map D.str),.lst (core.map .str),.lst (aft.map .str),.lst (told.map .str)]):=by
  rw[←sx] at s1;refine s1.trans ?_
  refine s2.trans ?_
  rw[al];refine s3.trans ?_
  refine s4.trans ?_
  rw[al];refine s5.trans ?_
  refine s6.trans ?_
  rw[aQ] at s7;refine s7.trans ?_
  rw[K6,av (by simp[gOk,v0])]
  rfl
 simp_arith[y9,ax,J5 hw',e3,drop_succ_cons,drop_zero,L4,am,v0,all]
 have hne:op2 .ne (h++[Cell.lst (bef.map D.str),.lst [.ref h.length,.ref (h.length+4),.ref (h.length+5),.ref (h.length+6)],.lst [.str "/",.str "/",.str ">"],.lst ((i7 bef core aft told).map D.str),.lst (core.map .str),.lst (aft.map .str),.lst (told.map .str),.lst [.str "/",.str "/",.str ">"]]) (.ref (h.length+2)) (.ref (h.length+7))=
  .ok (.bl false) (h++[Cell.lst (bef.map D.str),.lst [.ref h.length,.ref (h.length+4),.ref (h.length+5),.ref (h.length+6)],.lst [.str "/",.str "/",.str ">"],.lst ((i7 bef core aft told).map D.str),.lst (core.map .str),.lst (aft.map .str),.lst (told.map .str),.lst [.str "/",.str "/",.str ">"]]):=by
  exact b5C rfl rfl (by decide) (by decide)
 simp_arith[hne];rfl
end
def M9(z:Str):Bool:=decide ((cd z).head? =some 64)&&b9 (tl z)
def U7(z:Str):Bool:=b9 z||M9 z
def L6(H:HD)(z:Str):Bool:=if M9 z then decide (tl z∈H.classes.map (·.1)) else decide (z∈H.shapes.map (·.1))
theorem a6d{c:Nat}(h:(cd z).head? =some c):1<=z.length:=by
 rw[←o4]
 cases hq:cd z with
 |nil=>rw[hq] at h;cases h
 |cons c r=>simp
theorem b7l(z:Str):(tl z).length<=z.length:=by
 rw[←o4,←o4,a3i,bg];omega
section
variable{ct:CT}{F:Nat->Option Fn}(W:PF F)
include W
theorem a0l(h1:1<=z.length)(hz:z.length<=100000):b4 ct F (n+1) 6 [.str z] h=.ok (.str (tl z)) h:=by
 rw[i6 W.f6 rfl];simp only[J4]
 have hl:z.length<=SL:=by show _<=16777216;omega
 have ha:(Str.ofString "@").length=1:=by decide
 simp_arith[biD,ha,slD,av hl,Int.cast_ofNat_Int];rw[a5H z h1];exact x3 rfl
theorem a1V(hz:z.length<=100000):b4 ct F (n+3) 7 [.str z] h=.ok (.bl (M9 z)) h:=by
 rw[i6 W.f7 rfl];simp only[J1]
 have hst:Txt.startswith z "@"=decide ((cd z).head? =some 64):=W4
 unfold M9
 by_cases h1:(cd z).head? =some 64
 · have hl1:=a6d h1
   have ht:(tl z).length<=100000:=aK (b7l z) hz
   simp_arith[mtT,mtD,hst,h1,decide_true,a0l W hl1 hz,E8 W ht,Bool.true_and];exact x3 rfl
 · simp_arith[mtT,mtD,hst,h1,decide_false,Bool.false_and];exact x3 rfl
theorem a7a(hz:z.length<=100000):b4 ct F (n+4) 8 [.str z] h=.ok (.bl (U7 z)) h:=by
 rw[i6 W.f8 rfl];simp only[a0z];unfold U7;simp_arith[E8 W hz,a1V W hz]
 cases b9 z with
 |true=>simp_arith[Bool.true_or];exact x3 rfl
 |false=>simp_arith[Bool.false_or];exact x3 rfl
theorem a5u(hw:h[w]? =some (.lst (ws.map D.str)))(hl:ws.length<=SL)(hs:∀x∈ws,x.length<=100000):b4 ct F (n+5) 11 [.ref w] h=.ok (.bl (ws.all U7)) h:=
 a1M (n:=n+4) W W.f11 rfl hw hl fun x hx=>a7a W (hs x hx)
theorem a6f{k:Nat}{H:HD}(A:HallAt h n H)(hz:z.length<=100000):b4 ct F (k+4) 30 [.ref n,.str z] h=.ok (.bl (L6 H z)) h:=by
 rw[i6 W.f30 rfl];simp only[X9];unfold L6;simp_arith[a1V W hz]
 cases hc:M9 z with
 | true=>
  have hl1:1<=z.length:=by
   unfold M9 at hc;rw[ae] at hc;exact a6d (aq hc.1)
  simp_arith[a0l W hl1 hz,A.fld6,op2,Y4 A.c6];exact x3 rfl
 |false=>
  simp_arith[A.fld1,op2,Y4 A.c1];exact x3 rfl
theorem a5a{k:Nat}{H:HD}(A:HallAt h n H)(hw:h[w]? =some (.lst (ws.map .str)))(hl:ws.length<=SL)(hs:∀x∈ws,x.length<=100000):b4 ct F (k+5) 29 [.ref n,.ref w] h=.ok (.bl (ws.all (L6 H))) h:=by
 rw[i6 W.f29 rfl];simp only[T8];simp_arith[];rw[p8 (l:=ws.map D.str) (g:=[(w,.lst (ws.map D.str))]) (h1:=h) ?_ (by simp[gOk,hw]) (fun d=>match d with|.str x=>.bl (L6 H x)|_=>.non) (fun d=>[some d,some (.ref n)]) ?_ (by simpa using hl)]
 · have e:(ws.map D.str).map (fun d=>match d with|D.str x=>D.bl (L6 H x)|_=>D.non)=ws.map fun x=>D.bl (L6 H x):=by
    rw[aD];rfl
   rw[e];simp_arith[a2s];exact gc1 rfl
 · simp_arith[L4,hw]
 · intro x hx;obtain⟨y,hy,rfl⟩:=ak.mp hx;refine⟨rfl,?_⟩
   simp_arith[a6f W A (hs y hy)]
theorem a6e{k:Nat}{H:HD}{t:Str}(A:HallAt h n H)(hl:H.rules.length<=100000):b4 ct F (k+1) 31 [.ref n,.str t] h=.ok (.bl (decide (t∈H.rules.map (·.1)))) h:=by
 rw[i6 W.f31 rfl];simp only[X5];simp_arith[];rw[p8 (l:=rd H.rules) (g:=[(n+8,.lst (rd H.rules))]) (h1:=h) ?_ (by simp[gOk,A.c8]) (fun d=>match d with|.tup (.str x::_)=>.bl (decide (x=t))|_=>.non) (fun d=>[some d,some (.str t)]) ?_ (by simp[rd];show _<=16777216;omega)]
 · have e:(rd H.rules).map (fun d=>match d with|D.tup (D.str x::_)=>D.bl (decide (x=t))|_=>D.non)=H.rules.map fun r=>D.bl (decide (r.1=t)):=by
    unfold rd;rw[aD];rfl
   rw[e];simp_arith[a5t]
   have e2:(H.rules.any fun r=>decide (r.1=t))=decide (t∈H.rules.map (·.1)):=by
    rw[Bool.eq_iff_iff,aY,decide_eq_true_iff,ak];exact⟨fun⟨r,h1,h2⟩=>⟨r,h1,aq h2⟩,fun⟨r,h1,h2⟩=>⟨r,h1,aR h2⟩⟩
   rw[e2];exact gc1 rfl
 · simp_arith[A.fld8,L4,A.c8]
 · intro x hx;unfold rd at hx;obtain⟨y,hy,rfl⟩:=ak.mp hx;refine⟨rfl,?_⟩
   have:atI (D.str y.1::y.2) 0=some (D.str y.1):=by simp[atI,ixN]
   simp_arith[ixD,this,op2,C0,eqS]
end
theorem a6i{l:AH}:(h++l)[h.length]? =l[0]? :=v0 (i:=0)
structure RP(g:AH)(n:Nat)(bef core aft told:List Str):Prop where
 l:g[n+1]? =some (.lst [.ref n,.ref (n+4),.ref (n+5),.ref (n+6)])
 p0:g[n]? =some (.lst (bef.map .str))
 p1:g[n+4]? =some (.lst (core.map .str))
 p2:g[n+5]? =some (.lst (aft.map .str))
 p3:g[n+6]? =some (.lst (told.map .str))
theorem RP.mk':RP (h++a0r h.length bef core aft told) h.length bef core aft told:=
 ⟨v0,a6i,v0,v0,v0⟩
theorem RP.app(r:RP g n bef core aft told)(t:AH):RP (g++t) n bef core aft told:=⟨b5 r.l,b5 r.p0,b5 r.p1,b5 r.p2,b5 r.p3⟩
theorem RP.i0(r:RP g n bef core aft told):ixD g (.ref (n+1)) (.int 0)=.ok (.ref n) g:=o8 0 0 rfl r.l rfl
theorem RP.i1(r:RP g n bef core aft told):ixD g (.ref (n+1)) (.int 1)=.ok (.ref (n+4)) g:=o8 1 1 rfl r.l rfl
theorem RP.i2(r:RP g n bef core aft told):ixD g (.ref (n+1)) (.int 2)=.ok (.ref (n+5)) g:=o8 2 2 rfl r.l rfl
theorem RP.i3(r:RP g n bef core aft told):ixD g (.ref (n+1)) (.int 3)=.ok (.ref (n+6)) g:=o8 3 3 rfl r.l rfl
theorem a1y{a b:Nat}{xs ys:List D}(h1:g[a]? =some (.lst xs))(h2:g[b]? =some (.lst ys))(hl:xs.length+ys.length<=100000):V8 g (.ref a) (.ref b)=.ok (.ref g.length) (g++[.lst (xs++ys)]):=by
 simp only[V8,h1,h2];rw[av (by show _<=16777216;omega)]
 rfl
theorem c0q{b x:Bool}:(if b=true then R.ok (D.bl x) h else R.ok (D.bl false) h)=.ok (.bl (b&&x)) h:=by cases b<;>rfl
theorem b6K:(true !=false)=true:=rfl
structure RuleForm(t f:Str)(bef core aft told:List Str):Prop where
 ht:b9 t=true
 hf:b9 f=true
 b:bef.length<=3
 c1:1<=core.length
 c2:core.length<=4
 a:aft.length<=3
 o1:1<=told.length
 o2:told.length<=3
 it:(bef++core++aft).all U7=true
 to:told.all b9=true
 len:∀y∈t::f::(bef++core++aft++told),y.length<=100000
variable{y:Str}
theorem a7M(h:U7 y=true):G0 y=false:=by
 cases hp:G0 y with
 |false=>rfl
 |true=>
  unfold G0 at hp;rw[aZ] at hp
  rcases hp with e|e
  · have e:=aq e;subst e
    revert h
    decide
  · have e:=aq e;subst e
    revert h
    decide
theorem RuleForm.pl{t f:Str}(r:RuleForm t f bef core aft told):∀y∈bef++core++aft++told,G0 y=false:=fun y hy=>by
 rcases aF.mp hy with hy|hy
 · exact a7M (aX.mp r.it y hy)
 · exact a7M (by unfold U7;rw[aX.mp r.to y hy];rfl)
theorem RuleForm.sz{t f:Str}(r:RuleForm t f bef core aft told):(bef++core++aft++told).length<=1000:=by
 have:=r.b;have:=r.c2;have:=r.a;have:=r.o2
 simp only[am];omega
variable{sd:Str}
section
variable{ct:CT}{F:Nat->Option Fn}(W:PF F)
include W
theorem a1J{k:Nat}{t f:Str}(hw:h[w]? =some (.lst (.str x::.str t::.str f::(i7 bef core aft told).map .str)))(r:RuleForm t f bef core aft told):b4 ct F (k+6) 27 [.ref w] h=.ok (.bl true) h:=by
 rw[i6 W.f27 rfl];simp only[J3]
 have e13:S8 (.str x::.str t::.str f::(i7 bef core aft told).map .str) (some 1) (some 3)=[.str t,.str f]:=by
  have:=a0B 1 3 (.str x::.str t::.str f::(i7 bef core aft told).map .str) (by decide) (by simp)
  exact this
 have hw1:=b5 (g:=[Cell.lst [.str t,.str f]]) hw
 have hn:b4 ct F (k+5) 9 [.ref h.length] (h++[.lst [.str t,.str f]])=.ok (.bl true) (h++[.lst [.str t,.str f]]):=by
  have:=Q3 (ct:=ct) (n:=k+2) (ws:=[t,f]) W (b6 (h:=h) (c:=.lst [.str t,.str f])) (by show 2<=16777216;decide) (fun y hy=>r.len y (by
   rcases aB.mp hy with rfl|hy
   · simp
   · rw[aI] at hy;subst hy;simp))
  simpa [r.ht,r.hf] using this
 have hp:=a0J (ct:=ct) (k:=k+4) W hw1 r.pl r.sz;have R:=RP.mk' (h:=h++[Cell.lst [.str t,.str f]]) (bef:=bef) (core:=core) (aft:=aft) (told:=told);generalize hn1:(h++[Cell.lst [.str t,.str f]]).length=n at hp R;generalize hg:h++[Cell.lst [.str t,.str f]]++a0r n bef core aft told=g at hp R;have R1:=R.app [.lst (bef.map D.str++core.map D.str)];have R2:=R1.app [.lst (bef.map D.str++core.map D.str++aft.map D.str)];have lb:=r.b;have lc1:=r.c1;have lc2:=r.c2;have la:=r.a;have lo1:=r.o1;have lo2:=r.o2;have a1:=a1y R.p0 R.p1 (by simp;omega)
 have a2:=a1y (b6 (h:=g) (c:=.lst (bef.map D.str++core.map D.str))) R1.p2 (by simp;omega)
 have hi:b4 ct F (k+5) 11 [.ref (g++[Cell.lst (bef.map D.str++core.map D.str)]).length] (g++[.lst (bef.map D.str++core.map D.str)]++[.lst (bef.map D.str++core.map D.str++aft.map D.str)])=.ok (.bl true) (g++[.lst (bef.map D.str++core.map D.str)]++[.lst (bef.map D.str++core.map D.str++aft.map D.str)]):=by
  have:=a5u (ct:=ct) (n:=k) (ws:=bef++core++aft) W (h:=g++[.lst (bef.map D.str++core.map D.str)]++[.lst (bef.map D.str++core.map D.str++aft.map D.str)]) (w:=(g++[Cell.lst (bef.map D.str++core.map D.str)]).length) (by rw[b6];simp) (by show _<=16777216;simp;omega) (fun y hy=>r.len y (aA _ (aA _ (mem_append_left _ hy))))
  rw[r.it] at this;exact this
 have ht:b4 ct F (k+5) 9 [.ref (n+6)] (g++[.lst (bef.map D.str++core.map D.str)]++[.lst (bef.map D.str++core.map D.str++aft.map D.str)])=.ok (.bl true) (g++[.lst (bef.map D.str++core.map D.str)]++[.lst (bef.map D.str++core.map D.str++aft.map D.str)]):=by
  have:=Q3 (ct:=ct) (n:=k+2) (ws:=told) W R2.p3 (by show _<=16777216;omega) (fun y hy=>r.len y (by simp[hy]))
  rw[r.to] at this;exact this
 have d1:decide ((3:Int)<(bef.length:Int))=false:=bf (by omega)
 have d2:decide ((3:Int)<(aft.length:Int))=false:=bf (by omega)
 have d3:decide ((1:Int)<=(core.length:Int))=true:=aR (by omega)
 have d4:decide ((core.length:Int)<=4)=true:=aR (by omega)
 have d5:decide ((1:Int)<=(told.length:Int))=true:=aR (by omega)
 have d6:decide ((told.length:Int)<=3)=true:=aR (by omega)
 have nn:∀m:Nat,decide (D.ref m=D.non)=false:=fun m=>bf (fun z=>nomatch z)
 simp_arith[J5 hw,e13,hn,Bool.not_true,hp,nn,R.i0,R.i1,R.i2,R.i3,n8 R.p0,n8 R.p1,n8 R.p2,n8 R.p3,aa,op2,E6,d1,d2,d3,d4,d5,d6,a1,a2,R1.i2,R2.i3,hi,ht];rw[←hg];simp only[ax];exact gc1 rfl
theorem a4r{k:Nat}{H:HD}{t f:Str}(A:HallAt h n H)(hr:H.rules.length<=100000)(hw:h[w]? =some (.lst (.str x::.str t::.str f::(i7 bef core aft told).map .str)))(r:RuleForm t f bef core aft told):
 ∃h',b4 ct F (k+7) 26 [.ref n,.ref w] h=.ok (U9 (due (decide (t∈H.rules.map (·.1))) (decide (f∈H.features.map (·.1))&&((bef++core++aft).all (L6 H)&&told.all fun x=>decide (x∈H.shapes.map (·.1)))) (decide ((30:Int)<=(H.rules.length:Int))))) h'/\Fr n h h'∧
  HallAt h' n (if(due (decide (t∈H.rules.map (·.1))) (decide (f∈H.features.map (·.1))&&((bef++core++aft).all (L6 H)&&told.all fun x=>decide (x∈H.shapes.map (·.1)))) (decide ((30:Int)<=(H.rules.length:Int)))).isNone then{H with rules:=H.rules++[(t,[.str f,.tup (bef.map .str),.tup (core.map .str),.tup (aft.map .str),.tup (told.map .str)])]} else H):=by
 rw[i6 W.f26 rfl];simp only[T4];rw[gc0];have hp:=a0J (ct:=ct) (k:=k+5) W hw r.pl r.sz;have R:=RP.mk' (h:=h) (bef:=bef) (core:=core) (aft:=aft) (told:=told);have A0:=A.app (a0r h.length bef core aft told);have fr0:=Fr.app n h (a0r h.length bef core aft told);generalize h.length=m at hp R A0 fr0;generalize h++a0r m bef core aft told=g at hp R A0 fr0;have R1:=R.app [.lst (bef.map D.str++core.map D.str)];have R2:=R1.app [.lst (bef.map D.str++core.map D.str++aft.map D.str)];have A2:=(A0.app [.lst (bef.map D.str++core.map D.str)]).app [.lst (bef.map D.str++core.map D.str++aft.map D.str)];have lb:=r.b;have lc2:=r.c2;have la:=r.a;have lo2:=r.o2;have a1:=a1y R.p0 R.p1 (by simp;omega)
 have a2:=a1y (b6 (h:=g) (c:=.lst (bef.map D.str++core.map D.str))) R1.p2 (by simp;omega)
 have hi:=a5a (ct:=ct) (k:=k+1) (ws:=bef++core++aft) W A2 (w:=(g++[Cell.lst (bef.map D.str++core.map D.str)]).length) (by rw[b6];simp) (by show _<=16777216;simp;omega) (fun y hy=>r.len y (aA _ (aA _ (mem_append_left _ hy))))
 have hs:=U8 (ct:=ct) (k:=k+5) W A2 R2.p3 (by show _<=16777216;omega)
 have hq:=a6e (ct:=ct) (k:=k+5) (t:=t) W A2 hr
 have fr2:Fr n h (g++[.lst (bef.map D.str++core.map D.str)]++[.lst (bef.map D.str++core.map D.str++aft.map D.str)]):=fr0.trans ((Fr.app n g _).trans (Fr.app n _ _))
 have lr:biD .len (g++[.lst (bef.map D.str++core.map D.str)]++[.lst (bef.map D.str++core.map D.str++aft.map D.str)]) [.ref (n+8)]=.ok (.int H.rules.length) (g++[.lst (bef.map D.str++core.map D.str)]++[.lst (bef.map D.str++core.map D.str++aft.map D.str)]):=by
  rw[n8 A2.c8];simp[rd]
 generalize hG:g++[Cell.lst (bef.map D.str++core.map D.str)]++[.lst (bef.map D.str++core.map D.str++aft.map D.str)]=G at a2 hi hs hq lr A2 R2 fr2
 have hmt:mtT .append G (.ref (n+8))=true:=by
  have:rdL G (n+8)=some (rd H.rules):=by unfold rdL;rw[A2.c8]
  simp only[mtT,this,Option.isSome_some]
 have hap:∀d,mtD .append G (.ref (n+8)) [d]=.ok .non (G.set (n+8) (.lst (rd H.rules++[d]))):=fun d=>by
  simp only[mtD,A2.c8];rw[av (by show(rd H.rules).length<16777216;simp[rd];omega)]
 simp_arith[a1J W hw r,Bool.not_true,o8 1 1 rfl hw rfl,o8 2 2 rfl hw rfl,hp,R.i0,R.i1,op2,a1,R1.i2,a2,A2.fld7,Y4 A2.c7,hi,R2.i3,hs,c0q,hq,A2.fld8,lr,E6,z8 W,W2];generalize hd:due (decide (t∈H.rules.map (·.1))) (decide (f∈H.features.map (·.1))&&((bef++core++aft).all (L6 H)&&told.all fun x=>decide (x∈H.shapes.map (·.1)))) (decide ((30:Int)<=(H.rules.length:Int)))=du
 cases du with
 |some f=>
  simp_arith[Option.isNone_some,U9];exact⟨G,rfl,fr2,A2⟩
 |none=>
  simp_arith[Option.isNone_none,A2.fld8,hmt,R2.i0,R2.i1,R2.i2,R2.i3,M3 R2.p0,M3 R2.p1,M3 R2.p2,M3 R2.p3,hap,U9];refine⟨_,rfl,fr2.trans (Fr.set (by omega) (by omega)),?_⟩
  have:=A2.s8 (H.rules++[(t,[.str f,.tup (bef.map .str),.tup (core.map .str),.tup (aft.map .str),.tup (told.map .str)])])
  rw[show rd (H.rules++[(t,[.str f,.tup (bef.map .str),.tup (core.map .str),.tup (aft.map .str),.tup (told.map .str)])])=rd H.rules++[.tup (.str t::[.str f,.tup (bef.map .str),.tup (core.map .str),.tup (aft.map .str),.tup (told.map .str)])] by simp[rd]] at this
  exact this
theorem a4J{k:Nat}{i j:Int}(hw:h[w]? =some (.lst [.str a,.str b]))(ha:a0H a=some i)(hb:a0H b=some j):b4 ct F (k+1) 16 [.ref w] h=.ok (.tup [.int i,.int j]) h:=by
 obtain⟨a1,a2⟩:=a2g ha;obtain⟨b1,b2⟩:=a2g hb;rw[i6 W.f16 rfl];simp only[a0w];simp_arith[o8 0 0 rfl hw rfl,o8 1 1 rfl hw rfl,a7d a2 a1,a7d b2 b1];exact x3 rfl
theorem a1e{k:Nat}{c:Int}(hw:h[w]? =some (.lst (.str x::.str a::.str sd::ws.map .str)))(ha:b9 a=true)(hal:a.length<=100000)(hs:inD (.str sd) [.str "above",.str "below"]=true)(hc:c=ws.length)(hn:ws.all a3M=true)(hwl:∀y∈ws,y.length<=100000)(hl:ws.length<=100000):b4 ct F (k+5) 18 [.ref w,.int c] h=.ok (.bl true) h:=by
 subst hc;rw[i6 W.f18 rfl];simp only[J2]
 have e3:∀xs,S8 xs (some 3) none=xs.drop 3:=G7 3
 have hg:=a3F (ct:=ct) (n:=k) (ws:=ws) W (b6 (h:=h) (c:=.lst (ws.map .str))) (by show _<=16777216;omega) hwl
 rw[hn] at hg
 have hd:decide (((ws.length+1+1+1:Nat):Int)=3+(ws.length:Int))=true:=aR (by omega)
 simp_arith[n8 hw,aa,op2,V8,a1h,eqS,hd,Bool.not_true,o8 1 1 rfl hw rfl,o8 2 2 rfl hw rfl,E8 W hal,ha,hs,w6,all_cons,all_nil,Bool.and_self,and_self,b6K,J5 hw,e3,drop_succ_cons,drop_zero,hg];exact gc1 rfl
theorem a3y{k:Nat}{H:HD}{c:Str}{i j:Int}(A:HallAt h n H)(hw:h[w]? =some (.lst [.str x,.str a,.str sd,.str b,.str c]))(ha:b9 a=true)(hal:a.length<=100000)(hs:inD (.str sd) [.str "above",.str "below"]=true)(hb:a0H b=some i)(hc:a0H c=some j)(hl:H.points.length<=100000):
 ∃h',b4 ct F (k+6) 20 [.ref n,.ref w] h=.ok (U9 (due (decide ((a,sd)∈H.points.map (·.1))) (decide (a∈H.shapes.map (·.1))) false)) h'/\Fr n h h'∧
  HallAt h' n (if(due (decide ((a,sd)∈H.points.map (·.1))) (decide (a∈H.shapes.map (·.1))) false).isNone then{H with points:=H.points++[((a,sd),.tup [.int i,.int j])]} else H):=by
 obtain⟨_,b2⟩:=a2g hb;obtain⟨_,c2⟩:=a2g hc
 have hf:b4 ct F (k+5) 18 [.ref w,.int 2] h=.ok (.bl true) h:=a1e (ws:=[b,c]) W hw ha hal hs rfl (by simp[a5I,hb,hc]) (fun y hy=>by
  rcases aB.mp hy with rfl|hy
  · omega
  · rw[aI] at hy;subst hy;omega) (by simp)
 rw[i6 W.f20 rfl];simp only[O8];rw[gc0];simp_arith[hf,Bool.not_true,o8 1 1 rfl hw rfl,o8 2 2 rfl hw rfl,op2,A.fld3,b8h A.c3,A.fld1,Y4 A.c1,z8 W,W2];generalize hd:due (decide ((a,sd)∈H.points.map (·.1))) (decide (a∈H.shapes.map (·.1))) false=du
 cases du with
 |some f=>
  simp_arith[Option.isNone_some,U9];exact⟨h,rfl,Fr.refl n h,A⟩
 |none=>
  obtain⟨d1,_,_⟩:=a0k hd
  have e35:S8 [.str x,.str a,.str sd,.str b,.str c] (some 3) (some 5)=[.str b,.str c]:=a0B 3 5 _ (by decide) (by simp)
  have A1:=A.app [.lst [.str b,.str c]];simp_arith[Option.isNone_none,J5 hw,e35,a4J W (b6 (h:=h)) hb hc,A1.fld3,a8C A1.c3 (of_decide_eq_false d1) (show _<16777216 by omega),U9]
  exact⟨_,rfl,(Fr.app n h _).trans (Fr.set (by omega) (by omega)),A1.s3 _⟩
end
variable{text:Str}
section
variable{ct:CT}{F:Nat->Option Fn}
def Y5(ct:CT)(F:Nat->Option Fn)(d:Nat)(H:HD)(ws:List Str)(du:Option Str)(H':HD):Prop:=∀(h:AH) (n w:Nat),HallAt h n H->h[w]? =some (.lst (ws.map .str))->∃h',b4 ct F d 13 [.ref n,.ref w] h=.ok (U9 du) h'/\Fr n h h'/\HallAt h' n H'
inductive Reads(ct:CT)(F:Nat->Option Fn)(d:Nat):HD->List Str->HD->Prop
 |nil (H:HD):Reads ct F d H [] H
 |take {H H1 H':HD} {row:Str} {c9:List Str} (hl:row.length<=100000) (hw:M0 row≠[]) (k:Y5 ct F d H (M0 row) none H1) (t:Reads ct F d H1 c9 H'):Reads ct F d H (row::c9) H'
def rhB:Ss:=(.cons (.set 4 (.call 1 (.cons (.v 3) .nil))) (.cons (.iff (.cmp .gt (.bi .len (.cons (.v 4) .nil)) (.k (.int (0)))) (.cons (.set 5 (.call 13 (.cons (.v 1) (.cons (.v 4) .nil)))) (.cons (.iff (.notN (.v 5)) (.cons .bad .nil) .nil) .nil)) .nil) .nil))
variable(W:PF F)
include W
theorem b3f{d:Nat}{R:List Str}{H H':HD}{rows:List Str}(q:Reads ct F (d+1) H rows H'):∀(p:Nat) (h:AH) (e2 e3 e4 e5:Option D),HallAt h n H->h[n+9]? =some (.lst (R.map .str))→
 ∃h',Fr n h h'/\HallAt h' n H'/\∃a2 a3 a4 a5,K6 [(n+9,.lst (R.map .str))] (.tp (.cons (.nm 2) (.cons (.nm 3) .nil))) (exs ct (b4 ct F (d+1)) rhB) (B8 p (rows.map D.str)) [some (.str text),some (.ref n),e2,e3,e4,e5] h=.ok (.nx [some (.str text),some (.ref n),a2,a3,a4,a5]) h':=by
 have step:∀{h:AH} {e2 e3 e4 e5:Option D} {row:Str} {c9:List D} {p:Nat},h[n+9]? =some (.lst (R.map .str))→
  K6 [(n+9,.lst (R.map .str))] (.tp (.cons (.nm 2) (.cons (.nm 3) .nil))) (exs ct (b4 ct F (d+1)) rhB) (.tup [.int p,.str row]::c9) [some (.str text),some (.ref n),e2,e3,e4,e5] h=
  (exs ct (b4 ct F (d+1)) rhB [some (.str text),some (.ref n),some (.int p),some (.str row),e4,e5] h).bind fun o h'=>match o with
   |.nx env''=>K6 [(n+9,.lst (R.map .str))] (.tp (.cons (.nm 2) (.cons (.nm 3) .nil))) (exs ct (b4 ct F (d+1)) rhB) c9 env'' h'
   |.rt d=>.ok (.rt d) h':=fun{h e2 e3 e4 e5 row c9 p} hs=>by
  rw[K6,av (by simp[gOk,hs])]
  rfl
 induction q with
 |nil H=>
  intro p h e2 e3 e4 e5 A hs;refine⟨h,Fr.refl n h,A,e2,e3,e4,e5,?_⟩
  rw[map_nil,B8,K6,av (by simp[gOk,hs])]
 | @take H H1 H' row c9 hl hw k t ih=>
  intro p h e2 e3 e4 e5 A hs;obtain⟨h1,k1,k2,k3⟩:=k (h++[.lst ((M0 row).map .str)]) n h.length (A.app _) b6
  have hs1:h1[n+9]? =some (.lst (R.map .str)):=by
   have hs0:=b5 (g:=[Cell.lst ((M0 row).map .str)]) hs;rw[k2.get (n+9) (ac.mp hs0).1 (by omega)]
   exact hs0
  obtain⟨h',f1,A',e2',e3',e4',e5',m⟩:=ih (p+1) h1 (some (.int p)) (some (.str row)) (some (.ref h.length)) (some .non) k3 hs1
  have hp:decide ((0:Int)<(((M0 row).map D.str).length:Int))=true:=aR (by
   cases hq:M0 row with
   |nil=>exact absurd hq hw
   |cons a b=>simp)
  have e:exs ct (b4 ct F (d+1)) rhB [some (.str text),some (.ref n),some (.int p),some (.str row),e4,e5] h=.ok (.nx [some (.str text),some (.ref n),some (.int p),some (.str row),some (.ref h.length),some .non]) h1:=by
   simp only[rhB];simp_arith[a5A W hl,n8 b6,op2,E6,hp,k1,U9,decide_true,Bool.not_true]
  refine⟨h',((Fr.app n h _).trans k2).trans f1,A',e2',e3',e4',e5',?_⟩
  rw[map_cons,B8,step hs,e,b8];exact m
theorem b3y(f:Fr h.length h h'):h'.take h.length=h:=by
 refine ext_getElem? fun i=>?_
 by_cases hi:i<h.length
 · rw[bh hi,f.get i hi (.inl hi)]
 · rw[aO (by simp;omega),aO (by omega)]
theorem a4E{d:Nat}{H':HD}(hin:ct.init 6=32)(ht:text.length<=10000000)(q:Reads ct F (d+1) {} (Txt.split text "\n") H'):
 ∃h',h'.take h.length=h/\HallAt h' h.length H'/\b4 ct F (d+2) 12 [.str text] h=.ok (.ref h.length) h':=by
 rw[i6 W.f12 rfl]
 have hf:T6=⟨1,6,0,(.cons (.set 1 (.mk 6 .nil)) (.cons (.for (.tp (.cons (.nm 2) (.cons (.nm 3) .nil))) (.enum (.mt .split (.v 0) (.cons (.k (.str "\n")) .nil))) rhB) (.cons (.ret (.v 1)) .nil)))⟩:=rfl
 simp only[hf];rw[gc0]
 have A0:HallAt (h++[.obj 6 (a1K h.length),.dict [],.dict [],.dict [],.dict [],.lst [],.dict [],.dict [],.lst []]) h.length {}:=⟨a6i,v0,v0,v0,v0,v0,v0,v0,v0⟩
 have hlen:(h++[Cell.obj 6 (a1K h.length),.dict [],.dict [],.dict [],.dict [],.lst [],.dict [],.dict [],.lst []]).length=h.length+9:=by simp
 have hnew:=b1c (ct:=ct) (n:=d) (h:=h) W;generalize hg:h++[Cell.obj 6 (a1K h.length),.dict [],.dict [],.dict [],.dict [],.lst [],.dict [],.dict [],.lst []]=g at*
 have A1:=A0.app [.lst ((Txt.split text "\n").map .str)]
 have hs:(g++[Cell.lst ((Txt.split text "\n").map .str)])[h.length+9]? =some (.lst ((Txt.split text "\n").map .str)):=by rw[←hlen];exact b6
 obtain⟨h',f1,A',e2,e3,e4,e5,m⟩:=b3f (d:=d) (R:=Txt.split text "\n") (text:=text) W q 0 (g++[.lst ((Txt.split text "\n").map .str)]) none none none none A1 hs
 have fr:Fr h.length h h':=by
  refine Fr.trans ?_ f1
  rw[←hg];exact(Fr.app _ h _).trans (Fr.app _ _ _)
 refine⟨h',b3y W fr,A',?_⟩
 have hsp:mtD .split g (.str text) [.str "\n"]=.ok (.ref g.length) (g++[.lst ((Txt.split text "\n").map .str)]):=by
  simp only[mtD];rw[av ⟨by decide,by show _<=16777216;omega⟩]
  rfl
 have hen:a1s (g++[.lst ((Txt.split text "\n").map .str)]) (.ref g.length)=.ok (B8 0 ((Txt.split text "\n").map .str),[(h.length+9,.lst ((Txt.split text "\n").map .str))]) (g++[.lst ((Txt.split text "\n").map .str)]):=by
  simp only[a1s,hlen,hs]
 simp_arith[hin,hnew,mtT,hsp,hen,m]
end
noncomputable def dg(n:Nat):Str:=Str.ofString (toString (n:Int))
def lt(i:Nat):Nat:=97+i
theorem b1S:∀i:Fin 26,(cd abc)[i.val]? =some (lt i.val)/\O2 (lt i.val)=true:=by decide+kernel
def nm(stem:Str)(k:Nat):Str:=(⟨#[lt (7*k%26)]⟩++stem)++dg (k*13%61)
variable{stem:Str}
theorem a1k(h:b9 z=true):1<=z.length/\z.length<=12:=by
 unfold b9 at h;rw[ae,ae] at h;exact⟨aq h.1.1,aq h.1.2⟩
theorem a1F(h:b9 z=true){c:Nat}(hc:O2 c=false):c∉cd z:=by
 unfold b9 at h;rw[ae] at h;intro hm
 have:=aX.mp h.2 c hm
 rw[hc] at this;cases this
section
variable{ct:CT}{F:Nat->Option Fn}(W:PF F)
include W
section
variable{k:Nat}{c9:List D}
theorem a9z(hw:h[w]? =some (.lst (.str "shape"::c9))):b4 ct F (k+1) 13 [.ref n,.ref w] h=b4 ct F k 17 [.ref n,.ref w] h:=by
 rw[i6 W.f13 rfl];simp only[B7];rw[gc0];simp_arith[o8 0 0 rfl hw rfl,op2,C0,eqS,decide_true,decide_false];generalize b4 ct F k 17 [.ref n,.ref w] h=r
 cases r<;>simp_arith[]
theorem a9A(hw:h[w]? =some (.lst (.str "point"::c9))):b4 ct F (k+1) 13 [.ref n,.ref w] h=b4 ct F k 20 [.ref n,.ref w] h:=by
 rw[i6 W.f13 rfl];simp only[B7];rw[gc0];simp_arith[o8 0 0 rfl hw rfl,op2,C0,eqS,decide_true,decide_false];generalize b4 ct F k 20 [.ref n,.ref w] h=r
 cases r<;>simp_arith[]
theorem a8y(hw:h[w]? =some (.lst (.str "letter"::c9))):b4 ct F (k+1) 13 [.ref n,.ref w] h=b4 ct F k 22 [.ref n,.ref w] h:=by
 rw[i6 W.f13 rfl];simp only[B7];rw[gc0];simp_arith[o8 0 0 rfl hw rfl,op2,C0,eqS,decide_true,decide_false];generalize b4 ct F k 22 [.ref n,.ref w] h=r
 cases r<;>simp_arith[]
theorem a9B(hw:h[w]? =some (.lst (.str "class"::c9))):b4 ct F (k+1) 13 [.ref n,.ref w] h=b4 ct F k 24 [.ref n,.ref w] h:=by
 rw[i6 W.f13 rfl];simp only[B7];rw[gc0];simp_arith[o8 0 0 rfl hw rfl,op2,C0,eqS,decide_true,decide_false];generalize b4 ct F k 24 [.ref n,.ref w] h=r
 cases r<;>simp_arith[]
theorem a6E(hw:h[w]? =some (.lst (.str "feature"::c9))):b4 ct F (k+1) 13 [.ref n,.ref w] h=b4 ct F k 25 [.ref n,.ref w] h:=by
 rw[i6 W.f13 rfl];simp only[B7];rw[gc0];simp_arith[o8 0 0 rfl hw rfl,op2,C0,eqS,decide_true,decide_false];generalize b4 ct F k 25 [.ref n,.ref w] h=r
 cases r<;>simp_arith[]
theorem b2g(hw:h[w]? =some (.lst (.str "rule"::c9))):b4 ct F (k+1) 13 [.ref n,.ref w] h=b4 ct F k 26 [.ref n,.ref w] h:=by
 rw[i6 W.f13 rfl];simp only[B7];rw[gc0];simp_arith[o8 0 0 rfl hw rfl,op2,C0,eqS,decide_true,decide_false];generalize b4 ct F k 26 [.ref n,.ref w] h=r
 cases r<;>simp_arith[]
end
def b8W{α:Type}(o:Option Str)(a b:α):α:=match o with
 |none=>a
 |some _=>b
variable{d:Nat}{H:HD}
theorem a9C{v:Int}(ha:b9 a=true)(hb:V9 b=some v):Y5 ct F (d+9) H [("shape":Str),a,b] (due (decide (a∈H.shapes.map (·.1))) true (decide ((60:Int)<=(H.shapes.length:Int))))
 (b8W (due (decide (a∈H.shapes.map (·.1))) true (decide ((60:Int)<=(H.shapes.length:Int)))) {H with shapes:=H.shapes++[(a,.int v)]} H):=by
 intro h n w A hw
 have:=a3x (ct:=ct) (k:=d+5) W A hw ha (by have:=a1k ha;omega) hb
 rw[a9z W hw,this];generalize due (decide (a∈H.shapes.map (·.1))) true (decide ((60:Int)<=(H.shapes.length:Int)))=du
 cases du with
 |none=>exact⟨_,rfl,Fr.set (by omega) (by omega),A.s1 _⟩
 |some f=>exact⟨_,rfl,Fr.refl n h,A⟩
theorem a6F(ha:b9 a=true)(hb:b="on"∨b="off"):Y5 ct F (d+9) H [("feature":Str),a,b] (due (decide (a∈H.features.map (·.1))) true (decide ((10:Int)<=(H.features.length:Int))))
 (b8W (due (decide (a∈H.features.map (·.1))) true (decide ((10:Int)<=(H.features.length:Int)))) {H with features:=H.features++[(a,.bl (decide (b="on")))]} H):=by
 intro h n w A hw
 have:=a1Z (ct:=ct) (k:=d+5) W A hw ha (by have:=a1k ha;omega) hb
 rw[a6E W hw,this];generalize due (decide (a∈H.features.map (·.1))) true (decide ((10:Int)<=(H.features.length:Int)))=du
 cases du with
 |none=>exact⟨_,rfl,Fr.set (by omega) (by omega),A.s7 _⟩
 |some f=>exact⟨_,rfl,Fr.refl n h,A⟩
theorem a7P{s:Str}(hs:b9 s=true):M9 s=false:=by
 unfold M9
 have:(cd s).head?≠some 64:=fun e=>by
  refine a1F hs (c:=64) (by decide) ?_
  cases hq:cd s with
  |nil=>rw[hq] at e;cases e
  |cons c r=>rw[hq] at e;injection e with e;subst e;exact aP
 rw[bf this];rfl
end
theorem k7(x y:Str):(x++y).length=x.length+y.length:=by rw[←o4,E1,am,o4,o4]
theorem a9E{i:Int}(h: -1000000000000<=i/\i<=1000000000000):a2f i=true:=by
 cases i with
 |ofNat n=>
  refine Nat.ble_eq_true_of_le ?_
  have:(n:Int)<=1000000000000:=h.2
  omega
 |negSucc n=>
  refine Nat.ble_eq_true_of_le ?_
  have:=h.1
  rw[Int.negSucc_eq] at this;omega
theorem a3K(h:n<=1000000):a1B (n:Int)=true:=Nat.ble_eq_true_of_le (by omega)
theorem L5{i j:Int}(hj: -1000000000000<=j/\j<=1000000000000):N2 h (.int i) (.int j)=.ok (.int (i*j)) h:=by
 simp only[N2];rw[av (by rw[a9E hj,Bool.or_true])]
theorem Z5{i j:Int}(hj:0<j):u9 h (.int i) (.int j)=.ok (.int (i%j)) h:=by
 simp only[u9];rw[av hj]
theorem a7m{i j:Int}(hj:0<j)(h2:j<1073741824):w8 h (.int i) (.int j)=.ok (.int (i/j)) h:=by
 simp only[w8];rw[av ⟨hj,h2⟩]
theorem n5{i j:Int}:V8 h (.int i) (.int j)=.ok (.int (i+j)) h:=rfl
theorem o0(hl:x.length+y.length<=100000):V8 h (.str x) (.str y)=.ok (.str (x++y)) h:=by
 simp only[V8];rw[av (by show _<=16777216;omega)]
theorem D9(b:Nat)(hb:0<b){a:Nat}:u9 h (.int (a:Int)) (.int (b:Int))=.ok (.int ((a%b:Nat):Int)) h:=by
 rw[Z5 (by omega)]
 congr 2
theorem J7(b:Nat)(hb:0<b)(h2:b<1073741824){a:Nat}:w8 h (.int (a:Int)) (.int (b:Int))=.ok (.int ((a/b:Nat):Int)) h:=by
 rw[a7m (by omega) (by omega)]
 congr 2
noncomputable def mx(c j:Int):Int:=(c%2305843009213693951+1)*(j*j+48271)*40692%2147483399
theorem b5D(c j:Int):0<=mx c j:=Int.emod_nonneg _ (by decide)
variable{sep:Str}{ts:List Str}
theorem a4U(h:(ts.map (·.length)).sum+ts.length*sep.length<=1000000):JoinOk sep ts=true:=by
 unfold JoinOk;rw[StrLaws.joinTotal];simp only[Builtin.Str.tooLong,Bool.not_eq_true',decide_eq_false_iff_not]
 have:sizeLine=16777216:=by decide
 omega
theorem a6w:∀ps:List Str,cd (Str.join "" ps)=(ps.map cd).flatten
 |[]=>rfl
 |[x]=>by show cd x=_;simp
 |x::y::r=>by
  show cd (x++Str.ofString ""++Str.join "" (y::r))=_
  rw[E1,E1,a6w (y::r),show cd (Str.ofString "")=[] from rfl,aQ];rfl
theorem b6H(n:Nat)(x:Str):cd (D7 n x)=(List.replicate n (cd x)).flatten:=by
  show(D7 n x).cps.toList=_
  unfold D7;rw[foldl_app'];simp[cd]
where
  foldl_app' {x:Array Nat}:∀{n:Nat} {a:Array Nat},((List.replicate n x).foldl (· ++ ·) a).toList=a.toList++(List.replicate n x.toList).flatten
    |0,a=>by simp
    |n+1,a=>by rw[replicate_succ,foldl_cons,foldl_app',replicate_succ,flatten_cons];simp
theorem a8r(ts:List Str):cd (Txt.join "" ts)=(ts.map cd).flatten:=by
 show cd (Builtin.Str.glued "" _)=_
 rw[StrLaws.glued_eq_join];exact a6w ts
theorem b7x{p:Nat}(h:p<=z.length):cd (Txt.slice z none (some (p:Int)))=(cd z).take p:=by
 have e:Txt.slice z none (some (p:Int))=⟨((z.cps.toList.drop (0:Int).toNat).take ((p:Int)-0).toNat).toArray⟩:=beq_iff_eq.mp (PyProof.Rows.slice_closes_to ⟨by omega,by have:=o4 z;show(p:Int)<=((cd z).length:Int);omega⟩)
 rw[e];simp[cd]
theorem b2p{p:Nat}(h:p<=z.length):cd (Txt.slice z (some (p:Int)) none)=(cd z).drop p:=by
 rw[PyProof.Rows.slice_from_eq (b:=z.length) (by omega) (by omega) rfl]
 show((cd z).drop ((p:Int).toNat)).take (((z.length:Int)-p).toNat)=_
 rw[Int.toNat_natCast];exact aU (by rw[bg,o4];omega)
variable{c:CF}{env:o9}{f:Nat}{ns:List Int}
section
variable{ct:CT}{F:Nat->Option Fn}
theorem seq{s:S}{T:Ss}{env':o9}(e:ex ct c s env h=.ok (.nx env') h'):exs ct c (.cons s T) env h=exs ct c T env' h':=by rw[G5,e,b8]
theorem Y3{k:Nat}(hF:F f=some C6)(hr:h[n]? =some (.rol (ns.map .int))):∃a,b4 ct F (k+1) f [.ref n,.int (j:Int)] h=.ok (.int a) h:=by
 rw[i6 hF rfl];simp only[C6]
 have rl:rdL h n=some (ns.map .int):=by unfold rdL;rw[hr]
 have le:biD .len h [.ref n]=.ok (.int (ns.length:Int)) h:=by simp only[biD,hr,rl,aa]
 by_cases lt:(j:Int)<(ns.length:Int)
 · have lt':j<ns.length:=by omega
   have ix:ixD h (.ref n) (.int (j:Int))=.ok (.int ns[j]) h:=by
    have:atI (ns.map D.int) (j:Int)=some (.int ns[j]):=by
     show(ixN (ns.map D.int).length (j:Int)).bind (fun j=>(ns.map D.int)[j]?)=_
     have e:ixN (ns.map D.int).length (j:Int)=some j:=by
      unfold ixN;rw[aa,av (by omega),av (by omega)]
      simp
     rw[e]
     show(ns.map D.int)[j]? =_
     rw[aj,af lt']
     rfl
    simp only[ixD,hr,this]
   refine⟨ns[j],?_⟩
   simp_arith[le,op2,E6,lt,decide_true,ix];exact x3 rfl
 · refine⟨0,?_⟩
   simp_arith[le,op2,E6,lt,decide_false];exact x3 rfl
theorem D3{k:Nat}{c j:Int}(hF:F f=some o5)(hj:0<=j/\j<=1000):∃M:Nat,b4 ct F (k+1) f [.int c,.int j] h=.ok (.int (M:Int)) h:=by
 obtain⟨M,hM⟩:=Int.eq_ofNat_of_zero_le (b5D c j);refine⟨M,?_⟩
 rw[←hM,i6 hF rfl];simp only[o5]
 have hjj:0<=j*j/\j*j<=1000000:=⟨Int.mul_nonneg hj.1 hj.1,by
  have:=Int.mul_le_mul hj.2 hj.2 hj.1 (by decide)
  omega⟩
 simp_arith[op2,Z5 (h:=h) (i:=c) (j:=2305843009213693951) (by decide),V8,L5 (h:=h) (i:=j) (j:=j) (by omega),L5 (h:=h) (i:=c%2305843009213693951+1) (j:=j*j+48271) (by omega),L5 (h:=h) (i:=(c%2305843009213693951+1)*(j*j+48271)) (j:=40692) (by decide),Z5 (h:=h) (i:=(c%2305843009213693951+1)*(j*j+48271)*40692) (j:=2147483399) (by decide)]
 exact x3 rfl
end
variable{α:Type}
theorem M4{a:Option α}:(some a).join=a:=rfl
theorem a8t:abc.length=26:=by decide+kernel
theorem b6Q:abc.length<=SL:=by rw[a8t];show 26<=16777216;omega
theorem b5I{a b:Nat}(h:lt a=lt b):a=b:=by unfold lt at h;omega
theorem a7S(h:i<26):O2 (lt i)=true:=(b1S ⟨i,h⟩).2
def nmA(f m i:Nat):Str:=D7 (m-i) ⟨#[lt f]⟩
theorem a7r(f m i:Nat):cd (nmA f m i)=List.replicate (m-i) (lt f):=by
 unfold nmA;rw[b6H]
 show(List.replicate _ [lt f]).flatten=_
 simp
noncomputable def nmB(stem:Str)(p f i:Nat):Str:=(Txt.slice stem none (some (p:Int))++⟨#[lt ((f+5*i)%26)]⟩)++Txt.slice stem (some (p:Int)) none
theorem a5l{p:Nat}(h:p<=stem.length):cd (nmB stem p f i)=(cd stem).take p++lt ((f+5*i)%26)::(cd stem).drop p:=by
 unfold nmB;rw[E1,E1,b7x h,b2p h]
 show(cd stem).take p++[lt ((f+5*i)%26)]++(cd stem).drop p=_
 simp
theorem a0u{α β:Type}(f:α->β):∀{l:List α},l.Nodup->(∀a∈l,∀b∈l,f a=f b->a=b)->(l.map f).Nodup
 |[],_,_=>nodup_nil
 |x::r,h,hi=>by
  have h:=aN.mp h;rw[map_cons];refine aN.mpr ⟨fun m=>?_,a0u f h.2 fun a ha b hb=>hi a (.tail _ ha) b (.tail _ hb)⟩
  obtain⟨y,hy,e⟩:=ak.mp m;rw[hi y (.tail _ hy) x (.head _) e] at hy;exact h.1 hy
structure Nms(ns:List Str)(m:Nat):Prop where
 len:ns.length=m
 nd:ns.Nodup
 ok:∀n∈ns,b9 n=true
theorem c0m{m:Nat}(hf:f<26)(hm:m<13):Nms ((List.range m).map (nmA f m)) m:=by
 refine⟨by simp,a0u _ List.nodup_range fun a ha b hb e=>?_,fun n hn=>?_⟩
 · have ha:=aH.mp ha;have hb:=aH.mp hb;have e:=congrArg (fun z=>(cd z).length) e
   simp only[a7r,aW] at e;omega
 · obtain⟨i,hi,rfl⟩:=ak.mp hn;have hi:=aH.mp hi
   have l:(nmA f m i).length=m-i:=by rw[←o4,a7r,aW]
   unfold b9;rw[l,a7r];rw[aR (show 1<=m-i by omega),aR (show m-i<=12 by omega)]
   simp only[Bool.true_and];refine aX.mpr fun c hc=>?_
   rw[(List.mem_replicate.mp hc).2];exact a7S hf
theorem c0l{p m:Nat}(hs:stem.length<=11)(hst:(cd stem).all O2=true)(hp:p<=stem.length)(hm:m<=26):Nms ((List.range m).map (nmB stem p f)) m:=by
 refine⟨by simp,a0u _ List.nodup_range fun a ha b hb e=>?_,fun n hn=>?_⟩
 · have ha:=aH.mp ha;have hb:=aH.mp hb;have e:=congrArg cd e;rw[a5l hp,a5l hp] at e;have e:=List.append_cancel_left e
   injection e with e _
   have e:=b5I e;omega
 · obtain⟨i,hi,rfl⟩:=ak.mp hn
   have lt':((cd stem).take p++lt ((f+5*i)%26)::(cd stem).drop p).length=stem.length+1:=by
    rw[am,length_cons,aG,bg,o4];omega
   have l:(nmB stem p f i).length=stem.length+1:=by rw[←o4,a5l hp,lt']
   unfold b9;rw[l,a5l hp,aR (show 1<=stem.length+1 by omega),aR (show stem.length+1<=12 by omega)]
   simp only[Bool.true_and];refine aX.mpr fun c hc=>?_
   rcases aF.mp hc with q|q
   · exact aX.mp hst c (List.mem_of_mem_take q)
   · rcases aB.mp q with q|q
     · rw[q];exact a7S (Nat.mod_lt _ (by decide))
     · exact aX.mp hst c (mem_of_mem_drop q)
variable{e:E}
section
variable{ct:CT}{F:Nat->Option Fn}
theorem a0P{m:Nat}(hm:m<=1000000):a9P h (.int 0) (.int (m:Int))=.ok ((List.range m).map fun i=>.int ((0:Int)+(i:Nat)),[]) h:=by
 simp only[a9P];rw[av ⟨by decide,a3K hm⟩]
 show R.ok (a9Q 0 (((m:Int)-0).toNat),[]) h=_
 rw[Int.sub_zero,Int.toNat_natCast];rfl
theorem W3{fr:List Nat}{a:E}{m:Nat}(f:Nat->D)(ha:ev ct c a env h=.ok (.int (m:Int)) h)(hm:m<=1000000)
 (hx:∀i,i<m->ev ct c e (some (.int (i:Int))::fr.map fun j=>(env[j]?).join) h=.ok (f i) h):ev ct c (.comp (.nm 0) (.rng1 a) 1 fr .yes e) env h=.ok (.ref h.length) (h++[.lst ((List.range m).map f)]):=by
 rw[p8 (l:=(List.range m).map fun i=>.int ((0:Int)+(i:Nat))) (g:=[]) (h1:=h) ?_ rfl (fun d=>match d with|.int i=>f i.toNat|_=>.non) (fun d=>some d::fr.map fun j=>(env[j]?).join) ?_ ?_]
 · congr 3;rw[aD];refine congrArg (fun g=>Cell.lst (List.map g (List.range m))) (funext fun i=>?_)
   simp
 · rw[a3e,ha,b8,a0P hm]
 · intro x hx';obtain⟨i,hi,rfl⟩:=ak.mp hx';refine⟨rfl,?_⟩
   have z:(0:Int)+(i:Nat)=((i:Nat):Int):=by omega
   rw[z,hx i (aH.mp hi)];simp
 · rw[aa,aE]
   show _<=16777216
   omega
theorem b0T(hi:i<26):ixD h (.str abc) (.int (i:Int))=.ok (.str ⟨#[lt i]⟩) h:=ix_str b6Q (b1S ⟨i,hi⟩).1
theorem a9G:a1d.length<=SL:=by rw[show a1d.length=36 by decide+kernel];show 36<=16777216;omega
def a1u(c i:Nat):Nat:=(cd a1d).getD ((c/16224+7*i)%36) 0
theorem a6t(c i:Nat):(cd a1d)[(c/16224+7*i)%36]? =some (a1u c i)/\O2 (a1u c i)=true:=by
 have lt:(c/16224+7*i)%36<(cd a1d).length:=by rw[o4,show a1d.length=36 by decide+kernel];exact Nat.mod_lt _ (by decide)
 unfold a1u;rw[List.getD_eq_getElem?_getD,af lt]
 exact⟨rfl,aR (bc lt)⟩
theorem Z4{k c m:Nat}(hF:F f=some m8)(hm:m<=26):∃ns,Nms ns m/\b4 ct F (k+1) f [.int (c:Int),.int (m:Int)] h=.ok (.ref h.length) (h++[.lst (ns.map .str)]):=by
 have d4:w8 h (.int (c:Int)) (.int 4)=.ok (.int ((c/4:Nat):Int)) h:=J7 4 (by decide) (by decide)
 have m26:∀(a:Nat) (h:AH),u9 h (.int (a:Int)) (.int 26)=.ok (.int ((a%26:Nat):Int)) h:=fun a h=>D9 26 (by decide)
 have m4:u9 h (.int (c:Int)) (.int 4)=.ok (.int ((c%4:Nat):Int)) h:=D9 4 (by decide)
 have d104:w8 h (.int (c:Int)) (.int 104)=.ok (.int ((c/104:Nat):Int)) h:=J7 104 (by decide) (by decide)
 have m12:u9 h (.int ((c/104:Nat):Int)) (.int 12)=.ok (.int ((c/104%12:Nat):Int)) h:=D9 12 (by decide)
 have d1248:w8 h (.int (c:Int)) (.int 1248)=.ok (.int ((c/1248:Nat):Int)) h:=J7 1248 (by decide) (by decide)
 have f26:c/4%26<26:=Nat.mod_lt _ (by decide)
 have s12:c/104%12<12:=Nat.mod_lt _ (by decide)
 rw[i6 hF rfl];simp only[m8]
 show∃ns,Nms ns m/\gcR 2 h (K2 (exs ct (b4 ct F k) _ [some (.int (c:Int)),some (.int (m:Int)),none,none,none,none,none] h))=_
 rw[seq (env':=[some (.int (c:Int)),some (.int (m:Int)),some (.str abc),none,none,none,none]) (h':=h) (by simp_arith[])]
 rw[seq (env':=[some (.int (c:Int)),some (.int (m:Int)),some (.str abc),some (.int ((c/4%26:Nat):Int)),none,none,none]) (h':=h) (by simp_arith[op2,d4,m26])]
 generalize hf:c/4%26=f1 at f26
 by_cases hc:((c%4:Nat):Int)=0/\(m:Int)<13
 · obtain⟨h1,h2⟩:=hc
   have q0:C0 h (.int ((c%4:Nat):Int)) (.int 0)=.ok (.bl true) h:=by rw[h1];rfl
   refine⟨_,c0m (m:=m) f26 (by omega),?_⟩
   have cm:ev ct (b4 ct F k) cA [some (.int (c:Int)),some (.int (m:Int)),some (.str abc),some (.int (f1:Int)),none,none,none] h=.ok (.ref h.length) (h++[.lst ((List.range m).map fun i=>.str (nmA f1 m i))]):=by
    unfold cA;refine W3 (fun i=>.str (nmA f1 m i)) (by simp_arith[]) (by omega) fun i hi=>?_
    have sb:a5S h (.int (m:Int)) (.int (i:Int))=.ok (.int ((m-i:Nat):Int)) h:=by
     show R.ok (D.int ((m:Int)-(i:Int))) h=_
     congr 2;omega
    have ml:N2 h (.str ⟨#[lt f1]⟩) (.int ((m-i:Nat):Int))=.ok (.str (nmA f1 m i)) h:=by
     simp only[N2]
     have l1:(⟨#[lt f1]⟩:Str).length*(((m-i:Nat):Int)).toNat<=SL:=by
      rw[Int.toNat_natCast]
      show 1*(m-i)<=16777216
      omega
     rw[av ⟨a3K (by omega),l1⟩]
     exact congrArg (fun z=>R.ok (D.str (D7 z ⟨#[lt f1]⟩)) h) (Int.toNat_natCast _)
    simp_arith[op2,b0T f26,sb,ml,M4]
   simp_arith[op2,m4,q0,E6,h2,decide_true,cm]
   have e:((List.range m).map (nmA f1 m)).map D.str=(List.range m).map fun i=>D.str (nmA f1 m i):=by rw[aD];rfl
   rw[e];exact gc2 (by simp) (ai _) (by rw[←e];exact C1 _)
 · have tt:∀T,exs ct (b4 ct F k) (.cons (.iff (.an (.cmp .eq (.bin .mod (.v 0) (.k (.int (4)))) (.k (.int (0)))) (.cmp .lt (.v 1) (.k (.int (13))))) (.cons (.ret cA) .nil) .nil) T) [some (.int (c:Int)),some (.int (m:Int)),some (.str abc),some (.int (f1:Int)),none,none,none] h=exs ct (b4 ct F k) T [some (.int (c:Int)),some (.int (m:Int)),some (.str abc),some (.int (f1:Int)),none,none,none] h:=fun T=>by
    refine seq ?_
    by_cases h1:((c%4:Nat):Int)=0
    · have h2:¬(m:Int)<13:=fun z=>hc ⟨h1,z⟩
      have q0:C0 h (.int ((c%4:Nat):Int)) (.int 0)=.ok (.bl true) h:=by rw[h1];rfl
      simp_arith[op2,m4,q0,E6,h2,decide_false]
    · have q0:C0 h (.int ((c%4:Nat):Int)) (.int 0)=.ok (.bl false) h:=by simp only[C0,eqS,h1,decide_false]
      simp_arith[op2,m4,q0]
   rw[tt];rw[seq (env':=[some (.int (c:Int)),some (.int (m:Int)),some (.str abc),some (.int (f1:Int)),some (.int ((c/104%12:Nat):Int)),none,none]) (h':=h) (by simp_arith[op2,d104,m12])]
   generalize c/104%12=sz at s12
   have a1:((sz:Nat):Int)+1=((sz+1:Nat):Int):=by omega
   rw[seq (env':=[some (.int (c:Int)),some (.int (m:Int)),some (.str abc),some (.int (f1:Int)),some (.int (sz:Int)),some (.int ((c/1248%(sz+1):Nat):Int)),none]) (h':=h) (by simp_arith[op2,d1248,n5,a1,D9 (sz+1) (by omega)])]
   have pl:c/1248%(sz+1)<=sz:=Nat.le_of_lt_succ (Nat.mod_lt _ (by omega))
   generalize c/1248%(sz+1)=p at pl
   have cs:ev ct (b4 ct F k) cS [some (.int (c:Int)),some (.int (m:Int)),some (.str abc),some (.int (f1:Int)),some (.int (sz:Int)),some (.int (p:Int)),none] h=.ok (.ref h.length) (h++[.lst ((List.range sz).map fun i=>.str ⟨#[a1u c i]⟩)]):=by
    unfold cS;refine W3 (fun i=>.str ⟨#[a1u c i]⟩) (by simp_arith[]) (by omega) fun i hi=>?_
    have ad:V8 h (.str abc) (.str "0123456789")=.ok (.str a1d) h:=by
     rw[o0 (by rw[a8t,show(Str.ofString "0123456789").length=10 by decide+kernel];decide)]
     rfl
    have d16:w8 h (.int (c:Int)) (.int 16224)=.ok (.int ((c/16224:Nat):Int)) h:=J7 16224 (by decide) (by decide)
    have m7:N2 h (.int 7) (.int (i:Int))=.ok (.int ((7*i:Nat):Int)) h:=by rw[L5 (by omega)];congr 2
    have a2:((c/16224:Nat):Int)+((7*i:Nat):Int)=((c/16224+7*i:Nat):Int):=by omega
    have m36:u9 h (.int ((c/16224+7*i:Nat):Int)) (.int 36)=.ok (.int (((c/16224+7*i)%36:Nat):Int)) h:=D9 36 (by decide)
    simp_arith[op2,ad,d16,m7,n5,a2,m36,ix_str a9G (a6t c i).1,M4]
   have es:((List.range sz).map fun i=>D.str ⟨#[a1u c i]⟩)=((List.range sz).map fun i=>(⟨#[a1u c i]⟩:Str)).map D.str:=by rw[aD];rfl
   rw[es] at cs;generalize hts:(List.range sz).map (fun i=>(⟨#[a1u c i]⟩:Str))=ts at cs
   have tl:ts.length=sz:=by rw[←hts];simp
   have t1:∀t∈ts,t.length=1/\(cd t).all O2=true:=fun t ht=>by
    rw[←hts] at ht;obtain⟨i,_,rfl⟩:=ak.mp ht;exact⟨rfl,by show([a1u c i]:List Nat).all O2=true;rw[all_cons,(a6t c i).2];rfl⟩
   have sm:∀l:List Str,(∀t∈l,t.length=1)->(l.map (·.length)).sum=l.length:=fun l=>by
    induction l with
    |nil=>intro _;rfl
    |cons x r ih=>intro hh;rw[map_cons,List.sum_cons,ih (fun t ht=>hh t (.tail _ ht)),hh x (.head _),length_cons];exact Nat.add_comm 1 _
   have jo:JoinOk "" ts=true:=a4U (by rw[sm ts fun t ht=>(t1 t ht).1,show(Str.ofString "").length=0 from rfl];omega)
   have jn:mtD .join (h++[.lst (ts.map .str)]) (.str "") [.ref h.length]=.ok (.str (Txt.join "" ts)) (h++[.lst (ts.map .str)]):=by
    simp only[mtD,a4F,V4];rw[av jo]
   have sl:(Txt.join "" ts).length=sz:=by
    rw[←o4,a8r,List.length_flatten,aD,←tl];exact(congrArg List.sum (List.map_congr_left fun t _=>o4 t)).trans (sm ts fun t ht=>(t1 t ht).1)
   have ss:(cd (Txt.join "" ts)).all O2=true:=by
    rw[a8r];refine aX.mpr fun x hx=>?_
    obtain⟨q,hq,hm⟩:=List.mem_flatten.mp hx;obtain⟨t,ht,rfl⟩:=ak.mp hq;exact aX.mp (t1 t ht).2 x hm
   generalize Txt.join "" ts=stem at jn sl ss;rw[seq (env':=[some (.int (c:Int)),some (.int (m:Int)),some (.str abc),some (.int (f1:Int)),some (.int (sz:Int)),some (.int (p:Int)),some (.str stem)]) (h':=h++[.lst (ts.map .str)]) (by simp_arith[mtT,cs,jn])]
   refine⟨_,c0l (stem:=stem) (p:=p) (f:=f1) (m:=m) (by omega) ss (by omega) hm,?_⟩
   have hg:∃t,h++[Cell.lst (ts.map .str)]=h++t:=⟨_,rfl⟩
   have tk:(h++[Cell.lst (ts.map D.str)]).length=h.length+1:=by simp
   have wS:stem.length<=SL:=by show _<=16777216;omega
   have cm:∀g,ev ct (b4 ct F k) cB [some (.int (c:Int)),some (.int (m:Int)),some (.str abc),some (.int (f1:Int)),some (.int (sz:Int)),some (.int (p:Int)),some (.str stem)] g=.ok (.ref g.length) (g++[.lst ((List.range m).map fun i=>.str (nmB stem p f1 i))]):=fun g=>by
    unfold cB;refine W3 (fun i=>.str (nmB stem p f1 i)) (by simp_arith[]) (by omega) fun i hi=>?_
    have m5:N2 g (.int 5) (.int (i:Int))=.ok (.int ((5*i:Nat):Int)) g:=by rw[L5 (by omega)];congr 2
    have a2:((f1:Nat):Int)+((5*i:Nat):Int)=((f1+5*i:Nat):Int):=by omega
    have l1:=Txt.slice_le stem none (some (p:Int));have l2:=Txt.slice_le stem (some (p:Int)) none
    have x1:(⟨#[lt ((f1+5*i)%26)]⟩:Str).length=1:=rfl
    simp_arith[M4,slD,av wS,op2,m5,n5,a2,m26,b0T (h:=g) (i:=(f1+5*i)%26) (Nat.mod_lt _ (by decide)),o0 (h:=g) (x:=Txt.slice stem none (some (p:Int))) (y:=⟨#[lt ((f1+5*i)%26)]⟩) (by omega),o0 (h:=g) (x:=Txt.slice stem none (some (p:Int))++⟨#[lt ((f1+5*i)%26)]⟩) (y:=Txt.slice stem (some (p:Int)) none) (by rw[k7];omega)]
    rfl
   simp_arith[cm]
   have e:((List.range m).map (nmB stem p f1)).map D.str=(List.range m).map fun i=>D.str (nmB stem p f1 i):=by rw[aD];rfl
   rw[e,ax];exact gc2 (by simp) (by simp) (by rw[←e];exact C1 _)
end
structure Pf(h0 h:AH):Prop where
 len:h0.length<=h.length
 get:∀i,i<h0.length->h[i]? =h0[i]?
theorem Pf.refl(h:AH):Pf h h:=⟨ai _,fun _ _=>rfl⟩
variable{h0:AH}
theorem Pf.app(p:Pf h0 h)(t:AH):Pf h0 (h++t):=⟨by rw[am];have:=p.len;omega,fun i hi=>by rw[ap (az hi p.len)];exact p.get i hi⟩
theorem Pf.set(p:Pf h0 h){c:Cell}(hn:h0.length<=n):Pf h0 (h.set n c):=⟨by rw[length_set];exact p.len,fun i hi=>by rw[List.getElem?_set_ne (by omega)];exact p.get i hi⟩
theorem Pf.trans{a b c:AH}(p:Pf a b)(q:Pf b c):Pf a c:=⟨aK p.len q.len,fun i hi=>(q.get i (az hi p.len)).trans (p.get i hi)⟩
theorem Pf.take{h0 h:AH}(p:Pf h0 h):h.take h0.length=h0:=by
 refine ext_getElem? fun i=>?_
 by_cases hi:i<h0.length
 · rw[bh hi,p.get i hi]
 · rw[aO (by simp;omega),aO (by omega)]
theorem Pf.at(p:Pf h0 h){c:Cell}(e:h0[i]? =some c):h[i]? =some c:=by
 rw[p.get i (ac.mp e).1];exact e
theorem a7g{k:Nat}{c:Cell}(p:Pf h0 h)(hk:h[k]? =some c)(hl:h0.length<=k)(hc:c.flat=true):gcR 2 h0 (.ok (.ref k) h)=.ok (.ref h0.length) (h0++[c]):=by
 unfold gcR;simp only[hk];simp[hl,hc,p.take]
theorem b6e(p:Pf h0 h)(hd:d.flat=true):gcR 1 h0 (.ok d h)=.ok d h0:=by
 unfold gcR
 simp only
 rw[aw (by decide)]
 simp[hd,p.take]
variable{M:Nat}
section
variable{ct:CT}{F:Nat->Option Fn}
theorem B9{g:List (Nat×Cell)}{p:Pat}{body:o9->AH->R Out}(P:Nat->o9->AH->Prop)(gk:∀j env h,P j env h->gOk g h=true):∀(l:List D) (i:Nat) (env:o9) (h:AH),
 (∀j x env h,l[j]? =some x->P (i+j) env h->∃env1 env' h',D6 p x env=some env1/\body env1 h=.ok (.nx env') h'/\P (i+j+1) env' h')->P i env h->∃env' h',K6 g p body l env h=.ok (.nx env') h'/\P (i+l.length) env' h'
 |[],i,env,h,_,q=>⟨env,h,by rw[K6,av (gk _ _ _ q)],q⟩
 | x::r,i,env,h,st,q=>by
  obtain⟨env1,env',h',b1,b2,q'⟩:=st 0 x env h rfl q
  obtain⟨env2,h2,e2,q2⟩:=B9 P gk r (i+1) env' h' (fun j y env h hj hq=>by
   have:=st (j+1) y env h (by simpa using hj) (by rw[show i+(j+1)=i+1+j by omega];exact hq)
   rw[show i+(j+1)+1=i+1+j+1 by omega] at this
   exact this) q'
  refine⟨env2,h2,?_,by rw[length_cons,show i+(r.length+1)=i+1+r.length by omega];exact q2⟩
  rw[K6,av (gk _ _ _ q),b1]
  simp only
  rw[b2];exact e2
theorem K9{xs:List D}(e:h[n]? =some (.lst xs))(hl:xs.length<1000000):mtD .append h (.ref n) [d]=.ok .non (h.set n (.lst (xs++[d]))):=by
 simp only[mtD,e];rw[av (show xs.length<16777216 by omega)]
theorem E3{xs:List D}(e:h[n]? =some (.lst xs)):mtT .append h (.ref n)=true:=by
 simp only[mtT,rdL,e,Option.isSome_some]
theorem a1E{m:Nat}{x:D}(h:((List.range m).map fun i=>D.int ((0:Int)+(i:Nat)))[j]? =some x):j<m/\x=.int (j:Int):=by
 have hj:j<m:=by
  have:=(ac.mp h).1
  simpa using this
 refine⟨hj,?_⟩
 rw[aj,List.getElem?_range hj] at h
 have h:=au h;rw[←h]
 show D.int (0+(j:Int))=_
 rw[Int.zero_add]
noncomputable def shD(sh:List (Str×Nat)):List D:=sh.map fun p=>.tup [.str p.1,.int (p.2:Int)]
structure Shs(sh:List (Str×Nat)):Prop where
 lo:4<=sh.length
 hi:sh.length<=16
 nd:(sh.map (·.1)).Nodup
 ok:∀p∈sh,b9 p.1=true/\p.2<99999
theorem L7:∀{l:List D},(∀d∈l,d.flat=true)->D.flats l=true
 |[],_=>rfl
 |d::r,h=>by rw[D.flats,h d (.head _),L7 fun x hx=>h x (.tail _ hx)];rfl
theorem b1l(sh:List (Str×Nat)):D.flats (shD sh)=true:=L7 fun d hd=>by
 obtain⟨p,_,rfl⟩:=ak.mp hd;rfl
theorem a2d:∀(ns:List Str) (ws:List Nat),a0E (ns.map .str) (ws.map fun w=>.int ((w:Nat):Int))=shD (ns.zip ws)
 |[],_=>rfl
 |_::_,[]=>rfl
 |n::ns,w::ws=>by
  show D.tup [.str n,.int ((w:Nat):Int)]::a0E _ _=_
  rw[a2d ns ws];rfl
theorem b3z{l:List Nat}(hl:l.length=4):∃w,(l.map fun w=>D.int ((w:Nat):Int))[i%4]? =some (.int ((w:Nat):Int))/\w∈l:=by
 have lt:i%4<l.length:=by rw[hl];exact Nat.mod_lt _ (by decide)
 exact⟨l[i%4],by rw[aj,af lt];rfl,bc lt⟩
theorem a9r(he:env[5]? =some (some (.int (M:Int)))):∃w t,w<99999/\ev ct c wE env h=.ok (.int ((w:Nat):Int)) (h++[t]):=by
 have d4:∀h,w8 h (.int (M:Int)) (.int 4)=.ok (.int ((M/4:Nat):Int)) h:=fun h=>J7 4 (by decide) (by decide)
 have m4:∀h,u9 h (.int (M:Int)) (.int 4)=.ok (.int ((M%4:Nat):Int)) h:=fun h=>D9 4 (by decide)
 have m20:∀(a:Nat) h,u9 h (.int (a:Int)) (.int 20)=.ok (.int ((a%20:Nat):Int)) h:=fun a h=>D9 20 (by decide)
 have m1000:∀(a:Nat) h,u9 h (.int (a:Int)) (.int 1000)=.ok (.int ((a%1000:Nat):Int)) h:=fun a h=>D9 1000 (by decide)
 have m9:∀(a:Nat) h,u9 h (.int (a:Int)) (.int 99999)=.ok (.int ((a%99999:Nat):Int)) h:=fun a h=>D9 99999 (by decide)
 obtain⟨w,h1,h2⟩:=b3z (l:=[0,M/4%20,M/4%1000,M/4%99999]) (i:=M) rfl;refine⟨w,.lst [.int ((0:Nat):Int),.int ((M/4%20:Nat):Int),.int ((M/4%1000:Nat):Int),.int ((M/4%99999:Nat):Int)],?_,?_⟩
 · simp only[aB,not_mem_nil,or_false] at h2
   rcases h2 with rfl|rfl|rfl|rfl
   · decide
   · exact Nat.lt_trans (Nat.mod_lt _ (show 0<20 by decide)) (by decide)
   · exact Nat.lt_trans (Nat.mod_lt _ (show 0<1000 by decide)) (by decide)
   · exact Nat.mod_lt _ (by decide)
 · unfold wE
   have hx:ixD (h++[.lst [.int 0,.int ((M/4%20:Nat):Int),.int ((M/4%1000:Nat):Int),.int ((M/4%99999:Nat):Int)]]) (.ref h.length) (.int ((M%4:Nat):Int))=.ok (.int ((w:Nat):Int)) (h++[.lst [.int 0,.int ((M/4%20:Nat):Int),.int ((M/4%1000:Nat):Int),.int ((M/4%99999:Nat):Int)]]):=C7 b6 h1
   simp_arith[he,op2,d4,m4,m20,m1000,m9,y9,hx];rfl
variable(f202:F 202=some o5)(f203:F 203=some m8)
include f202 f203
theorem a8B{k:Nat}{c:Int}(hF:F 204=some x5):∃sh,Shs sh/\b4 ct F (k+2) 204 [.int c] h=.ok (.ref h.length) (h++[.lst (shD sh)]):=by
 obtain⟨M,hM⟩:=D3 (ct:=ct) (k:=k) (c:=c) (j:=1) (h:=h) f202 (by decide)
 have d13:w8 h (.int (M:Int)) (.int 13)=.ok (.int ((M/13:Nat):Int)) h:=J7 13 (by decide) (by decide)
 have m13:u9 h (.int (M:Int)) (.int 13)=.ok (.int ((M%13:Nat):Int)) h:=D9 13 (by decide)
 have a4:(4:Int)+((M%13:Nat):Int)=((4+M%13:Nat):Int):=by omega
 have m16:M%13<13:=Nat.mod_lt _ (by decide)
 obtain⟨ns,nk,hN⟩:=Z4 (ct:=ct) (k:=k) (c:=M/13) (m:=4+M%13) (h:=h) f203 (by omega)
 generalize hm:4+M%13=m at nk hN a4;rw[i6 hF rfl];simp only[x5]
 show∃sh,Shs sh/\gcR 2 h (K2 (exs ct (b4 ct F (k+1)) _ [some (.int c),none,none,none,none,none] h))=_
 rw[seq (env':=[some (.int c),some (.int (M:Int)),none,none,none,none]) (h':=h) (by simp_arith[hM])]
 rw[seq (env':=[some (.int c),some (.int (M:Int)),some (.ref h.length),none,none,none]) (h':=h++[.lst (ns.map .str)]) (by simp_arith[op2,d13,m13,n5,a4,hN])]
 have l1:(h++[Cell.lst (ns.map D.str)]).length=h.length+1:=by simp
 rw[seq (env':=[some (.int c),some (.int (M:Int)),some (.ref h.length),some (.ref (h.length+1)),none,none]) (h':=h++[.lst (ns.map .str)]++[.lst []]) (by simp_arith[y9,l1])]
 have gN:(h++[Cell.lst (ns.map D.str)]++[Cell.lst []])[h.length]? =some (.lst (ns.map .str)):=b5 b6
 have gW:(h++[Cell.lst (ns.map D.str)]++[Cell.lst []])[h.length+1]? =some (.lst []):=by rw[←l1];exact b6
 have pf:Pf h (h++[Cell.lst (ns.map D.str)]++[Cell.lst []]):=((Pf.refl h).app _).app _
 generalize h++[Cell.lst (ns.map D.str)]++[Cell.lst []]=g at gN gW pf
 have len:biD .len g [.ref h.length]=.ok (.int (m:Int)) g:=by rw[n8 gN,aa,nk.len]
 obtain⟨env',g',e1,ws,e4,e5,rfl,q2,q3,q4,q5,q6⟩:=B9 (g:=[]) (p:=.nm 4) (body:=exs ct (b4 ct F (k+1)) wB) (fun j env hh=>∃ws:List Nat,∃e4 e5,env=[some (.int c),some (.int (M:Int)),some (.ref h.length),some (.ref (h.length+1)),e4,e5]/\Pf h hh/\hh[h.length]? =some (.lst (ns.map .str))/\hh[h.length+1]? =some (.lst (ws.map fun w=>.int ((w:Nat):Int)))/\ws.length=j/\∀w∈ws,w<99999) (fun _ _ _ _=>rfl) ((List.range m).map fun i=>.int ((0:Int)+(i:Nat))) 0 [some (.int c),some (.int (M:Int)),some (.ref h.length),some (.ref (h.length+1)),none,none] g (fun j x env hh hx hP=>by
  obtain⟨ws,e4,e5,rfl,p1,p2,p3,p4,p5⟩:=hP;obtain⟨hj,rfl⟩:=a1E hx;rw[ay] at p4⊢
  have a10:((j:Nat):Int)+10=((j+10:Nat):Int):=by omega
  obtain⟨N,hN⟩:=D3 (ct:=ct) (k:=k) (c:=c) (j:=((j+10:Nat):Int)) (h:=hh) f202 (by omega)
  obtain⟨w,t,w1,w2⟩:=a9r (ct:=ct) (c:=b4 ct F (k+1)) (M:=N) (env:=[some (.int c),some (.int (M:Int)),some (.ref h.length),some (.ref (h.length+1)),some (.int (j:Int)),some (.int (N:Int))]) (h:=hh) rfl;refine⟨_,[some (.int c),some (.int (M:Int)),some (.ref h.length),some (.ref (h.length+1)),some (.int (j:Int)),some (.int (N:Int))],(hh++[t]).set (h.length+1) (.lst ((ws.map fun w=>D.int ((w:Nat):Int))++[.int ((w:Nat):Int)])),rfl,?_,ws++[w],_,_,rfl,(p1.app _).set (Nat.le_succ _),b7 (by omega) (b5 p2),?_,by rw[am,p4];rfl,fun x hx=>?_⟩
  · show exs ct (b4 ct F (k+1)) wB [some (.int c),some (.int (M:Int)),some (.ref h.length),some (.ref (h.length+1)),some (.int (j:Int)),e5] hh=_
    unfold wB;rw[seq (env':=[some (.int c),some (.int (M:Int)),some (.ref h.length),some (.ref (h.length+1)),some (.int (j:Int)),some (.int (N:Int))]) (h':=hh) (by simp_arith[op2,n5,a10,hN])]
    simp_arith[E3 p3,w2,K9 (b5 (g:=[t]) p3) (by rw[aa,p4];omega)]
  · rw[u7 (b5 p3)];simp
  · rcases aF.mp hx with hx|hx
    · exact p5 x hx
    · rw[aI.mp hx];exact w1) ⟨[],none,none,rfl,pf,gN,gW,rfl,fun _ h=>nomatch h⟩
 rw[aa,aE,ay] at q5;rw[seq (env':=[some (.int c),some (.int (M:Int)),some (.ref h.length),some (.ref (h.length+1)),e4,e5]) (h':=g') (by simp_arith[len,a0P (h:=g) (m:=m) (by omega),e1])]
 have cz:=p8 (ct:=ct) (c:=b4 ct F (k+1)) (p:=.tp (.cons (.nm 0) (.cons (.nm 1) .nil))) (it:=.zip (.v 2) (.v 3)) (n:=2) (fr:=[]) (e:=.tup (.cons (.v 0) (.cons (.v 1) .nil))) (env:=[some (.int c),some (.int (M:Int)),some (.ref h.length),some (.ref (h.length+1)),e4,e5]) (h:=g') (l:=a0E (ns.map .str) (ws.map fun w=>.int ((w:Nat):Int))) (g:=[(h.length,.lst (ns.map .str)),(h.length+1,.lst (ws.map fun w=>.int ((w:Nat):Int)))]) (h1:=g') (by simp_arith[a9q,a3W,q3,q4]) (by simp[gOk,q3,q4]) id (fun d=>match d with|.tup [a,b]=>[some a,some b]|_=>[]) (fun x hx=>by
  rw[a2d] at hx;obtain⟨p,_,rfl⟩:=ak.mp hx;refine⟨rfl,?_⟩
  simp_arith[id]) (by
  rw[a2d];unfold shD;rw[aa,List.length_zip]
  show _<=16777216
  have:=nk.len
  omega)
 rw[map_id,a2d] at cz
 have zl:(ns.zip ws).length=m:=by rw[List.length_zip,nk.len,q5];omega
 have zf:(ns.zip ws).map (·.1)=ns:=by
  rw[List.map_fst_zip];rw[nk.len,q5];exact ai _
 refine⟨ns.zip ws,⟨by omega,by omega,by rw[zf];exact nk.nd,fun p hp=>⟨nk.ok _ (of_mem_zip hp).1,q6 _ (of_mem_zip hp).2⟩⟩,?_⟩
 simp_arith[cz];exact a7g (q2.app _) b6 q2.len (b1l _)
end
noncomputable def spD(p:Int×Int):D:=.tup [.int p.1,.int p.2]
def a0n(p:Int×Int):Prop:=(-99999<=p.1/\p.1<=99999)/\ -99999<=p.2/\p.2<=99999
structure Mk where
 n:Str
 s:Str
 a:Int×Int
 b:Int×Int
def mkD(m:Mk):D:=.tup [.str m.n,.str m.s,spD m.a,spD m.b]
def a0F(s:Str):Prop:=s="above"∨s="below"
variable{sh:List (Str×Nat)}
theorem a6L(hj:j<sh.length):(shD sh)[j]? =some (.tup [.str (sh[j]).1,.int ((sh[j]).2:Int)]):=by
 unfold shD;rw[aj,af hj]
 rfl
theorem ix_tup{xs:List D}(hd:xs[i]? =some d):ixD h (.tup xs) (.int (i:Nat))=.ok d h:=by
 have hi:=(ac.mp hd).1
 have:atI xs (i:Int)=some d:=by
  show(ixN xs.length (i:Int)).bind (fun j=>xs[j]?)=some d
  have e:ixN xs.length (i:Int)=some i:=by
   unfold ixN;rw[av (by omega),av (by omega)]
   simp
  rw[e];exact hd
 simp only[ixD,this]
theorem a3w{a:D}{r:List D}:ixD h (.tup (a::r)) (.int 0)=.ok a h:=ix_tup (i:=0) rfl
variable{β:Type}{s:Nat}
section
variable{ct:CT}{F:Nat->Option Fn}
theorem a4v{k m:Nat}(hF:F 205=some u8):∃p,a0n p/\b4 ct F (k+1) 205 [.int (m:Int)] h=.ok (spD p) h:=by
 have m41:∀h,u9 h (.int (m:Int)) (.int 41)=.ok (.int ((m%41:Nat):Int)) h:=fun h=>D9 41 (by decide)
 have d41:∀h,w8 h (.int (m:Int)) (.int 41)=.ok (.int ((m/41:Nat):Int)) h:=fun h=>J7 41 (by decide) (by decide)
 have d7:∀h,w8 h (.int (m:Int)) (.int 7)=.ok (.int ((m/7:Nat):Int)) h:=fun h=>J7 7 (by decide) (by decide)
 have m9:∀(a:Nat) h,u9 h (.int (a:Int)) (.int 99999)=.ok (.int ((a%99999:Nat):Int)) h:=fun a h=>D9 99999 (by decide)
 have m3:∀(a:Nat) h,u9 h (.int (a:Int)) (.int 3)=.ok (.int ((a%3:Nat):Int)) h:=fun a h=>D9 3 (by decide)
 have sb:∀h,a5S h (.int ((m%41:Nat):Int)) (.int 20)=.ok (.int (((m%41:Nat):Int)-20)) h:=fun h=>rfl
 have l9:m/41%99999<99999:=Nat.mod_lt _ (by decide)
 have l41:m%41<41:=Nat.mod_lt _ (by decide)
 have ix:∃y:Int,(-99999<=y/\y<=99999)/\([.int 0,.int ((m/41%99999:Nat):Int),.int (-((m/41%99999:Nat):Int))]:List D)[m/7%3]? =some (.int y):=by
  have:m/7%3=0∨m/7%3=1∨m/7%3=2:=by omega
  rcases this with e|e|e<;>rw[e]
  · exact⟨0,by decide,rfl⟩
  · exact⟨_,by omega,rfl⟩
  · exact⟨_,by omega,rfl⟩
 obtain⟨y,y1,y2⟩:=ix;refine⟨(((m%41:Nat):Int)-20,y),⟨by simp only;omega,y1⟩,?_⟩
 have hx:ixD (h++[.lst [.int 0,.int ((m/41%99999:Nat):Int),.int (-((m/41%99999:Nat):Int))]]) (.ref h.length) (.int ((m/7%3:Nat):Int))=.ok (.int y) (h++[.lst [.int 0,.int ((m/41%99999:Nat):Int),.int (-((m/41%99999:Nat):Int))]]):=C7 b6 y2
 rw[i6 hF rfl];simp only[u8];simp_arith[op2,m41,sb,d41,m9,d7,m3,y9,hx];exact gc1 rfl
theorem b2s(he:env[4]? =some (some (.int (M:Int)))):∃s t,a0F s/\ev ct c a9H env h=.ok (.str s) (h++[t]):=by
 have d4:∀h,w8 h (.int (M:Int)) (.int 4)=.ok (.int ((M/4:Nat):Int)) h:=fun h=>J7 4 (by decide) (by decide)
 have m2:∀(a:Nat) h,u9 h (.int (a:Int)) (.int 2)=.ok (.int ((a%2:Nat):Int)) h:=fun a h=>D9 2 (by decide)
 have ix:∃s:Str,a0F s/\([.str "above",.str "below"]:List D)[M/4%2]? =some (.str s):=by
  have:M/4%2=0∨M/4%2=1:=by omega
  rcases this with e|e<;>rw[e]
  · exact⟨"above",.inl rfl,rfl⟩
  · exact⟨"below",.inr rfl,rfl⟩
 obtain⟨s,s1,s2⟩:=ix;refine⟨s,.lst [.str "above",.str "below"],s1,?_⟩
 have hx:ixD (h++[.lst [.str "above",.str "below"]]) (.ref h.length) (.int ((M/4%2:Nat):Int))=.ok (.str s) (h++[.lst [.str "above",.str "below"]]):=C7 b6 s2
 unfold a9H;simp_arith[he,op2,d4,m2,y9,hx]
theorem b1o(ms:List Mk):D.flats (ms.map mkD)=true:=L7 fun d hd=>by
 obtain⟨p,_,rfl⟩:=ak.mp hd;rfl
theorem a5E{f:α->β}{l:List α}(hj:j<l.length){r:List β}(h:r.Sublist ((l.take j).map f)):r.Sublist ((l.take (j+1)).map f)/\(r++[f l[j]]).Sublist ((l.take (j+1)).map f):=by
 rw[take_succ_eq_append_getElem hj,al];exact⟨h.trans (List.sublist_append_left _ _),h.append (List.Sublist.refl _)⟩
variable(f202:F 202=some o5)(f205:F 205=some u8)
include f202 f205
theorem b0F{k:Nat}{c:Int}(hF:F 206=some z3)(hs:Shs sh)(hh:h[s]? =some (.lst (shD sh))):∃ms:List Mk,(ms.map (·.n)).Sublist (sh.map (·.1))/\(∀m∈ms,a0F m.s/\a0n m.a/\a0n m.b)/\b4 ct F (k+2) 206 [.int c,.ref s] h=.ok (.ref h.length) (h++[.lst (ms.map mkD)]):=by
 have sl:s<h.length:=(ac.mp hh).1
 have hi:=hs.hi;rw[i6 hF rfl];simp only[z3]
 show∃ms:List Mk,_/\_/\gcR 2 h (K2 (exs ct (b4 ct F (k+1)) _ [some (.int c),some (.ref s),none,none,none,none] h))=_
 rw[seq (env':=[some (.int c),some (.ref s),some (.ref h.length),none,none,none]) (h':=h++[.lst []]) (by simp_arith[y9])]
 have len:biD .len (h++[.lst []]) [.ref s]=.ok (.int (sh.length:Int)) (h++[.lst []]):=by rw[n8 (b5 hh)];unfold shD;rw[aa]
 obtain⟨env',g',e1,ms,e3,e4,e5,rfl,q2,q3,q4,q5⟩:=B9 (g:=[]) (p:=.nm 3) (body:=exs ct (b4 ct F (k+1)) mkB) (fun j env g=>∃ms:List Mk,∃e3 e4 e5,env=[some (.int c),some (.ref s),some (.ref h.length),e3,e4,e5]/\Pf h g/\g[h.length]? =some (.lst (ms.map mkD))/\(ms.map (·.n)).Sublist ((sh.take j).map (·.1))/\∀m∈ms,a0F m.s/\a0n m.a/\a0n m.b) (fun _ _ _ _=>rfl) ((List.range sh.length).map fun i=>.int ((0:Int)+(i:Nat))) 0 [some (.int c),some (.ref s),some (.ref h.length),none,none,none] (h++[.lst []]) (fun j x env g hx hP=>by
  obtain⟨ms,e3,e4,e5,rfl,p1,p2,p3,p4⟩:=hP;obtain⟨hj,rfl⟩:=a1E hx;rw[ay] at p3⊢;obtain⟨t1,t2⟩:=a5E hj p3
  have a40:((j:Nat):Int)+40=((j+40:Nat):Int):=by omega
  obtain⟨N,hN⟩:=D3 (ct:=ct) (k:=k) (c:=c) (j:=((j+40:Nat):Int)) (h:=g) f202 (by omega)
  have m4:u9 g (.int (N:Int)) (.int 4)=.ok (.int ((N%4:Nat):Int)) g:=D9 4 (by decide)
  show∃env1 env' h',_/\exs ct (b4 ct F (k+1)) mkB env1 g=_/\_
  unfold mkB
  by_cases hb:((N%4:Nat):Int)=1
  · have q1:C0 g (.int ((N%4:Nat):Int)) (.int 1)=.ok (.bl true) g:=by rw[hb];rfl
    obtain⟨sd,t,s1,s2⟩:=b2s (ct:=ct) (c:=b4 ct F (k+1)) (M:=N) (env:=[some (.int c),some (.ref s),some (.ref h.length),some (.int (j:Int)),some (.int (N:Int)),e5]) (h:=g) rfl;obtain⟨pa,a1,a2⟩:=a4v (ct:=ct) (k:=k) (m:=N/8) (h:=g++[t]) f205;obtain⟨pb,b1,b2⟩:=a4v (ct:=ct) (k:=k) (m:=N/8000) (h:=g++[t]) f205
    have d8:w8 (g++[t]) (.int (N:Int)) (.int 8)=.ok (.int ((N/8:Nat):Int)) (g++[t]):=J7 8 (by decide) (by decide)
    have d8k:w8 (g++[t]) (.int (N:Int)) (.int 8000)=.ok (.int ((N/8000:Nat):Int)) (g++[t]):=J7 8000 (by decide) (by decide)
    have sx:ixD (g++[t]) (.ref s) (.int (j:Int))=.ok (.tup [.str (sh[j]).1,.int ((sh[j]).2:Int)]) (g++[t]):=C7 (b5 (p1.at hh)) (a6L hj)
    have ml:(ms.map mkD).length<1000000:=by
     have:=t1.length_le
     rw[aa] at this⊢;rw[aa,aG] at this;omega
    refine⟨_,[some (.int c),some (.ref s),some (.ref h.length),some (.int (j:Int)),some (.int (N:Int)),some (.str sd)],(g++[t]).set h.length (.lst (ms.map mkD++[mkD ⟨(sh[j]).1,sd,pa,pb⟩])),rfl,?_,ms++[⟨(sh[j]).1,sd,pa,pb⟩],_,_,_,rfl,(p1.app _).set (ai _),?_,?_,fun m hm=>?_⟩
    · show exs ct (b4 ct F (k+1)) _ [some (.int c),some (.ref s),some (.ref h.length),some (.int (j:Int)),e4,e5] g=_
      rw[seq (env':=[some (.int c),some (.ref s),some (.ref h.length),some (.int (j:Int)),some (.int (N:Int)),e5]) (h':=g) (by simp_arith[op2,n5,a40,hN])]
      unfold b8c;simp_arith[op2,m4,q1,s2,E3 (b5 (g:=[t]) p2),sx,a3w,d8,a2,d8k,b2,K9 (b5 (g:=[t]) p2) ml,mkD]
    · rw[u7 (b5 p2),al];rfl
    · rw[al];exact t2
    · rcases aF.mp hm with hm|hm
      · exact p4 m hm
      · rw[aI.mp hm];exact⟨s1,a1,b1⟩
  · have q1:C0 g (.int ((N%4:Nat):Int)) (.int 1)=.ok (.bl false) g:=by simp only[C0,eqS,hb,decide_false]
    refine⟨_,[some (.int c),some (.ref s),some (.ref h.length),some (.int (j:Int)),some (.int (N:Int)),e5],g,rfl,?_,ms,_,_,_,rfl,p1,p2,t1,p4⟩
    show exs ct (b4 ct F (k+1)) _ [some (.int c),some (.ref s),some (.ref h.length),some (.int (j:Int)),e4,e5] g=_
    rw[seq (env':=[some (.int c),some (.ref s),some (.ref h.length),some (.int (j:Int)),some (.int (N:Int)),e5]) (h':=g) (by simp_arith[op2,n5,a40,hN])]
    simp_arith[op2,m4,q1]) ⟨[],none,none,none,rfl,(Pf.refl h).app _,b6,nil_sublist _,fun _ h=>nomatch h⟩
 rw[aa,aE,ay,aS] at q4;refine⟨ms,q4,q5,?_⟩
 rw[seq (env':=[some (.int c),some (.ref s),some (.ref h.length),e3,e4,e5]) (h':=g') (by simp_arith[len,a0P (h:=h++[.lst []]) (m:=sh.length) (by omega),e1])]
 simp_arith[];exact a7g q2 q3 (ai _) (b1o _)
end
structure Pt where
 n:Str
 s:Str
 a:Int×Int
def ptD(p:Pt):D:=.tup [.str p.n,.str p.s,spD p.a]
def ptK(p:Pt):Str×Str:=(p.n,p.s)
theorem b1n(ms:List Pt):D.flats (ms.map ptD)=true:=L7 fun d hd=>by
 obtain⟨p,_,rfl⟩:=ak.mp hd;rfl
variable{N:Nat}
section
variable{ct:CT}{F:Nat->Option Fn}
theorem a8A(N:Nat):∃l:List Str,S8 [.str "above",.str "below"] (some ((N%2:Nat):Int)) none=l.map .str/\l.Nodup/\(∀s∈l,a0F s)/\l.length<=2:=by
 have:N%2=0∨N%2=1:=by omega
 rw[G7]
 rcases this with e|e<;>rw[e]
 · exact⟨["above","below"],rfl,by decide,fun s hs=>by
    simp only[aB,not_mem_nil,or_false] at hs;exact hs,by decide⟩
 · exact⟨["below"],rfl,by decide,fun s hs=>.inr (aI.mp hs),by decide⟩
variable(f202:F 202=some o5)(f205:F 205=some u8)
include f205
theorem b0e{k a:Nat}{c:Int}{ps:List Pt}{l:List Str}(hh:h[s]? =some (.lst (shD sh)))(hj:j<sh.length)(ha:a=h.length)(hn:a<n)(p1:Pf h g)(p2:g[a]? =some (.lst (ps.map ptD)))(p3:g[n]? =some (.lst (l.map .str)))(hl:ps.length<=1000)(l2:l.length<=2)(e5:Option D)(sd:∀s∈l,a0F s):
 ∃qs e5' g',K6 [(n,.lst (l.map .str))] (.nm 5) (exs ct (b4 ct F (k+1)) b0h) (l.map .str) [some (.int c),some (.ref s),some (.ref a),some (.int (j:Int)),some (.int (N:Int)),e5] g=.ok (.nx [some (.int c),some (.ref s),some (.ref a),some (.int (j:Int)),some (.int (N:Int)),e5']) g'/\Pf h g'/\g'[a]? =some (.lst ((ps++qs).map ptD))/\(qs.map ptK).Sublist (l.map fun s=>((sh[j]).1,s))/\∀q∈qs,a0F q.s/\a0n q.a:=by
 obtain⟨env',g',e1,qs,e5',rfl,q1,q2,q3,q4,q5⟩:=B9 (g:=[(n,.lst (l.map .str))]) (p:=.nm 5) (body:=exs ct (b4 ct F (k+1)) b0h) (fun i env gg=>∃qs:List Pt,∃e5,env=[some (.int c),some (.ref s),some (.ref a),some (.int (j:Int)),some (.int (N:Int)),e5]/\Pf h gg/\gg[a]? =some (.lst ((ps++qs).map ptD))/\gg[n]? =some (.lst (l.map .str))/\(qs.map ptK).Sublist ((l.take i).map fun s=>((sh[j]).1,s))/\∀q∈qs,a0F q.s/\a0n q.a) (fun i env gg hP=>by
  obtain⟨_,_,_,_,_,h3,_⟩:=hP;simp[gOk,h3]) (l.map .str) 0 [some (.int c),some (.ref s),some (.ref a),some (.int (j:Int)),some (.int (N:Int)),e5] g (fun i x env gg hx hP=>by
  obtain⟨qs,e5,rfl,r1,r2,r3,r4,r5⟩:=hP
  have hi:i<l.length:=by simpa using(ac.mp hx).1
  rw[aj,af hi] at hx
  obtain rfl:D.str l[i]=x:=au hx;rw[ay] at r4⊢;obtain⟨t1,t2⟩:=a5E (f:=fun s=>((sh[j]).1,s)) hi r4
  have d2:∀h,w8 h (.int (N:Int)) (.int 2)=.ok (.int ((N/2:Nat):Int)) h:=fun h=>J7 2 (by decide) (by decide)
  have m3:∀(a:Nat) h,u9 h (.int (a:Int)) (.int 3)=.ok (.int ((a%3:Nat):Int)) h:=fun a h=>D9 3 (by decide)
  have d6:w8 gg (.int (N:Int)) (.int 6)=.ok (.int ((N/6:Nat):Int)) gg:=J7 6 (by decide) (by decide)
  show∃env1 env' h',_/\exs ct (b4 ct F (k+1)) b0h env1 gg=_/\_
  unfold b0h
  by_cases hb:(0:Int)<((N/2%3:Nat):Int)
  · obtain⟨p,a1,a2⟩:=a4v (ct:=ct) (k:=k) (m:=N/6) (h:=gg) f205
    have sx:ixD gg (.ref s) (.int (j:Int))=.ok (.tup [.str (sh[j]).1,.int ((sh[j]).2:Int)]) gg:=C7 (r1.at hh) (a6L hj)
    have ml:((ps++qs).map ptD).length<1000000:=by
     have:=t1.length_le
     rw[aa,am];rw[aa,aa,aG] at this;omega
    refine⟨_,[some (.int c),some (.ref s),some (.ref a),some (.int (j:Int)),some (.int (N:Int)),some (.str l[i])],gg.set a (.lst ((ps++qs).map ptD++[ptD ⟨(sh[j]).1,l[i],p⟩])),rfl,?_,qs++[⟨(sh[j]).1,l[i],p⟩],_,rfl,r1.set (by omega),?_,b7 (by omega) r3,?_,fun q hq=>?_⟩
    · show exs ct (b4 ct F (k+1)) _ [some (.int c),some (.ref s),some (.ref a),some (.int (j:Int)),some (.int (N:Int)),some (.str l[i])] gg=_
      simp_arith[op2,d2,m3,E6,hb,decide_true,E3 r2,sx,a3w,d6,a2,K9 r2 ml,ptD]
    · rw[u7 r2,←ax,al (l₁:=ps++qs)];rfl
    · rw[al];exact t2
    · rcases aF.mp hq with hq|hq
      · exact r5 q hq
      · rw[aI.mp hq];exact⟨sd _ (bc hi),a1⟩
  · refine⟨_,[some (.int c),some (.ref s),some (.ref a),some (.int (j:Int)),some (.int (N:Int)),some (.str l[i])],gg,rfl,?_,qs,_,rfl,r1,r2,r3,t1,r5⟩
    show exs ct (b4 ct F (k+1)) _ [some (.int c),some (.ref s),some (.ref a),some (.int (j:Int)),some (.int (N:Int)),some (.str l[i])] gg=_
    simp_arith[op2,d2,m3,E6,hb,decide_false]) ⟨[],e5,rfl,p1,by rw[aQ];exact p2,p3,nil_sublist _,fun _ h=>nomatch h⟩
 rw[aa,ay,aS] at q4;exact⟨qs,e5',g',e1,q1,q2,q4,q5⟩
include f202
theorem a8K{k:Nat}{c:Int}(hF:F 207=some y7)(hs:Shs sh)(hh:h[s]? =some (.lst (shD sh))):∃ps:List Pt,(ps.map ptK).Nodup/\ps.length<=100/\(∀p∈ps,p.n∈sh.map (·.1)/\a0F p.s/\a0n p.a)/\b4 ct F (k+2) 207 [.int c,.ref s] h=.ok (.ref h.length) (h++[.lst (ps.map ptD)]):=by
 have hi:=hs.hi;rw[i6 hF rfl];simp only[y7]
 show∃ps:List Pt,_/\_/\_/\gcR 2 h (K2 (exs ct (b4 ct F (k+1)) _ [some (.int c),some (.ref s),none,none,none,none] h))=_
 rw[seq (env':=[some (.int c),some (.ref s),some (.ref h.length),none,none,none]) (h':=h++[.lst []]) (by simp_arith[y9])]
 have len:biD .len (h++[.lst []]) [.ref s]=.ok (.int (sh.length:Int)) (h++[.lst []]):=by rw[n8 (b5 hh)];unfold shD;rw[aa]
 obtain⟨env',g',e1,ps,e3,e4,e5,rfl,q2,q3,q4,q5,q6,q7⟩:=B9 (g:=[]) (p:=.nm 3) (body:=exs ct (b4 ct F (k+1)) ptB) (fun j env g=>∃ps:List Pt,∃e3 e4 e5,env=[some (.int c),some (.ref s),some (.ref h.length),e3,e4,e5]/\Pf h g/\g[h.length]? =some (.lst (ps.map ptD))/\(ps.map ptK).Nodup/\ps.length<=2*j/\(∀p∈ps,p.n∈(sh.take j).map (·.1))/\∀p∈ps,a0F p.s/\a0n p.a) (fun _ _ _ _=>rfl) ((List.range sh.length).map fun i=>.int ((0:Int)+(i:Nat))) 0 [some (.int c),some (.ref s),some (.ref h.length),none,none,none] (h++[.lst []]) (fun j x env g hx hP=>by
  obtain⟨ps,e3,e4,e5,rfl,p1,p2,p3,p4,p5,p6⟩:=hP;obtain⟨hj,rfl⟩:=a1E hx;rw[ay] at p4 p5⊢
  have a70:((j:Nat):Int)+70=((j+70:Nat):Int):=by omega
  obtain⟨N,hN⟩:=D3 (ct:=ct) (k:=k) (c:=c) (j:=((j+70:Nat):Int)) (h:=g) f202 (by omega)
  have m2:∀h,u9 h (.int (N:Int)) (.int 2)=.ok (.int ((N%2:Nat):Int)) h:=fun h=>D9 2 (by decide)
  obtain⟨l,l1,l2,l3,l4⟩:=a8A N
  have sl:slD (g++[.lst [.str "above",.str "below"]]) (some ((N%2:Nat):Int)) none (.ref g.length)=.ok (.ref (g.length+1)) (g++[.lst [.str "above",.str "below"]]++[.lst (l.map .str)]):=by
   rw[J5 b6,l1];simp
  have gl:h.length<g.length:=(ac.mp p2).1
  have gn:(g++[Cell.lst [.str "above",.str "below"]]++[.lst (l.map .str)])[g.length+1]? =some (.lst (l.map .str)):=by
   have:=b6 (h:=g++[Cell.lst [.str "above",.str "below"]]) (c:=.lst (l.map .str))
   rw[am] at this;exact this
  obtain⟨qs,e5',g2,f1,f2,f3,f4,f5⟩:=b0e (ct:=ct) (k:=k) (c:=c) (N:=N) f205 hh hj rfl (Nat.lt_trans gl (aL _)) ((p1.app _).app _) (b5 (b5 p2)) gn (by omega) l4 e5 l3
  have nw:(sh[j]).1∉(sh.take j).map (·.1):=fun hm=>by
   have nd:=hs.nd;rw[←List.take_append_drop j sh,drop_eq_getElem_cons hj,al,map_cons] at nd
   have:=nodup_append.mp nd
   exact this.2.2 _ hm _ (.head _) rfl
  refine⟨_,[some (.int c),some (.ref s),some (.ref h.length),some (.int (j:Int)),some (.int (N:Int)),e5'],g2,rfl,?_,ps++qs,_,_,_,rfl,f2,f3,?_,?_,fun p hp=>?_,fun p hp=>?_⟩
  · show exs ct (b4 ct F (k+1)) ptB [some (.int c),some (.ref s),some (.ref h.length),some (.int (j:Int)),e4,e5] g=_
    unfold ptB;rw[seq (env':=[some (.int c),some (.ref s),some (.ref h.length),some (.int (j:Int)),some (.int (N:Int)),e5]) (h':=g) (by simp_arith[op2,n5,a70,hN])]
    simp_arith[y9,op2,m2,sl,L4,gn,f1]
  · rw[al];refine nodup_append.mpr ⟨p3,f4.nodup (a0u _ l2 fun a _ b _ e=>(Prod.mk.inj e).2),fun a ha b hb e=>?_⟩
    obtain⟨p,hp,rfl⟩:=ak.mp ha;have hb:=f4.subset hb;obtain⟨y,_,rfl⟩:=ak.mp hb;refine nw ?_
    have e1:p.n=(sh[j]).1:=(Prod.mk.inj e).1
    rw[←e1];exact p5 p hp
  · have:=f4.length_le
    rw[aa,aa] at this;rw[am];omega
  · rw[take_succ_eq_append_getElem hj,al]
    rcases aF.mp hp with hp|hp
    · exact mem_append_left _ (p5 p hp)
    · have:=f4.subset (List.mem_map_of_mem hp)
      obtain⟨y,_,e⟩:=ak.mp this;refine mem_append_right _ ?_
      have e1:(sh[j]).1=p.n:=(Prod.mk.inj e).1
      rw[←e1];exact .head _
  · rcases aF.mp hp with hp|hp
    · exact p6 p hp
    · exact f5 p hp) ⟨[],none,none,none,rfl,(Pf.refl h).app _,b6,nodup_nil,Nat.zero_le _,(fun _ h=>nomatch h),fun _ h=>nomatch h⟩
 rw[aa,aE,ay] at q5 q6;rw[aS] at q6;refine⟨ps,q4,by omega,fun p hp=>⟨q6 p hp,q7 p hp⟩,?_⟩
 rw[seq (env':=[some (.int c),some (.ref s),some (.ref h.length),e3,e4,e5]) (h':=g') (by simp_arith[len,a0P (h:=h++[.lst []]) (m:=sh.length) (by omega),e1])]
 simp_arith[];exact a7g q2 q3 (ai _) (b1n _)
end
noncomputable def pk(sh:List (Str×Nat))(x:Nat):Str:=match sh[x%sh.length]? with
 |some p=>p.1
 |none=>""
theorem a5Q(hs:4<=sh.length)(x:Nat):pk sh x∈sh.map (·.1)/\∃w,(shD sh)[x%sh.length]? =some (.tup [.str (pk sh x),w]):=by
 have lt:x%sh.length<sh.length:=Nat.mod_lt _ (by omega)
 unfold pk;rw[af lt]
 exact⟨List.mem_map_of_mem (bc lt),_,a6L lt⟩
structure Lt where
 n:Str
 j:Str
 w:Str
 fs:List Str
noncomputable def ltD(l:Lt):D:=.tup [.str l.n,.str l.j,.str l.w,.tup (l.fs.map .str)]
structure LtOk(sh:List (Str×Nat))(l:Lt):Prop where
 nm:b9 l.n=true
 jn:n9 a6b (.str l.j)=some (.int l.fs.length)
 few:1<=l.fs.length/\l.fs.length<=4
 wy:inD (.str l.w) [.str "left",.str "right",.str "either"]=true
 js:l.j="both"∨l.j="back"∨l.j="none"∨l.j="clear"
 ws:l.w="left"∨l.w="right"∨l.w="either"
 fs:∀f∈l.fs,f∈sh.map (·.1)
theorem b1p(ms:List Lt):D.flats (ms.map ltD)=true:=L7 fun d hd=>by
 obtain⟨p,_,rfl⟩:=ak.mp hd
 show D.flats [.str p.n,.str p.j,.str p.w,.tup (p.fs.map .str)]=true
 simp only[D.flats,D.flat,C1,Bool.and_self]
noncomputable def jnL:List Str:=["both","back","none","both","clear","both"]
theorem b8d(i:Nat):∃j n,jnL[i%6]? =some j/\n9 jnD (.str j)=some (.int ((n:Nat):Int))/\F9 (.str j) jnD=true/\n9 a6b (.str j)=some (.int ((n:Nat):Int))/\(1<=n/\n<=4)/\(j="both"∨j="back"∨j="none"∨j="clear"):=by
 have:i%6=0∨i%6=1∨i%6=2∨i%6=3∨i%6=4∨i%6=5:=(by decide:∀r:Nat,r<6->r=0∨r=1∨r=2∨r=3∨r=4∨r=5) (i%6) (Nat.mod_lt i (by decide))
 rcases this with e|e|e|e|e|e<;>rw[e]
 · exact⟨"both",4,rfl,by decide,by decide,by decide,by decide,.inl rfl⟩
 · exact⟨"back",2,rfl,by decide,by decide,by decide,by decide,.inr (.inl rfl)⟩
 · exact⟨"none",1,rfl,by decide,by decide,by decide,by decide,.inr (.inr (.inl rfl))⟩
 · exact⟨"both",4,rfl,by decide,by decide,by decide,by decide,.inl rfl⟩
 · exact⟨"clear",1,rfl,by decide,by decide,by decide,by decide,.inr (.inr (.inr rfl))⟩
 · exact⟨"both",4,rfl,by decide,by decide,by decide,by decide,.inl rfl⟩
noncomputable def wyL:List Str:=["left","right","either"]
theorem b7j(i:Nat):∃w,wyL[i%3]? =some w/\inD (.str w) [.str "left",.str "right",.str "either"]=true/\(w="left"∨w="right"∨w="either"):=by
 have:i%3=0∨i%3=1∨i%3=2:=by omega
 rcases this with e|e|e<;>rw[e]
 · exact⟨"left",rfl,by decide,.inl rfl⟩
 · exact⟨"right",rfl,by decide,.inr (.inl rfl)⟩
 · exact⟨"either",rfl,by decide,.inr (.inr rfl)⟩
variable{kvs:List (D×D)}{ls:List Lt}
section
variable{ct:CT}{F:Nat->Option Fn}
theorem b3J:ev ct c (.dlit kvs) env h=y9 (.dict kvs) h:=by(rw[ev];try rfl)
theorem a4Q(hh:g[s]? =some (.lst (shD sh))):biD .len g [.ref s]=.ok (.int (sh.length:Int)) g:=by rw[n8 hh];unfold shD;rw[aa]
theorem a7U{x:Nat}(hs:4<=sh.length)(hh:g[s]? =some (.lst (shD sh))):∃w,ixD g (.ref s) (.int ((x%sh.length:Nat):Int))=.ok (.tup [.str (pk sh x),w]) g:=by
 obtain⟨_,w,e⟩:=a5Q hs x;exact⟨w,C7 hh e⟩
theorem b1v{m:Nat}(hs:4<=sh.length)(hh:g[s]? =some (.lst (shD sh)))(e1:env[1]? =some (some (.ref s)))(e6:env[6]? =some (some (.int (N:Int))))(e8:env[8]? =some (some (.int (m:Int))))(hm:m<=1000):
 ev ct c fcE env g=.ok (.ref g.length) (g++[.lst ((List.range m).map fun i=>.str (pk sh (N/(i*i*31+7))))]):=by
 unfold fcE;refine W3 (fun i=>.str (pk sh (N/(i*i*31+7)))) (by simp_arith[e8]) (by omega) fun i hi=>?_
 have ii:i*i<=1000000:=Nat.mul_le_mul (show i<=1000 by omega) (show i<=1000 by omega)
 have m1:N2 g (.int (i:Int)) (.int (i:Int))=.ok (.int ((i*i:Nat):Int)) g:=by rw[L5 (by omega)];congr 2
 have m2:N2 g (.int ((i*i:Nat):Int)) (.int 31)=.ok (.int ((i*i*31:Nat):Int)) g:=by rw[L5 (by decide)];congr 2
 have a7:((i*i*31:Nat):Int)+7=((i*i*31+7:Nat):Int):=by omega
 obtain⟨w,ix⟩:=a7U (x:=N/(i*i*31+7)) hs hh;simp_arith[e1,e6,M4,op2,m1,m2,n5,a7,J7 (i*i*31+7) (by omega) (by omega),a4Q hh,D9 sh.length (by omega),ix,a3w]
variable(f202:F 202=some o5)(f203:F 203=some m8)
include f202
theorem a5Z{k a N0:Nat}{c:Int}{ns:List Str}(hs:4<=sh.length)(hh:h[s]? =some (.lst (shD sh)))(hj:j<ns.length)(n6:ns.length<=100)(ll:ls.length<=1000)(hn:b9 ns[j]=true)(ha:a=h.length)(p1:Pf h g)(p2:g[a]? =some (.lst (ns.map .str)))(p3:g[a+1]? =some (.lst (ls.map ltD)))(e6 e7 e8 e9:Option D):
 ∃l x6 x7 x8 x9 g',LtOk sh l/\l.n=ns[j]/\exs ct (b4 ct F (k+1)) lB [some (.int c),some (.ref s),some (.int (N0:Int)),some (.ref a),some (.ref (a+1)),some (.int (j:Int)),e6,e7,e8,e9] g=.ok (.nx [some (.int c),some (.ref s),some (.int (N0:Int)),some (.ref a),some (.ref (a+1)),some (.int (j:Int)),x6,x7,x8,x9]) g'/\Pf h g'/\g'[a]? =some (.lst (ns.map .str))/\g'[a+1]? =some (.lst ((ls++[l]).map ltD)):=by
 have a100:((j:Nat):Int)+100=((j+100:Nat):Int):=by omega
 obtain⟨N,hN⟩:=D3 (ct:=ct) (k:=k) (c:=c) (j:=((j+100:Nat):Int)) (h:=g) f202 (by omega)
 obtain⟨jn,m,j1,j2,j3,j4,j5,j6⟩:=b8d N;obtain⟨wy,w1,w2,w3⟩:=b7j (N/6)
 have m6:∀h,u9 h (.int (N:Int)) (.int 6)=.ok (.int ((N%6:Nat):Int)) h:=fun h=>D9 6 (by decide)
 have d6:∀h,w8 h (.int (N:Int)) (.int 6)=.ok (.int ((N/6:Nat):Int)) h:=fun h=>J7 6 (by decide) (by decide)
 have m3:∀(a:Nat) h,u9 h (.int (a:Int)) (.int 3)=.ok (.int ((a%3:Nat):Int)) h:=fun a h=>D9 3 (by decide)
 have je:∀(env:o9) (h:AH),ev ct (b4 ct F (k+1)) jnE env h=.ok (.ref h.length) (h++[.lst (jnL.map .str)]):=fun env h=>by unfold jnE jnL;simp_arith[y9]
 have we:∀(env:o9) (h:AH),ev ct (b4 ct F (k+1)) wyE env h=.ok (.ref h.length) (h++[.lst (wyL.map .str)]):=fun env h=>by unfold wyE wyL;simp_arith[y9]
 have jx:∀h:AH,ixD (h++[.lst (jnL.map .str)]) (.ref h.length) (.int ((N%6:Nat):Int))=.ok (.str jn) (h++[.lst (jnL.map .str)]):=fun h=>C7 b6 (by rw[aj,j1];rfl)
 have wx:∀h:AH,ixD (h++[.lst (wyL.map .str)]) (.ref h.length) (.int ((N/6%3:Nat):Int))=.ok (.str wy) (h++[.lst (wyL.map .str)]):=fun h=>C7 b6 (by rw[aj,w1];rfl)
 have dx:∀h:AH,ixD (h++[.dict jnD]) (.ref h.length) (.str jn)=.ok (.int ((m:Nat):Int)) (h++[.dict jnD]):=fun h=>by
  simp only[ixD,b6,j3,if_true,j2]
 have fl:((List.range m).map fun i=>D.str (pk sh (N/(i*i*31+7))))=((List.range m).map fun i=>pk sh (N/(i*i*31+7))).map .str:=by rw[aD];rfl
 refine⟨⟨ns[j],jn,wy,(List.range m).map fun i=>pk sh (N/(i*i*31+7))⟩,some (.int (N:Int)),some (.str jn),some (.int (m:Int)),some (.tup (((List.range m).map fun i=>pk sh (N/(i*i*31+7))).map .str)),(g++[Cell.lst (jnL.map .str)]++[Cell.dict jnD]++[Cell.lst (((List.range m).map fun i=>pk sh (N/(i*i*31+7))).map .str)]++[Cell.lst (wyL.map .str)]).set (a+1) (.lst (ls.map ltD++[ltD ⟨ns[j],jn,wy,(List.range m).map fun i=>pk sh (N/(i*i*31+7))⟩])),⟨hn,by simpa using j4,by simpa using j5,w2,j6,w3,fun f hf=>?_⟩,rfl,?_,?_,?_,?_⟩
 · obtain⟨i,_,rfl⟩:=ak.mp hf;exact(a5Q hs _).1
 · unfold lB;rw[seq (env':=[some (.int c),some (.ref s),some (.int (N0:Int)),some (.ref a),some (.ref (a+1)),some (.int (j:Int)),some (.int (N:Int)),e7,e8,e9]) (h':=g) (by simp_arith[op2,n5,a100,hN])]
   rw[seq (env':=[some (.int c),some (.ref s),some (.int (N0:Int)),some (.ref a),some (.ref (a+1)),some (.int (j:Int)),some (.int (N:Int)),some (.str jn),e8,e9]) (h':=g++[.lst (jnL.map .str)]) (by simp_arith[je,op2,m6,jx])]
   have P1:Pf h (g++[.lst (jnL.map .str)]):=p1.app _
   have A1:=b5 (g:=[.lst (jnL.map .str)]) p2;have B1:=b5 (g:=[.lst (jnL.map .str)]) p3;generalize g++[Cell.lst (jnL.map .str)]=g1 at*
   unfold lB3;rw[seq (env':=[some (.int c),some (.ref s),some (.int (N0:Int)),some (.ref a),some (.ref (a+1)),some (.int (j:Int)),some (.int (N:Int)),some (.str jn),some (.int (m:Int)),e9]) (h':=g1++[.dict jnD]) (by simp_arith[b3J,y9,dx])]
   have P2:Pf h (g1++[.dict jnD]):=P1.app _
   have A2:=b5 (g:=[.dict jnD]) A1;have B2:=b5 (g:=[.dict jnD]) B1;generalize g1++[Cell.dict jnD]=g2 at*
   unfold lB4;have fo:=b1v (ct:=ct) (c:=b4 ct F (k+1)) (s:=s) (N:=N) (m:=m) (env:=[some (.int c),some (.ref s),some (.int (N0:Int)),some (.ref a),some (.ref (a+1)),some (.int (j:Int)),some (.int (N:Int)),some (.str jn),some (.int (m:Int)),e9]) (g:=g2) hs (P2.at hh) rfl rfl rfl (by omega)
   rw[fl] at fo;generalize ((List.range m).map fun i=>pk sh (N/(i*i*31+7)))=fs at*
   rw[seq (env':=[some (.int c),some (.ref s),some (.int (N0:Int)),some (.ref a),some (.ref (a+1)),some (.int (j:Int)),some (.int (N:Int)),some (.str jn),some (.int (m:Int)),some (.tup (fs.map .str))]) (h':=g2++[.lst (fs.map .str)]) (by simp_arith[fo,M3 b6])]
   have A3:=b5 (g:=[.lst (fs.map .str)]) A2;have B3:=b5 (g:=[.lst (fs.map .str)]) B2;generalize g2++[Cell.lst (fs.map .str)]=g3 at*
   unfold lB5
   have nx:ixD g3 (.ref a) (.int (j:Int))=.ok (.str ns[j]) g3:=C7 A3 (by rw[aj,af hj];rfl)
   simp_arith[E3 B3,nx,we,op2,d6,m3,wx,K9 (b5 (g:=[.lst (wyL.map .str)]) B3) (by rw[aa];omega),ltD]
 · exact((((p1.app _).app _).app _).app _).set (by omega)
 · exact b7 (by omega) (b5 (b5 (b5 (b5 p2))))
 · rw[u7 (b5 (b5 (b5 (b5 p3)))),al];rfl
include f203
theorem a6Y{k:Nat}{c:Int}(hF:F 208=some v5)(hs:Shs sh)(hh:h[s]? =some (.lst (shD sh))):∃ls:List Lt,(1<=ls.length/\ls.length<=6)/\(ls.map (·.n)).Nodup/\(∀l∈ls,LtOk sh l)/\b4 ct F (k+2) 208 [.int c,.ref s] h=.ok (.ref h.length) (h++[.lst (ls.map ltD)]):=by
 obtain⟨M,hM⟩:=D3 (ct:=ct) (k:=k) (c:=c) (j:=2) (h:=h) f202 (by decide)
 have d6:w8 h (.int (M:Int)) (.int 6)=.ok (.int ((M/6:Nat):Int)) h:=J7 6 (by decide) (by decide)
 have m6:u9 h (.int (M:Int)) (.int 6)=.ok (.int ((M%6:Nat):Int)) h:=D9 6 (by decide)
 have a1:(1:Int)+((M%6:Nat):Int)=((1+M%6:Nat):Int):=by omega
 have l6:M%6<6:=Nat.mod_lt _ (by decide)
 obtain⟨ns,nk,hN⟩:=Z4 (ct:=ct) (k:=k) (c:=M/6) (m:=1+M%6) (h:=h) f203 (by omega)
 generalize hm:1+M%6=m at nk hN a1;rw[i6 hF rfl];simp only[v5]
 show∃ls:List Lt,_/\_/\_/\gcR 2 h (K2 (exs ct (b4 ct F (k+1)) _ [some (.int c),some (.ref s),none,none,none,none,none,none,none,none] h))=_
 rw[seq (env':=[some (.int c),some (.ref s),some (.int (M:Int)),none,none,none,none,none,none,none]) (h':=h) (by simp_arith[hM])]
 rw[seq (env':=[some (.int c),some (.ref s),some (.int (M:Int)),some (.ref h.length),none,none,none,none,none,none]) (h':=h++[.lst (ns.map .str)]) (by simp_arith[op2,d6,m6,n5,a1,hN])]
 have l1:(h++[Cell.lst (ns.map D.str)]).length=h.length+1:=by simp
 rw[seq (env':=[some (.int c),some (.ref s),some (.int (M:Int)),some (.ref h.length),some (.ref (h.length+1)),none,none,none,none,none]) (h':=h++[.lst (ns.map .str)]++[.lst []]) (by simp_arith[y9,l1])]
 have gN:(h++[Cell.lst (ns.map D.str)]++[Cell.lst []])[h.length]? =some (.lst (ns.map .str)):=b5 b6
 have gW:(h++[Cell.lst (ns.map D.str)]++[Cell.lst []])[h.length+1]? =some (.lst []):=by rw[←l1];exact b6
 have pf:Pf h (h++[Cell.lst (ns.map D.str)]++[Cell.lst []]):=((Pf.refl h).app _).app _
 generalize h++[Cell.lst (ns.map D.str)]++[Cell.lst []]=g at gN gW pf
 have len:biD .len g [.ref h.length]=.ok (.int (m:Int)) g:=by rw[n8 gN,aa,nk.len]
 obtain⟨env',g',e1,ls,e5,e6,e7,e8,e9,rfl,q2,q3,q4,q5,q6⟩:=B9 (g:=[]) (p:=.nm 5) (body:=exs ct (b4 ct F (k+1)) lB) (fun j env hh=>∃ls:List Lt,∃e5 e6 e7 e8 e9,env=[some (.int c),some (.ref s),some (.int (M:Int)),some (.ref h.length),some (.ref (h.length+1)),e5,e6,e7,e8,e9]/\Pf h hh/\hh[h.length]? =some (.lst (ns.map .str))/\hh[h.length+1]? =some (.lst (ls.map ltD))/\ls.map (·.n)=ns.take j/\∀l∈ls,LtOk sh l) (fun _ _ _ _=>rfl) ((List.range m).map fun i=>.int ((0:Int)+(i:Nat))) 0 [some (.int c),some (.ref s),some (.int (M:Int)),some (.ref h.length),some (.ref (h.length+1)),none,none,none,none,none] g (fun j x env hg hx hP=>by
  obtain⟨ls,e5,e6,e7,e8,e9,rfl,p1,p2,p3,p4,p5⟩:=hP;obtain⟨hj,rfl⟩:=a1E hx;rw[ay] at p4⊢
  have hj':j<ns.length:=by rw[nk.len];exact hj
  have ll:ls.length<=1000:=by
   have:=congrArg List.length p4
   rw[aa,aG] at this;omega
  obtain⟨l,x6,x7,x8,x9,g',t1,t2,t3,t4,t5,t6⟩:=a5Z (ct:=ct) (k:=k) (c:=c) (N0:=M) f202 hs.lo hh hj' (by rw[nk.len];omega) ll (nk.ok _ (bc hj')) rfl p1 p2 p3 e6 e7 e8 e9
  refine⟨_,_,g',rfl,t3,ls++[l],_,_,_,_,_,rfl,t4,t5,t6,?_,fun y hy=>?_⟩
  · rw[al,p4,take_succ_eq_append_getElem hj',←t2];rfl
  · rcases aF.mp hy with hy|hy
    · exact p5 y hy
    · rw[aI.mp hy];exact t1) ⟨[],none,none,none,none,none,rfl,pf,gN,gW,rfl,fun _ h=>nomatch h⟩
 rw[aa,aE,ay,←nk.len,aS] at q5
 have ln:ls.length=m:=by rw[←nk.len,←q5,aa]
 refine⟨ls,by omega,by rw[q5];exact nk.nd,q6,?_⟩
 rw[seq (env':=[some (.int c),some (.ref s),some (.int (M:Int)),some (.ref h.length),some (.ref (h.length+1)),e5,e6,e7,e8,e9]) (h':=g') (by simp_arith[len,a0P (h:=g) (m:=m) (by omega),e1])]
 simp_arith[];exact a7g q2 q4 (Nat.le_succ _) (b1p _)
end
structure Cs where
 n:Str
 fs:List Str
noncomputable def csD(c:Cs):D:=.tup [.str c.n,.tup (c.fs.map .str)]
structure CsOk(sh:List (Str×Nat))(c:Cs):Prop where
 nm:b9 c.n=true
 few:1<=c.fs.length/\c.fs.length<=20
 fs:∀f∈c.fs,f∈sh.map (·.1)
theorem b1q(ms:List Cs):D.flats (ms.map csD)=true:=L7 fun d hd=>by
 obtain⟨p,_,rfl⟩:=ak.mp hd
 show D.flats [.str p.n,.tup (p.fs.map .str)]=true
 simp only[D.flats,D.flat,C1,Bool.and_self]
theorem a1r:∀{l:List D} {i j:Nat} {x:D},(B8 i l)[j]? =some x->∃d,l[j]? =some d/\x=.tup [.int ((i+j:Nat):Int),d]
 |[],i,j,x,h=>by simp[B8] at h
 |d::r,i,0,x,h=>by
  rw[B8] at h
  simp at h
  exact⟨d,rfl,h.symm⟩
 |d::r,i,j+1,x,h=>by
  rw[B8] at h;obtain⟨d',h1,h2⟩:=a1r (l:=r) (i:=i+1) (j:=j) (by simpa using h)
  refine⟨d',by simpa using h1,?_⟩
  rw[h2,show i+1+j=i+(j+1) by omega]
theorem a0h:∀(l:List D) (i:Nat),(B8 i l).length=l.length
 |[],_=>rfl
 |d::r,i=>by rw[B8,length_cons,a0h r,length_cons]
section
variable{ct:CT}{F:Nat->Option Fn}
theorem b2n(hs:4<=sh.length)(hh:g[s]? =some (.lst (shD sh)))(e1:env[1]? =some (some (.ref s)))(e6:env[6]? =some (some (.int (N:Int)))):
 ev ct c smE env g=.ok (.ref g.length) (g++[.lst (((List.range (1+N%5)).map fun i=>pk sh (N/(i*13+5))).map .str)]):=by
 unfold smE
 have m20:u9 g (.int (N:Int)) (.int 5)=.ok (.int ((N%5:Nat):Int)) g:=D9 5 (by decide)
 have a1:(1:Int)+((N%5:Nat):Int)=((1+N%5:Nat):Int):=by omega
 have l20:N%5<5:=Nat.mod_lt _ (by decide)
 have r:=W3 (ct:=ct) (c:=c) (fr:=[6,1]) (a:=.bin .add (.k (.int (1))) (.bin .mod (.v 6) (.k (.int (5))))) (e:=(.ix (.ix (.v 2) (.bin .mod (.bin .div (.v 1) (.bin .add (.bin .mul (.v 0) (.k (.int (13)))) (.k (.int (5))))) (.bi .len (.cons (.v 2) .nil)))) (.k (.int (0))))) (env:=env) (m:=1+N%5) (h:=g) (fun i=>.str (pk sh (N/(i*13+5)))) (by simp_arith[e6,op2,m20,n5,a1]) (by omega) (fun i hi=>by
  have m1:N2 g (.int (i:Int)) (.int 13)=.ok (.int ((i*13:Nat):Int)) g:=by rw[L5 (by decide)];congr 2
  have a5:((i*13:Nat):Int)+5=((i*13+5:Nat):Int):=by omega
  obtain⟨w,ix⟩:=a7U (x:=N/(i*13+5)) hs hh;simp_arith[e1,e6,M4,op2,m1,n5,a5,J7 (i*13+5) (by omega) (by omega),a4Q hh,D9 sh.length (by omega),ix,a3w])
 rw[r,aD];rfl
variable(f202:F 202=some o5)(f203:F 203=some m8)
include f202 f203
theorem a7q{k:Nat}{c:Int}(hF:F 209=some v7)(hs:Shs sh)(hh:h[s]? =some (.lst (shD sh))):∃ls:List Cs,(1<=ls.length/\ls.length<=9)/\(ls.map (·.n)).Nodup/\(∀l∈ls,CsOk sh l)/\b4 ct F (k+2) 209 [.int c,.ref s] h=.ok (.ref h.length) (h++[.lst (ls.map csD)]):=by
 obtain⟨M,hM⟩:=D3 (ct:=ct) (k:=k) (c:=c) (j:=3) (h:=h) f202 (by decide)
 have l1:(h++[Cell.lst []]).length=h.length+1:=by simp
 generalize hg:h++[Cell.lst []]=g0 at l1
 have d4:w8 g0 (.int (M:Int)) (.int 4)=.ok (.int ((M/4:Nat):Int)) g0:=J7 4 (by decide) (by decide)
 have m3:u9 g0 (.int (M:Int)) (.int 3)=.ok (.int ((M%3:Nat):Int)) g0:=D9 3 (by decide)
 have l3:M%3<3:=Nat.mod_lt _ (by decide)
 obtain⟨m,mb,me⟩:∃m:Nat,(1<=m/\m<=9)/\(1:Int)+((M%3:Nat):Int)=(m:Int):=⟨1+M%3,by omega,by omega⟩
 obtain⟨ns,nk,hN⟩:=Z4 (ct:=ct) (k:=k) (c:=M/4) (m:=m) (h:=g0) f203 (by omega)
 rw[i6 hF rfl];simp only[v7]
 show∃ls:List Cs,_/\_/\_/\gcR 2 h (K2 (exs ct (b4 ct F (k+1)) _ [some (.int c),some (.ref s),none,none,none,none,none,none] h))=_
 rw[seq (env':=[some (.int c),some (.ref s),some (.int (M:Int)),none,none,none,none,none]) (h':=h) (by simp_arith[hM])]
 rw[seq (env':=[some (.int c),some (.ref s),some (.int (M:Int)),some (.ref h.length),none,none,none,none]) (h':=g0) (by simp_arith[y9,hg])]
 have gW:(g0++[Cell.lst (ns.map D.str)])[h.length]? =some (.lst []):=b5 (by rw[←hg];exact b6)
 have gN:(g0++[Cell.lst (ns.map D.str)])[h.length+1]? =some (.lst (ns.map .str)):=by rw[←l1];exact b6
 have pf:Pf h (g0++[Cell.lst (ns.map D.str)]):=by rw[←hg];exact((Pf.refl h).app _).app _
 rw[l1] at hN;generalize g0++[Cell.lst (ns.map D.str)]=g at gN gW pf hN
 obtain⟨env',g',e1,ls,e4,e5,e6,e7,rfl,q2,q3,q4,q5,q6⟩:=B9 (g:=[(h.length+1,.lst (ns.map .str))]) (p:=.tp (.cons (.nm 4) (.cons (.nm 5) .nil))) (body:=exs ct (b4 ct F (k+1)) kB) (fun j env hh=>∃ls:List Cs,∃e4 e5 e6 e7,env=[some (.int c),some (.ref s),some (.int (M:Int)),some (.ref h.length),e4,e5,e6,e7]/\Pf h hh/\hh[h.length+1]? =some (.lst (ns.map .str))/\hh[h.length]? =some (.lst (ls.map csD))/\ls.map (·.n)=ns.take j/\∀l∈ls,CsOk sh l) (fun j env gg hP=>by
  obtain⟨_,_,_,_,_,_,_,h3,_⟩:=hP;simp[gOk,h3]) (B8 0 (ns.map .str)) 0 [some (.int c),some (.ref s),some (.int (M:Int)),some (.ref h.length),none,none,none,none] g (fun j x env hg hx hP=>by
  obtain⟨ls,e4,e5,e6,e7,rfl,p1,p2,p3,p4,p5⟩:=hP;obtain⟨d,hd,rfl⟩:=a1r hx
  have hj:j<ns.length:=by simpa using(ac.mp hd).1
  rw[aj,af hj] at hd
  obtain rfl:D.str ns[j]=d:=au hd;rw[ay] at p4⊢
  have a130:((j:Nat):Int)+130=((j+130:Nat):Int):=by omega
  have jl:=nk.len;obtain⟨N,hN⟩:=D3 (ct:=ct) (k:=k) (c:=c) (j:=((j+130:Nat):Int)) (h:=hg) f202 (by omega)
  have so:=b2n (ct:=ct) (c:=b4 ct F (k+1)) (s:=s) (N:=N) (env:=[some (.int c),some (.ref s),some (.int (M:Int)),some (.ref h.length),some (.int (j:Int)),some (.str ns[j]),some (.int (N:Int)),e7]) (g:=hg) hs.lo (p1.at hh) rfl rfl
  have l20:N%5<5:=Nat.mod_lt _ (by decide)
  have fo:∀f∈(List.range (1+N%5)).map fun i=>pk sh (N/(i*13+5)),f∈sh.map (·.1):=fun f hf=>by
   obtain⟨i,_,rfl⟩:=ak.mp hf;exact(a5Q hs.lo _).1
  have fl:((List.range (1+N%5)).map fun i=>pk sh (N/(i*13+5))).length=1+N%5:=by simp
  generalize ((List.range (1+N%5)).map fun i=>pk sh (N/(i*13+5)))=fs at so fo fl
  have ll:(ls.map csD).length<1000000:=by
   have:=congrArg List.length p4
   rw[aa,aG] at this;rw[aa];omega
  refine⟨_,[some (.int c),some (.ref s),some (.int (M:Int)),some (.ref h.length),some (.int (j:Int)),some (.str ns[j]),some (.int (N:Int)),some (.ref hg.length)],(hg++[Cell.lst (fs.map .str)]).set h.length (.lst (ls.map csD++[csD ⟨ns[j],fs⟩])),rfl,?_,ls++[⟨ns[j],fs⟩],_,_,_,_,rfl,(p1.app _).set (ai _),b7 (by omega) (b5 p2),?_,?_,fun y hy=>?_⟩
  · show exs ct (b4 ct F (k+1)) kB [some (.int c),some (.ref s),some (.int (M:Int)),some (.ref h.length),some (.int (j:Int)),some (.str ns[j]),e6,e7] hg=_
    unfold kB;rw[seq (env':=[some (.int c),some (.ref s),some (.int (M:Int)),some (.ref h.length),some (.int (j:Int)),some (.str ns[j]),some (.int (N:Int)),e7]) (h':=hg) (by simp_arith[op2,n5,a130,hN])]
    rw[seq (env':=[some (.int c),some (.ref s),some (.int (M:Int)),some (.ref h.length),some (.int (j:Int)),some (.str ns[j]),some (.int (N:Int)),some (.ref hg.length)]) (h':=hg++[.lst (fs.map .str)]) (by simp_arith[so])]
    simp_arith[E3 (b5 (g:=[.lst (fs.map .str)]) p3),M3 b6,K9 (b5 (g:=[.lst (fs.map .str)]) p3) ll,csD]
  · rw[u7 (b5 p3),al];rfl
  · rw[al,p4,take_succ_eq_append_getElem hj];rfl
  · rcases aF.mp hy with hy|hy
    · exact p5 y hy
    · rw[aI.mp hy];exact⟨nk.ok _ (bc hj),by simp only;omega,fo⟩) ⟨[],none,none,none,none,rfl,pf,gN,gW,rfl,fun _ h=>nomatch h⟩
 rw[a0h,aa,ay,aS] at q5
 have ln:ls.length=m:=by rw[←nk.len,←q5,aa]
 refine⟨ls,by omega,by rw[q5];exact nk.nd,q6,?_⟩
 rw[seq (env':=[some (.int c),some (.ref s),some (.int (M:Int)),some (.ref h.length),e4,e5,e6,e7]) (h':=g') (by simp_arith[op2,d4,m3,n5,C0,eqS,me,hN,a1s,gN,e1])]
 simp_arith[];exact a7g q2 q4 (ai _) (b1q _)
end
def a0p(sh:List (Str×Nat))(cs:List Cs)(it:Str):Prop:=it∈sh.map (·.1)∨∃c∈cs,it=("@":Str)++c.n
theorem a5r{l:List α}(f:α->D)(hl:1<=l.length)(x:Nat):∃y∈l,(l.map f)[x%l.length]? =some (f y):=by
 have lt:x%l.length<l.length:=Nat.mod_lt _ (by omega)
 exact⟨l[x%l.length],bc lt,by rw[aj,af lt];rfl⟩
theorem U5(h:b9 z=true):z.length<=12:=(a1k h).2
variable{cs:List Cs}{many:D}{its:List Str}
section
variable{ct:CT}{F:Nat->Option Fn}
structure Trio(sh:List (Str×Nat))(ls:List Lt)(cs:List Cs)(h:AH)(s l c:Nat):Prop where
 s:h[s]? =some (.lst (shD sh))
 l:h[l]? =some (.lst (ls.map ltD))
 c:h[c]? =some (.lst (cs.map csD))
 s4:4<=sh.length
 l1:1<=ls.length
 c1:1<=cs.length
 lo:∀x∈ls,LtOk sh x
 co:∀x∈cs,CsOk sh x
theorem Trio.pf{l c:Nat}(t:Trio sh ls cs h s l c)(p:Pf h g):Trio sh ls cs g s l c:=⟨p.at t.s,p.at t.l,p.at t.c,t.s4,t.l1,t.c1,t.lo,t.co⟩
theorem a8Z{cf:CF}{l c m a:Nat}(T:Trio sh ls cs g s l c)(hj:j<=100)(hN:N=m/(j*j*17+3))(p:g[a]? =some (.lst (its.map .str)))(il:its.length<=1000)(e7 e8:Option D):
 ∃it x8,a0p sh cs it/\exs ct cf iB [some (.int (m:Int)),some many,some (.ref s),some (.ref l),some (.ref c),some (.ref a),some (.int (j:Int)),e7,e8] g=.ok (.nx [some (.int (m:Int)),some many,some (.ref s),some (.ref l),some (.ref c),some (.ref a),some (.int (j:Int)),some (.int (N:Int)),x8]) (g.set a (.lst (its.map .str++[.str it]))):=by
 have jj:j*j<=10000:=Nat.mul_le_mul hj hj
 have m1:N2 g (.int (j:Int)) (.int (j:Int))=.ok (.int ((j*j:Nat):Int)) g:=by rw[L5 (by omega)];congr 2
 have m2:N2 g (.int ((j*j:Nat):Int)) (.int 17)=.ok (.int ((j*j*17:Nat):Int)) g:=by rw[L5 (by decide)];congr 2
 have a3:((j*j*17:Nat):Int)+3=((j*j*17+3:Nat):Int):=by omega
 have dv:w8 g (.int (m:Int)) (.int ((j*j*17+3:Nat):Int))=.ok (.int (N:Int)) g:=by rw[hN];exact J7 _ (by omega) (by omega)
 have m3:u9 g (.int (N:Int)) (.int 3)=.ok (.int ((N%3:Nat):Int)) g:=D9 3 (by decide)
 have d3:w8 g (.int (N:Int)) (.int 3)=.ok (.int ((N/3:Nat):Int)) g:=J7 3 (by decide) (by decide)
 have d50:w8 g (.int (N:Int)) (.int 50)=.ok (.int ((N/50:Nat):Int)) g:=J7 50 (by decide) (by decide)
 have il':(its.map D.str).length<1000000:=by rw[aa];omega
 unfold iB
 by_cases h0:((N%3:Nat):Int)=0
 · have q0:C0 g (.int ((N%3:Nat):Int)) (.int 0)=.ok (.bl true) g:=by rw[h0];rfl
   obtain⟨y,hy,ey⟩:=a5r csD T.c1 (N/3)
   have lc:biD .len g [.ref c]=.ok (.int (cs.length:Int)) g:=by rw[n8 T.c,aa]
   have ix:ixD g (.ref c) (.int ((N/3%cs.length:Nat):Int))=.ok (csD y) g:=C7 T.c ey
   have yl:=U5 (T.co y hy).nm;refine⟨("@":Str)++y.n,e8,.inr ⟨y,hy,rfl⟩,?_⟩
   rw[seq (env':=[some (.int (m:Int)),some many,some (.ref s),some (.ref l),some (.ref c),some (.ref a),some (.int (j:Int)),some (.int (N:Int)),e8]) (h':=g) (by simp_arith[op2,m1,m2,n5,a3,dv])]
   unfold iA;unfold csD at ix;simp_arith[op2,m3,q0,E3 p,d3,lc,D9 cs.length T.c1,ix,a3w,o0 (h:=g) (x:="@") (y:=y.n) (by show 1+_<=_;omega),K9 p il']
 · have q0:C0 g (.int ((N%3:Nat):Int)) (.int 0)=.ok (.bl false) g:=by simp only[C0,eqS,h0,decide_false]
   by_cases h1:((N%3:Nat):Int)=1
   · have q1:C0 g (.int ((N%3:Nat):Int)) (.int 1)=.ok (.bl true) g:=by rw[h1];rfl
     obtain⟨y,hy,ey⟩:=a5r ltD T.l1 (N/3)
     have lc:biD .len g [.ref l]=.ok (.int (ls.length:Int)) g:=by rw[n8 T.l,aa]
     have ix:ixD g (.ref l) (.int ((N/3%ls.length:Nat):Int))=.ok (ltD y) g:=C7 T.l ey
     have yo:=T.lo y hy;obtain⟨z,hz,ez⟩:=a5r D.str yo.few.1 (N/50)
     have i3:ixD g (ltD y) (.int 3)=.ok (.tup (y.fs.map .str)) g:=ix_tup (i:=3) rfl
     have lt:biD .len g [.tup (y.fs.map .str)]=.ok (.int (y.fs.length:Int)) g:=by show R.ok (D.int ((y.fs.map D.str).length:Nat)) g=_;rw[aa]
     have iz:ixD g (.tup (y.fs.map .str)) (.int ((N/50%y.fs.length:Nat):Int))=.ok (.str z) g:=ix_tup ez
     refine⟨z,some (.tup (y.fs.map .str)),.inl (yo.fs z hz),?_⟩
     rw[seq (env':=[some (.int (m:Int)),some many,some (.ref s),some (.ref l),some (.ref c),some (.ref a),some (.int (j:Int)),some (.int (N:Int)),e8]) (h':=g) (by simp_arith[op2,m1,m2,n5,a3,dv])]
     unfold iC;simp_arith[op2,m3,q0,q1,d3,lc,D9 ls.length T.l1,ix,i3,E3 p,d50,lt,D9 y.fs.length yo.few.1,iz,K9 p il']
   · have q1:C0 g (.int ((N%3:Nat):Int)) (.int 1)=.ok (.bl false) g:=by simp only[C0,eqS,h1,decide_false]
     obtain⟨w,ix⟩:=a7U (x:=N/3) T.s4 T.s;refine⟨pk sh (N/3),e8,.inl (a5Q T.s4 _).1,?_⟩
     rw[seq (env':=[some (.int (m:Int)),some many,some (.ref s),some (.ref l),some (.ref c),some (.ref a),some (.int (j:Int)),some (.int (N:Int)),e8]) (h':=g) (by simp_arith[op2,m1,m2,n5,a3,dv])]
     unfold iD;simp_arith[op2,m3,q0,q1,E3 p,d3,a4Q T.s,D9 sh.length (show 0<sh.length by have:=T.s4;omega),ix,a3w,K9 p il']
theorem a2Y{k l c m many:Nat}(hF:F 210=some w5)(T:Trio sh ls cs h s l c)(hm:many<=4):∃its:List Str,its.length=many/\(∀i∈its,a0p sh cs i)/\b4 ct F (k+1) 210 [.int (m:Int),.int (many:Int),.ref s,.ref l,.ref c] h=.ok (.tup (its.map .str)) h:=by
 rw[i6 hF rfl];simp only[w5]
 show∃its:List Str,_/\_/\gcR 1 h (K2 (exs ct (b4 ct F k) _ [some (.int (m:Int)),some (.int (many:Int)),some (.ref s),some (.ref l),some (.ref c),none,none,none,none] h))=_
 rw[seq (env':=[some (.int (m:Int)),some (.int (many:Int)),some (.ref s),some (.ref l),some (.ref c),some (.ref h.length),none,none,none]) (h':=h++[.lst []]) (by simp_arith[y9])]
 obtain⟨env',g',e1,its,e6,e7,e8,rfl,q2,q3,q4,q5⟩:=B9 (g:=[]) (p:=.nm 6) (body:=exs ct (b4 ct F k) iB) (fun j env g=>∃its:List Str,∃e6 e7 e8,env=[some (.int (m:Int)),some (.int (many:Int)),some (.ref s),some (.ref l),some (.ref c),some (.ref h.length),e6,e7,e8]/\Pf h g/\g[h.length]? =some (.lst (its.map .str))/\its.length=j/\∀i∈its,a0p sh cs i) (fun _ _ _ _=>rfl) ((List.range many).map fun i=>.int ((0:Int)+(i:Nat))) 0 [some (.int (m:Int)),some (.int (many:Int)),some (.ref s),some (.ref l),some (.ref c),some (.ref h.length),none,none,none] (h++[.lst []]) (fun j x env g hx hP=>by
  obtain⟨its,e6,e7,e8,rfl,p1,p2,p3,p4⟩:=hP;obtain⟨hj,rfl⟩:=a1E hx;rw[ay] at p3⊢;obtain⟨it,x8,t1,t2⟩:=a8Z (ct:=ct) (cf:=b4 ct F k) (m:=m) (many:=.int (many:Int)) (T.pf p1) (show j<=100 by omega) rfl p2 (by omega) e7 e8
  refine⟨_,_,_,rfl,t2,its++[it],_,_,_,rfl,p1.set (ai _),?_,by rw[am,p3];rfl,fun i hi=>?_⟩
  · rw[u7 p2,al];rfl
  · rcases aF.mp hi with hi|hi
    · exact p4 i hi
    · rw[aI.mp hi];exact t1) ⟨[],none,none,none,rfl,(Pf.refl h).app _,b6,rfl,fun _ h=>nomatch h⟩
 rw[aa,aE,ay] at q4;refine⟨its,q4,q5,?_⟩
 rw[seq (env':=[some (.int (m:Int)),some (.int (many:Int)),some (.ref s),some (.ref l),some (.ref c),some (.ref h.length),e6,e7,e8]) (h':=g') (by simp_arith[a0P (h:=h++[.lst []]) (m:=many) (by omega),e1])]
 simp_arith[M3 q3];exact b6e q2 (C1 _)
end
structure Ru where
 t:Str
 f:Str
 b:List Str
 c:List Str
 a:List Str
 o:List Str
noncomputable def ruD(r:Ru):D:=.tup [.str r.t,.str r.f,.tup (r.b.map .str),.tup (r.c.map .str),.tup (r.a.map .str),.tup (r.o.map .str)]
noncomputable def feD(p:Str×Bool):D:=.tup [.str p.1,.bl p.2]
structure RuOk(sh:List (Str×Nat))(cs:List Cs)(fe:List (Str×Bool))(r:Ru):Prop where
 nm:b9 r.t=true
 fe:r.f∈fe.map (·.1)
 b3:r.b.length<=3
 c4:1<=r.c.length/\r.c.length<=4
 a3:r.a.length<=3
 o3:1<=r.o.length/\r.o.length<=3
 b:∀i∈r.b,a0p sh cs i
 c:∀i∈r.c,a0p sh cs i
 a:∀i∈r.a,a0p sh cs i
 o:∀i∈r.o,i∈sh.map (·.1)
theorem b1m(ms:List Ru):D.flats (ms.map ruD)=true:=L7 fun d hd=>by
 obtain⟨p,_,rfl⟩:=ak.mp hd
 show D.flats [.str p.t,.str p.f,.tup (p.b.map .str),.tup (p.c.map .str),.tup (p.a.map .str),.tup (p.o.map .str)]=true
 simp only[D.flats,D.flat,C1,Bool.and_self]
noncomputable def z6:List D:=[.int 0,.int 0,.int 0,.int 1,.int 2,.int 3]
noncomputable def z7:List D:=[.int 1,.int 2,.int 1,.int 2,.int 3,.int 4,.int 1]
theorem b4j(x:Nat):∃z:Nat,z<=3/\z6[x%6]? =some (.int (z:Int)):=by
 have:x%6=0∨x%6=1∨x%6=2∨x%6=3∨x%6=4∨x%6=5:=by omega
 rcases this with e|e|e|e|e|e<;>rw[e]
 · exact⟨0,by decide,rfl⟩
 · exact⟨0,by decide,rfl⟩
 · exact⟨0,by decide,rfl⟩
 · exact⟨1,by decide,rfl⟩
 · exact⟨2,by decide,rfl⟩
 · exact⟨3,by decide,rfl⟩
theorem b7h(x:Nat):∃z:Nat,(1<=z/\z<=4)/\z7[x%7]? =some (.int (z:Int)):=by
 have:x%7=0∨x%7=1∨x%7=2∨x%7=3∨x%7=4∨x%7=5∨x%7=6:=by omega
 rcases this with e|e|e|e|e|e|e<;>rw[e]
 · exact⟨1,by decide,rfl⟩
 · exact⟨2,by decide,rfl⟩
 · exact⟨1,by decide,rfl⟩
 · exact⟨2,by decide,rfl⟩
 · exact⟨3,by decide,rfl⟩
 · exact⟨4,by decide,rfl⟩
 · exact⟨1,by decide,rfl⟩
noncomputable def z5(b:Bool):List D:=[.int 1,.int 1,.int 1,.int 2,.int (2+(if b then 1 else 0))]
theorem b7i(b:Bool)(x:Nat):∃z:Nat,(1<=z/\z<=3)/\(z5 b)[x%5]? =some (.int (z:Int)):=by
 have:x%5=0∨x%5=1∨x%5=2∨x%5=3∨x%5=4:=by omega
 rcases this with e|e|e|e|e<;>rw[e]
 · exact⟨1,by decide,rfl⟩
 · exact⟨1,by decide,rfl⟩
 · exact⟨1,by decide,rfl⟩
 · exact⟨2,by decide,rfl⟩
 · cases b
   · exact⟨2,by decide,rfl⟩
   · exact⟨3,by decide,rfl⟩
section
variable{ct:CT}{F:Nat->Option Fn}
theorem b2h{m:Nat}(hs:4<=sh.length)(hh:g[s]? =some (.lst (shD sh)))(e2:env[2]? =some (some (.ref s)))(e9:env[9]? =some (some (.int (N:Int))))(e15:env[15]? =some (some (.int (m:Int))))(hm:m<=1000):
 ev ct c tdE env g=.ok (.ref g.length) (g++[.lst (((List.range m).map fun i=>pk sh (N/(i*7+3))).map .str)]):=by
 unfold tdE
 have r:=W3 (ct:=ct) (c:=c) (fr:=[9,2]) (a:=.v 15) (e:=(.ix (.ix (.v 2) (.bin .mod (.bin .div (.v 1) (.bin .add (.bin .mul (.v 0) (.k (.int (7)))) (.k (.int (3))))) (.bi .len (.cons (.v 2) .nil)))) (.k (.int (0))))) (env:=env) (m:=m) (h:=g) (fun i=>.str (pk sh (N/(i*7+3)))) (by simp_arith[e15]) (by omega) (fun i hi=>by
  have m1:N2 g (.int (i:Int)) (.int 7)=.ok (.int ((i*7:Nat):Int)) g:=by rw[L5 (by decide)];congr 2
  have a5:((i*7:Nat):Int)+3=((i*7+3:Nat):Int):=by omega
  obtain⟨w,ix⟩:=a7U (x:=N/(i*7+3)) hs hh;simp_arith[e2,e9,M4,op2,m1,n5,a5,J7 (i*7+3) (by omega) (by omega),a4Q hh,D9 sh.length (by omega),ix,a3w])
 rw[r,aD];rfl
theorem a9F(e9:env[9]? =some (some (.int (N:Int)))):∃z0 z1 z2 n t,z0<=3/\(1<=z1/\z1<=4)/\z2<=3/\ev ct c szE env g=.ok (.ref n) (g++t)/\(g++t)[n]? =some (.lst [.int ((z0:Nat):Int),.int ((z1:Nat):Int),.int ((z2:Nat):Int)]):=by
 obtain⟨z0,a0,b0⟩:=b4j N;obtain⟨z1,a1,b1⟩:=b7h (N/6);obtain⟨z2,a2,b2⟩:=b4j (N/42)
 have m6:∀(a:Nat) h,u9 h (.int (a:Int)) (.int 6)=.ok (.int ((a%6:Nat):Int)) h:=fun a h=>D9 6 (by decide)
 have m7:∀(a:Nat) h,u9 h (.int (a:Int)) (.int 7)=.ok (.int ((a%7:Nat):Int)) h:=fun a h=>D9 7 (by decide)
 have d6:∀h,w8 h (.int (N:Int)) (.int 6)=.ok (.int ((N/6:Nat):Int)) h:=fun h=>J7 6 (by decide) (by decide)
 have d42:∀h,w8 h (.int (N:Int)) (.int 42)=.ok (.int ((N/42:Nat):Int)) h:=fun h=>J7 42 (by decide) (by decide)
 have l6:∀(env:o9) (h:AH),ev ct c e6L env h=.ok (.ref h.length) (h++[.lst z6]):=fun env h=>by unfold e6L z6;simp_arith[y9]
 have l7:∀(env:o9) (h:AH),ev ct c e7L env h=.ok (.ref h.length) (h++[.lst z7]):=fun env h=>by unfold e7L z7;simp_arith[y9];rfl
 have x0:∀h:AH,ixD (h++[.lst z6]) (.ref h.length) (.int ((N%6:Nat):Int))=.ok (.int (z0:Int)) (h++[.lst z6]):=fun h=>C7 b6 b0
 have x1:∀h:AH,ixD (h++[.lst z7]) (.ref h.length) (.int ((N/6%7:Nat):Int))=.ok (.int (z1:Int)) (h++[.lst z7]):=fun h=>C7 b6 b1
 have x2:∀h:AH,ixD (h++[.lst z6]) (.ref h.length) (.int ((N/42%6:Nat):Int))=.ok (.int (z2:Int)) (h++[.lst z6]):=fun h=>C7 b6 b2
 refine⟨z0,z1,z2,(g++[Cell.lst z6]++[Cell.lst z7]++[Cell.lst z6]).length,[.lst z6,.lst z7,.lst z6,.lst [.int ((z0:Nat):Int),.int ((z1:Nat):Int),.int ((z2:Nat):Int)]],a0,a1,a2,?_,?_⟩
 · unfold szE;simp_arith[l6,l7,e9,op2,m6,m7,d6,d42,x0,x1,x2,y9];simp
 · rw[show g++[Cell.lst z6,.lst z7,.lst z6,.lst [.int ((z0:Nat):Int),.int ((z1:Nat):Int),.int ((z2:Nat):Int)]]=(g++[Cell.lst z6]++[Cell.lst z7]++[Cell.lst z6])++[.lst [.int ((z0:Nat):Int),.int ((z1:Nat):Int),.int ((z2:Nat):Int)]] by simp]
   exact b6
end
variable{cl:Nat}{fe:List (Str×Bool)}
section
variable{ct:CT}{F:Nat->Option Fn}
theorem b8R(e7:env[7]? =some (some (.int (j:Int)))):ev ct c e5L env g=.ok (.ref g.length) (g++[.lst (z5 (decide ((j:Int)=0)))]):=by
 unfold e5L z5
 have ib:∀b:Bool,biD .int g [.bl b]=.ok (.int (if b=true then 1 else 0)) g:=fun b=>rfl
 simp_arith[e7,op2,C0,eqS,ib,n5,y9]
variable(f202:F 202=some o5)(f210:F 210=some w5)
include f202 f210
theorem a8E{k l a:Nat}{c:Int}{title:Str}{rs:List Ru}(T:Trio sh ls cs g s l cl)(hf:g[f]? =some (.lst (fe.map feD)))(f1:1<=fe.length)(ht:b9 title=true)(hj:j<=100)(p:g[a]? =some (.lst (rs.map ruD)))(rl:rs.length<=1000)(e9 e10 e11 e12 e13 e14 e15 e16:Option D):
 ∃r x9 x10 x11 x12 x13 x14 x15 x16 t,RuOk sh cs fe r/\r.t=title/\exs ct (b4 ct F (k+1)) rB [some (.int c),some many,some (.ref s),some (.ref l),some (.ref cl),some (.ref f),some (.ref a),some (.int (j:Int)),some (.str title),e9,e10,e11,e12,e13,e14,e15,e16] g
  =.ok (.nx [some (.int c),some many,some (.ref s),some (.ref l),some (.ref cl),some (.ref f),some (.ref a),some (.int (j:Int)),some (.str title),x9,x10,x11,x12,x13,x14,x15,x16]) ((g++t).set a (.lst ((rs++[r]).map ruD))):=by
 have a160:((j:Nat):Int)+160=((j+160:Nat):Int):=by omega
 have a190:((j:Nat):Int)+190=((j+190:Nat):Int):=by omega
 obtain⟨N,hN⟩:=D3 (ct:=ct) (k:=k) (c:=c) (j:=((j+160:Nat):Int)) (h:=g) f202 (by omega)
 obtain⟨M,hM⟩:=D3 (ct:=ct) (k:=k) (c:=c) (j:=((j+190:Nat):Int)) (h:=g) f202 (by omega)
 obtain⟨z0,z1,z2,n,t1,b0,b1,b2,sz,sx⟩:=a9F (ct:=ct) (c:=b4 ct F (k+1)) (N:=N) (env:=[some (.int c),some many,some (.ref s),some (.ref l),some (.ref cl),some (.ref f),some (.ref a),some (.int (j:Int)),some (.str title),some (.int (N:Int)),some (.int (M:Int)),e11,e12,e13,e14,e15,e16]) (g:=g) rfl
 have T1:Trio sh ls cs (g++t1) s l cl:=T.pf ((Pf.refl g).app _)
 have d11:w8 (g++t1) (.int (M:Int)) (.int 11)=.ok (.int ((M/11:Nat):Int)) (g++t1):=J7 11 (by decide) (by decide)
 have d101:w8 (g++t1) (.int (M:Int)) (.int 101)=.ok (.int ((M/101:Nat):Int)) (g++t1):=J7 101 (by decide) (by decide)
 have m5:N2 (g++t1) (.int 5) (.int (j:Int))=.ok (.int ((5*j:Nat):Int)) (g++t1):=by rw[L5 (by omega)];congr 2
 have ad1:((M/11:Nat):Int)+((5*j:Nat):Int)=((M/11+5*j:Nat):Int):=by omega
 have ad2:((M/101:Nat):Int)+3=((M/101+3:Nat):Int):=by omega
 have i0:ixD (g++t1) (.ref n) (.int 0)=.ok (.int (z0:Int)) (g++t1):=o8 0 0 rfl sx rfl
 have i1:ixD (g++t1) (.ref n) (.int 1)=.ok (.int (z1:Int)) (g++t1):=o8 1 1 rfl sx rfl
 have i2:ixD (g++t1) (.ref n) (.int 2)=.ok (.int (z2:Int)) (g++t1):=o8 2 2 rfl sx rfl
 obtain⟨ib,q1,q2,q3⟩:=a2Y (ct:=ct) (k:=k) (m:=M) (many:=z0) f210 T1 (by omega)
 obtain⟨ic,u1,u2,u3⟩:=a2Y (ct:=ct) (k:=k) (m:=M/11+5*j) (many:=z1) f210 T1 (by omega)
 obtain⟨ia,v1,v2,v3⟩:=a2Y (ct:=ct) (k:=k) (m:=M/101+3) (many:=z2) f210 T1 (by omega)
 obtain⟨z,zb,zx⟩:=b7i (decide ((j:Int)=0)) (N/252)
 have G1:Pf g (g++t1):=(Pf.refl g).app _
 have p1:=b5 (g:=t1) p;have hf1:=b5 (g:=t1) hf;have e5:=b8R (ct:=ct) (c:=b4 ct F (k+1)) (j:=j) (env:=[some (.int c),some many,some (.ref s),some (.ref l),some (.ref cl),some (.ref f),some (.ref a),some (.int (j:Int)),some (.str title),some (.int (N:Int)),some (.int (M:Int)),some (.ref n),some (.tup (ib.map .str)),some (.tup (ic.map .str)),some (.tup (ia.map .str)),e15,e16]) (g:=g++t1) rfl
 have d252:∀h,w8 h (.int (N:Int)) (.int 252)=.ok (.int ((N/252:Nat):Int)) h:=fun h=>J7 252 (by decide) (by decide)
 have m5':∀(a:Nat) h,u9 h (.int (a:Int)) (.int 5)=.ok (.int ((a%5:Nat):Int)) h:=fun a h=>D9 5 (by decide)
 have ez:ixD (g++t1++[.lst (z5 (decide ((j:Int)=0)))]) (.ref (g++t1).length) (.int ((N/252%5:Nat):Int))=.ok (.int (z:Int)) (g++t1++[.lst (z5 (decide ((j:Int)=0)))]):=C7 b6 zx
 have td:=b2h (ct:=ct) (c:=b4 ct F (k+1)) (s:=s) (N:=N) (m:=z) (env:=[some (.int c),some many,some (.ref s),some (.ref l),some (.ref cl),some (.ref f),some (.ref a),some (.int (j:Int)),some (.str title),some (.int (N:Int)),some (.int (M:Int)),some (.ref n),some (.tup (ib.map .str)),some (.tup (ic.map .str)),some (.tup (ia.map .str)),some (.int (z:Int)),e16]) (g:=g++t1++[.lst (z5 (decide ((j:Int)=0)))]) T.s4 (b5 T1.s) rfl rfl rfl (by omega)
 have fo:∀x∈(List.range z).map fun i=>pk sh (N/(i*7+3)),x∈sh.map (·.1):=fun x hx=>by
  obtain⟨i,_,rfl⟩:=ak.mp hx;exact(a5Q T.s4 _).1
 have fl:((List.range z).map fun i=>pk sh (N/(i*7+3))).length=z:=by simp
 generalize ((List.range z).map fun i=>pk sh (N/(i*7+3)))=fs at td fo fl
 obtain⟨y,hy,ey⟩:=a5r feD f1 (N/1260)
 have d1260:∀h,w8 h (.int (N:Int)) (.int 1260)=.ok (.int ((N/1260:Nat):Int)) h:=fun h=>J7 1260 (by decide) (by decide)
 have hf2:=b5 (g:=[.lst (fs.map .str)]) (b5 (g:=[.lst (z5 (decide ((j:Int)=0)))]) hf1);have p2:=b5 (g:=[.lst (fs.map .str)]) (b5 (g:=[.lst (z5 (decide ((j:Int)=0)))]) p1)
 have lf:biD .len (g++t1++[.lst (z5 (decide ((j:Int)=0)))]++[.lst (fs.map .str)]) [.ref f]=.ok (.int (fe.length:Int)) (g++t1++[.lst (z5 (decide ((j:Int)=0)))]++[.lst (fs.map .str)]):=by rw[n8 hf2,aa]
 have ix:ixD (g++t1++[.lst (z5 (decide ((j:Int)=0)))]++[.lst (fs.map .str)]) (.ref f) (.int ((N/1260%fe.length:Nat):Int))=.ok (.tup [.str y.1,.bl y.2]) (g++t1++[.lst (z5 (decide ((j:Int)=0)))]++[.lst (fs.map .str)]):=C7 hf2 ey
 have rl':(rs.map ruD).length<1000000:=by rw[aa];omega
 refine⟨⟨title,y.1,ib,ic,ia,fs⟩,some (.int (N:Int)),some (.int (M:Int)),some (.ref n),some (.tup (ib.map .str)),some (.tup (ic.map .str)),some (.tup (ia.map .str)),some (.int (z:Int)),some (.tup (fs.map .str)),t1++[.lst (z5 (decide ((j:Int)=0)))]++[.lst (fs.map .str)],⟨ht,List.mem_map_of_mem hy,by simp only;omega,by simp only;omega,by simp only;omega,by simp only;omega,q2,u2,v2,fo⟩,rfl,?_⟩
 unfold rB;rw[seq (env':=[some (.int c),some many,some (.ref s),some (.ref l),some (.ref cl),some (.ref f),some (.ref a),some (.int (j:Int)),some (.str title),some (.int (N:Int)),e10,e11,e12,e13,e14,e15,e16]) (h':=g) (by simp_arith[op2,n5,a160,hN])]
 rw[seq (env':=[some (.int c),some many,some (.ref s),some (.ref l),some (.ref cl),some (.ref f),some (.ref a),some (.int (j:Int)),some (.str title),some (.int (N:Int)),some (.int (M:Int)),e11,e12,e13,e14,e15,e16]) (h':=g) (by simp_arith[op2,n5,a190,hM])]
 rw[seq (env':=[some (.int c),some many,some (.ref s),some (.ref l),some (.ref cl),some (.ref f),some (.ref a),some (.int (j:Int)),some (.str title),some (.int (N:Int)),some (.int (M:Int)),some (.ref n),e12,e13,e14,e15,e16]) (h':=g++t1) (by simp_arith[sz])]
 unfold rB3;rw[seq (env':=[some (.int c),some many,some (.ref s),some (.ref l),some (.ref cl),some (.ref f),some (.ref a),some (.int (j:Int)),some (.str title),some (.int (N:Int)),some (.int (M:Int)),some (.ref n),some (.tup (ib.map .str)),e13,e14,e15,e16]) (h':=g++t1) (by simp_arith[i0,q3])]
 unfold rB4;rw[seq (env':=[some (.int c),some many,some (.ref s),some (.ref l),some (.ref cl),some (.ref f),some (.ref a),some (.int (j:Int)),some (.str title),some (.int (N:Int)),some (.int (M:Int)),some (.ref n),some (.tup (ib.map .str)),some (.tup (ic.map .str)),e14,e15,e16]) (h':=g++t1) (by simp_arith[op2,d11,m5,n5,ad1,i1,u3])]
 unfold rB5;rw[seq (env':=[some (.int c),some many,some (.ref s),some (.ref l),some (.ref cl),some (.ref f),some (.ref a),some (.int (j:Int)),some (.str title),some (.int (N:Int)),some (.int (M:Int)),some (.ref n),some (.tup (ib.map .str)),some (.tup (ic.map .str)),some (.tup (ia.map .str)),e15,e16]) (h':=g++t1) (by simp_arith[op2,d101,n5,ad2,i2,v3])]
 unfold rB6;rw[seq (env':=[some (.int c),some many,some (.ref s),some (.ref l),some (.ref cl),some (.ref f),some (.ref a),some (.int (j:Int)),some (.str title),some (.int (N:Int)),some (.int (M:Int)),some (.ref n),some (.tup (ib.map .str)),some (.tup (ic.map .str)),some (.tup (ia.map .str)),some (.int (z:Int)),e16]) (h':=g++t1++[.lst (z5 (decide ((j:Int)=0)))]) (by simp_arith[e5,op2,d252,m5',ez])]
 rw[seq (env':=[some (.int c),some many,some (.ref s),some (.ref l),some (.ref cl),some (.ref f),some (.ref a),some (.int (j:Int)),some (.str title),some (.int (N:Int)),some (.int (M:Int)),some (.ref n),some (.tup (ib.map .str)),some (.tup (ic.map .str)),some (.tup (ia.map .str)),some (.int (z:Int)),some (.tup (fs.map .str))]) (h':=g++t1++[.lst (z5 (decide ((j:Int)=0)))]++[.lst (fs.map .str)]) (by simp_arith[td,M3 b6])]
 unfold rB7;simp_arith[E3 p2,op2,d1260,lf,D9 fe.length f1,ix,a3w,K9 p2 rl',al];rw[show g++(t1++[Cell.lst (z5 (decide ((j:Int)=0)))]++[Cell.lst (fs.map .str)])=g++t1++[.lst (z5 (decide ((j:Int)=0)))]++[.lst (fs.map .str)] by simp]
 rfl
variable(f203:F 203=some m8)
include f203
theorem a9L{k l m:Nat}{c:Int}(hF:F 211=some p7)(T:Trio sh ls cs h s l cl)(hf:h[f]? =some (.lst (fe.map feD)))(f1:1<=fe.length)(hm:m<=26):
 ∃rs:List Ru,rs.length=m/\(rs.map (·.t)).Nodup/\(∀r∈rs,RuOk sh cs fe r)/\b4 ct F (k+2) 211 [.int c,.int (m:Int),.ref s,.ref l,.ref cl,.ref f] h=.ok (.ref h.length) (h++[.lst (rs.map ruD)]):=by
 have l1:(h++[Cell.lst []]).length=h.length+1:=by simp
 have gW0:(h++[Cell.lst []])[h.length]? =some (.lst []):=b6
 have pf0:Pf h (h++[Cell.lst []]):=(Pf.refl h).app _
 have st:exs ct (b4 ct F (k+1)) p7.body [some (.int c),some (.int (m:Int)),some (.ref s),some (.ref l),some (.ref cl),some (.ref f),none,none,none,none,none,none,none,none,none,none,none] h=exs ct (b4 ct F (k+1)) (.cons (.for (.tp (.cons (.nm 7) (.cons (.nm 8) .nil))) (.enum (.call 203 (.cons (.call 202 (.cons (.v 0) (.cons (.k (.int (4))) .nil))) (.cons (.v 1) .nil)))) rB) (.cons (.ret (.v 6)) .nil)) [some (.int c),some (.int (m:Int)),some (.ref s),some (.ref l),some (.ref cl),some (.ref f),some (.ref h.length),none,none,none,none,none,none,none,none,none,none] (h++[.lst []]):=by
  simp only[p7];exact seq (by simp_arith[y9])
 rw[i6 hF rfl]
 show∃rs:List Ru,_/\_/\_/\gcR 2 h (K2 (exs ct (b4 ct F (k+1)) p7.body [some (.int c),some (.int (m:Int)),some (.ref s),some (.ref l),some (.ref cl),some (.ref f),none,none,none,none,none,none,none,none,none,none,none] h))=_
 rw[st]
 clear st
 generalize h++[Cell.lst []]=g0 at l1 gW0 pf0;obtain⟨M,hM⟩:=D3 (ct:=ct) (k:=k) (c:=c) (j:=4) (h:=g0) f202 (by decide)
 obtain⟨ns,nk,hN⟩:=Z4 (ct:=ct) (k:=k) (c:=M) (m:=m) (h:=g0) f203 hm
 have gW:(g0++[Cell.lst (ns.map D.str)])[h.length]? =some (.lst []):=b5 gW0
 have gN:(g0++[Cell.lst (ns.map D.str)])[h.length+1]? =some (.lst (ns.map .str)):=by rw[←l1];exact b6
 have pf:Pf h (g0++[Cell.lst (ns.map D.str)]):=pf0.app _
 rw[l1] at hN;generalize g0++[Cell.lst (ns.map D.str)]=g at gN gW pf hN;have nl:=nk.len
 obtain⟨env',g',e1,rs,e7,e8,e9,e10,e11,e12,e13,e14,e15,e16,rfl,q2,q3,q4,q5,q6⟩:=B9 (g:=[(h.length+1,.lst (ns.map .str))]) (p:=.tp (.cons (.nm 7) (.cons (.nm 8) .nil))) (body:=exs ct (b4 ct F (k+1)) rB) (fun j env hh=>∃rs:List Ru,∃e7 e8 e9 e10 e11 e12 e13 e14 e15 e16,env=[some (.int c),some (.int (m:Int)),some (.ref s),some (.ref l),some (.ref cl),some (.ref f),some (.ref h.length),e7,e8,e9,e10,e11,e12,e13,e14,e15,e16]/\Pf h hh/\hh[h.length+1]? =some (.lst (ns.map .str))/\hh[h.length]? =some (.lst (rs.map ruD))/\rs.map (·.t)=ns.take j/\∀r∈rs,RuOk sh cs fe r) (fun j env gg hP=>by
  obtain⟨_,_,_,_,_,_,_,_,_,_,_,_,_,h3,_⟩:=hP;simp[gOk,h3]) (B8 0 (ns.map .str)) 0 [some (.int c),some (.int (m:Int)),some (.ref s),some (.ref l),some (.ref cl),some (.ref f),some (.ref h.length),none,none,none,none,none,none,none,none,none,none] g (fun j x env hg hx hP=>by
  obtain⟨rs,e7,e8,e9,e10,e11,e12,e13,e14,e15,e16,rfl,p1,p2,p3,p4,p5⟩:=hP;obtain⟨d,hd,rfl⟩:=a1r hx
  have hj:j<ns.length:=by simpa using(ac.mp hd).1
  rw[aj,af hj] at hd
  obtain rfl:D.str ns[j]=d:=au hd;rw[ay] at p4⊢
  have ll:rs.length<=1000:=by
   have:=congrArg List.length p4
   rw[aa,aG] at this;omega
  obtain⟨r,x9,x10,x11,x12,x13,x14,x15,x16,t,t1,t2,t3⟩:=a8E (ct:=ct) (k:=k) (c:=c) (many:=.int (m:Int)) f202 f210 (T.pf p1) (p1.at hf) f1 (nk.ok _ (bc hj)) (show j<=100 by omega) p3 ll e9 e10 e11 e12 e13 e14 e15 e16
  refine⟨_,_,_,rfl,t3,rs++[r],_,_,_,_,_,_,_,_,_,_,rfl,(p1.app _).set (ai _),b7 (by omega) (b5 p2),u7 (b5 p3),?_,fun y hy=>?_⟩
  · rw[al,p4,take_succ_eq_append_getElem hj,←t2];rfl
  · rcases aF.mp hy with hy|hy
    · exact p5 y hy
    · rw[aI.mp hy];exact t1) ⟨[],none,none,none,none,none,none,none,none,none,none,rfl,pf,gN,gW,rfl,fun _ h=>nomatch h⟩
 rw[a0h,aa,ay,aS] at q5
 have ln:rs.length=m:=by rw[←nk.len,←q5,aa]
 refine⟨rs,ln,by rw[q5];exact nk.nd,q6,?_⟩
 rw[seq (env':=[some (.int c),some (.int (m:Int)),some (.ref s),some (.ref l),some (.ref cl),some (.ref f),some (.ref h.length),e7,e8,e9,e10,e11,e12,e13,e14,e15,e16]) (h':=g') (by simp_arith[hM,hN,a1s,gN,e1])]
 simp_arith[];exact a7g q2 q4 (ai _) (b1m _)
end
structure HL where
 sh:List (Str×Nat)
 mr:List Mk
 pt:List Pt
 ls:List Lt
 gp:List Str
 cs:List Cs
 fe:List (Str×Bool)
 ru:List Ru
structure HLok(H:HL):Prop where
 sh:Shs H.sh
 mr:(H.mr.map (·.n)).Sublist (H.sh.map (·.1))
 mko:∀m∈H.mr,a0F m.s/\a0n m.a/\a0n m.b
 pt:(H.pt.map ptK).Nodup
 ptl:H.pt.length<=100
 pto:∀p∈H.pt,p.n∈H.sh.map (·.1)/\a0F p.s/\a0n p.a
 ls:1<=H.ls.length/\H.ls.length<=6
 lsn:(H.ls.map (·.n)).Nodup
 lso:∀l∈H.ls,LtOk H.sh l
 gp:H.gp.Sublist (H.ls.map (·.n))
 cs:1<=H.cs.length/\H.cs.length<=9
 csn:(H.cs.map (·.n)).Nodup
 cso:∀c∈H.cs,CsOk H.sh c
 fe:1<=H.fe.length/\H.fe.length<=3
 fen:Nms (H.fe.map (·.1)) H.fe.length
 rul:H.ru.length<=26
 run:(H.ru.map (·.t)).Nodup
 ruo:∀r∈H.ru,RuOk H.sh H.cs H.fe r
structure HAt(H:HL)(g:AH)(a b c d e f i j:Nat):Prop where
 sh:g[a]? =some (.lst (shD H.sh))
 mr:g[b]? =some (.lst (H.mr.map mkD))
 pt:g[c]? =some (.lst (H.pt.map ptD))
 ls:g[d]? =some (.lst (H.ls.map ltD))
 gp:g[e]? =some (.lst (H.gp.map .str))
 cs:g[f]? =some (.lst (H.cs.map csD))
 fe:g[i]? =some (.lst (H.fe.map feD))
 ru:g[j]? =some (.lst (H.ru.map ruD))
def feF(M:Nat)(x:D):D:=match x with
 |.tup [.int j,n]=>(match n with
  |.str n=>feD (n,decide ((0:Int)<((M/(j.toNat+5)%4:Nat):Int)))
  |_=>.non)
 |_=>.non
theorem b1u(M:Nat):∀(ns:List Str) (i:Nat),∃fe:List (Str×Bool),(B8 i (ns.map .str)).map (feF M)=fe.map feD/\fe.map (·.1)=ns
 |[],_=>⟨[],rfl,rfl⟩
 |n::ns,i=>by
  obtain⟨fe,h1,h2⟩:=b1u M ns (i+1);refine⟨(n,decide ((0:Int)<((M/(((i:Nat):Int).toNat+5)%4:Nat):Int)))::fe,?_,by rw[map_cons,h2]⟩
  rw[map_cons,B8,map_cons,h1];rfl
noncomputable def gpB(M:Nat)(x:D):Bool:=match x with
 |.tup [.int j,_]=>decide (((M/(7*j.toNat+9)%4:Nat):Int)=0)
 |_=>false
noncomputable def gpF(x:D):D:=match x with
 |.tup [_,.tup (n::_)]=>n
 |_=>.non
theorem b1d(M:Nat):∀(ls:List Lt) (i:Nat),∃gp:List Str,((B8 i (ls.map ltD)).filter (gpB M)).map gpF=gp.map .str/\gp.Sublist (ls.map (·.n))
 |[],_=>⟨[],rfl,.slnil⟩
 | l::ls,i=>by
  obtain⟨gp,h1,h2⟩:=b1d M ls (i+1);rw[map_cons,B8]
  cases hb:gpB M (.tup [.int (i:Nat),ltD l]) with
  |true=>
   refine⟨l.n::gp,?_,by rw[map_cons];exact h2.cons_cons _⟩
   rw[List.filter_cons_of_pos hb,map_cons,h1];rfl
  |false=>
   refine⟨gp,?_,by rw[map_cons];exact h2.cons _⟩
   rw[List.filter_cons_of_neg (by rw[hb];exact ba),h1]
section
variable{ct:CT}{F:Nat->Option Fn}
theorem b3w{d:Nat}(h4:env[4]? =some (some (.ref d)))(h6:env[6]? =some (some (.int (M:Int))))(hd:g[d]? =some (.lst (ls.map ltD)))(hl:ls.length<=1000):∃gp:List Str,gp.Sublist (ls.map (·.n))/\ev ct c gpE env g=.ok (.ref g.length) (g++[.lst (gp.map .str)]):=by
 obtain⟨gp,g1,g2⟩:=b1d M ls 0;refine⟨gp,g2,?_⟩
 unfold gpE
 rw[F7 (l:=B8 0 (ls.map ltD)) (g:=[(d,.lst (ls.map ltD))]) (h1:=g) (by simp_arith[h4,a1s,hd]) (by simp[gOk,hd]) (gpB M) gpF (fun x=>match x with|.tup [a,b]=>[some a,some b,some (.int (M:Int))]|_=>[]) (fun x hx=>by
  obtain⟨j,hj⟩:=mem_iff_getElem?.mp hx;obtain⟨y,hy,rfl⟩:=a1r hj
  have hj':j<ls.length:=by simpa using(ac.mp hy).1
  rw[aj,af hj'] at hy
  obtain rfl:ltD ls[j]=y:=au hy;rw[ay]
  have m7:N2 g (.int 7) (.int (j:Int))=.ok (.int ((7*j:Nat):Int)) g:=by rw[L5 (by omega)];congr 2
  have a9:((7*j:Nat):Int)+9=((7*j+9:Nat):Int):=by omega
  have m4:∀a:Nat,u9 g (.int (a:Int)) (.int 4)=.ok (.int ((a%4:Nat):Int)) g:=fun a=>D9 4 (by decide)
  refine⟨by simp only[D6,O3,A9,map_cons,map_nil,h6,M4];rfl,?_,fun _=>?_⟩
  · simp_arith[op2,m7,n5,a9,J7 (7*j+9) (by omega) (by omega),m4,C0,eqS,gpB,Int.toNat_natCast]
  · unfold ltD;simp_arith[a3w,gpF]) (by rw[a0h,aa];show _<=16777216;omega),g1]
theorem b1t{k:Nat}(f203:F 203=some m8)(h6:env[6]? =some (some (.int (M:Int)))):∃(fe:List (Str×Bool)) (t:Cell),(1<=fe.length/\fe.length<=3)/\Nms (fe.map (·.1)) fe.length/\ev ct (b4 ct F (k+1)) feE env g=.ok (.ref (g.length+1)) (g++[t]++[.lst (fe.map feD)]):=by
 have d3:w8 g (.int (M:Int)) (.int 3)=.ok (.int ((M/3:Nat):Int)) g:=J7 3 (by decide) (by decide)
 have m3:u9 g (.int (M:Int)) (.int 3)=.ok (.int ((M%3:Nat):Int)) g:=D9 3 (by decide)
 have a1:(1:Int)+((M%3:Nat):Int)=((1+M%3:Nat):Int):=by omega
 have l3:M%3<3:=Nat.mod_lt _ (by decide)
 obtain⟨ns,nk,hN⟩:=Z4 (ct:=ct) (k:=k) (c:=M/3) (m:=1+M%3) (h:=g) f203 (by omega)
 obtain⟨fe,h1,h2⟩:=b1u M ns 0
 have fl:fe.length=1+M%3:=by rw[←nk.len,←h2,aa]
 refine⟨fe,.lst (ns.map .str),by omega,by rw[h2,fl];exact nk,?_⟩
 have lg:(g++[Cell.lst (ns.map D.str)]).length=g.length+1:=by simp
 unfold feE
 rw[p8 (l:=B8 0 (ns.map .str)) (g:=[(g.length,.lst (ns.map .str))]) (h1:=g++[.lst (ns.map .str)]) (by simp_arith[h6,op2,d3,m3,n5,a1,hN,a1s,b6]) (by simp[gOk]) (feF M) (fun x=>match x with|.tup [a,b]=>[some a,some b,some (.int (M:Int))]|_=>[]) (fun x hx=>by
  obtain⟨j,hj⟩:=mem_iff_getElem?.mp hx;obtain⟨y,hy,rfl⟩:=a1r hj
  have hj':j<ns.length:=by simpa using(ac.mp hy).1
  rw[aj,af hj'] at hy
  obtain rfl:D.str ns[j]=y:=au hy;rw[ay];have jl:=nk.len
  have a5:((j:Nat):Int)+5=((j+5:Nat):Int):=by omega
  have m4:∀(a:Nat) h,u9 h (.int (a:Int)) (.int 4)=.ok (.int ((a%4:Nat):Int)) h:=fun a h=>D9 4 (by decide)
  refine⟨by simp only[D6,O3,A9,map_cons,map_nil,h6,M4];rfl,?_⟩
  simp_arith[op2,n5,a5,J7 (j+5) (by omega) (by omega),m4,E6,feF,feD,Int.toNat_natCast]) (by rw[a0h,aa,nk.len];show _<=16777216;omega),h1,lg]
variable(f201:F 201=some C6)(f202:F 202=some o5)(f203:F 203=some m8)(f204:F 204=some x5)(f205:F 205=some u8)(f206:F 206=some z3)(f207:F 207=some y7)(f208:F 208=some v5)(f209:F 209=some v7)(f210:F 210=some w5)(f211:F 211=some p7)
include f201 f202 f203 f204 f205 f206 f207 f208 f209 f210 f211
theorem b3q{k m:Nat}(hF:F 212=some F5)(hr:h[n]? =some (.rol (ns.map .int)))(hm:m<=26):
 ∃H g a b c d e f i j,HLok H/\H.ru.length=m/\Pf h g/\HAt H g a b c d e f i j/\b4 ct F (k+3) 212 [.ref n,.int (m:Int)] h=.ok (.tup [.ref a,.ref b,.ref c,.ref d,.ref e,.ref f,.ref i,.ref j]) g:=by
 obtain⟨c0,hc0⟩:=Y3 (ct:=ct) (k:=k+1) (j:=0) f201 hr;obtain⟨sh,s1,s2⟩:=a8B (ct:=ct) (k:=k) (c:=c0) (h:=h) f202 f203 f204
 have P1:Pf h (h++[.lst (shD sh)]):=(Pf.refl h).app _
 have A1:(h++[Cell.lst (shD sh)])[h.length]? =some (.lst (shD sh)):=b6
 have st1:exs ct (b4 ct F (k+2)) (.cons (.set 2 (.call 201 (.cons (.v 0) (.cons (.k (.int (0))) .nil)))) (.cons (.set 3 (.call 204 (.cons (.v 2) .nil))) hB2)) [some (.ref n),some (.int (m:Int)),none,none,none,none,none,none,none,none,none,none] h=exs ct (b4 ct F (k+2)) hB2 [some (.ref n),some (.int (m:Int)),some (.int c0),some (.ref h.length),none,none,none,none,none,none,none,none] (h++[.lst (shD sh)]):=by
  rw[seq (env':=[some (.ref n),some (.int (m:Int)),some (.int c0),none,none,none,none,none,none,none,none,none]) (h':=h) (by simp_arith[show b4 ct F (k+2) 201 [.ref n,.int 0] h=.ok (.int c0) h from hc0])]
  exact seq (by simp_arith[s2])
 generalize h++[Cell.lst (shD sh)]=g1 at P1 A1 st1;obtain⟨c1,hc1⟩:=Y3 (ct:=ct) (k:=k+1) (j:=1) f201 (P1.at hr);obtain⟨ls,l1,l2,l3,l4⟩:=a6Y (ct:=ct) (k:=k) (c:=c1) (h:=g1) f202 f203 f208 s1 A1
 have P2:Pf h (g1++[.lst (ls.map ltD)]):=P1.app _
 have A2:=b5 (g:=[.lst (ls.map ltD)]) A1
 have B2:(g1++[Cell.lst (ls.map ltD)])[g1.length]? =some (.lst (ls.map ltD)):=b6
 generalize hd:g1.length=d at l4 B2;generalize hg2:g1++[Cell.lst (ls.map ltD)]=g2 at P2 A2 B2 l4;obtain⟨c2,hc2⟩:=Y3 (ct:=ct) (k:=k+1) (j:=2) f201 (P2.at hr);obtain⟨cs,k1,k2,k3,k4⟩:=a7q (ct:=ct) (k:=k) (c:=c2) (h:=g2) f202 f203 f209 s1 A2
 have P3:Pf h (g2++[.lst (cs.map csD)]):=P2.app _
 have A3:=b5 (g:=[.lst (cs.map csD)]) A2;have B3:=b5 (g:=[.lst (cs.map csD)]) B2
 have C3:(g2++[Cell.lst (cs.map csD)])[g2.length]? =some (.lst (cs.map csD)):=b6
 generalize hf:g2.length=f at k4 C3;generalize hg3:g2++[Cell.lst (cs.map csD)]=g3 at P3 A3 B3 C3 k4;obtain⟨c2',hc2'⟩:=Y3 (ct:=ct) (k:=k+1) (j:=2) f201 (P3.at hr);obtain⟨M,hM⟩:=D3 (ct:=ct) (k:=k+1) (c:=c2') (j:=5) (h:=g3) f202 (by decide)
 obtain⟨fe,t,f1,f2,f3⟩:=b1t (ct:=ct) (k:=k+1) (M:=M) (env:=[some (.ref n),some (.int (m:Int)),some (.int c0),some (.ref h.length),some (.ref d),some (.ref f),some (.int (M:Int)),none,none,none,none,none]) (g:=g3) f203 rfl
 have lg:(g3++[t]).length=g3.length+1:=by simp
 have P4:Pf h (g3++[t]++[.lst (fe.map feD)]):=(P3.app _).app _
 have A4:=b5 (g:=[.lst (fe.map feD)]) (b5 (g:=[t]) A3);have B4:=b5 (g:=[.lst (fe.map feD)]) (b5 (g:=[t]) B3);have C4:=b5 (g:=[.lst (fe.map feD)]) (b5 (g:=[t]) C3)
 have D4:(g3++[t]++[Cell.lst (fe.map feD)])[g3.length+1]? =some (.lst (fe.map feD)):=by rw[←lg];exact b6
 generalize hi:g3.length+1=i at f3 D4;generalize hg4:g3++[t]++[Cell.lst (fe.map feD)]=g4 at P4 A4 B4 C4 D4 f3;obtain⟨c3,hc3⟩:=Y3 (ct:=ct) (k:=k+1) (j:=3) f201 (P4.at hr);obtain⟨rs,r1,r2,r3,r4⟩:=a9L (ct:=ct) (k:=k) (c:=c3) (m:=m) (h:=g4) f202 f210 f203 f211 (T:=⟨A4,B4,C4,s1.lo,l1.1,k1.1,l3,k3⟩) D4 f1.1 hm
 have P5:Pf h (g4++[.lst (rs.map ruD)]):=P4.app _
 have A5:=b5 (g:=[.lst (rs.map ruD)]) A4;have B5:=b5 (g:=[.lst (rs.map ruD)]) B4;have C5:=b5 (g:=[.lst (rs.map ruD)]) C4;have D5:=b5 (g:=[.lst (rs.map ruD)]) D4
 have E5:(g4++[Cell.lst (rs.map ruD)])[g4.length]? =some (.lst (rs.map ruD)):=b6
 generalize hj:g4.length=j at r4 E5;generalize hg5:g4++[Cell.lst (rs.map ruD)]=g5 at P5 A5 B5 C5 D5 E5 r4;obtain⟨gp,y1,y2⟩:=b3w (ct:=ct) (c:=b4 ct F (k+2)) (M:=M) (env:=[some (.ref n),some (.int (m:Int)),some (.int c0),some (.ref h.length),some (.ref d),some (.ref f),some (.int (M:Int)),some (.ref i),some (.ref j),none,none,none]) (g:=g5) rfl rfl B5 (by omega)
 have P6:Pf h (g5++[.lst (gp.map .str)]):=P5.app _
 have A6:=b5 (g:=[.lst (gp.map .str)]) A5
 have X6:Pf g5 (g5++[.lst (gp.map .str)]):=(Pf.refl _).app _
 have G6:(g5++[Cell.lst (gp.map .str)])[g5.length]? =some (.lst (gp.map .str)):=b6
 generalize he:g5.length=e at y2 G6;generalize hg6:g5++[Cell.lst (gp.map .str)]=g6 at P6 A6 X6 G6 y2;obtain⟨ms,m1,m2,m3⟩:=b0F (ct:=ct) (k:=k) (c:=c0) (h:=g6) f202 f205 f206 s1 A6
 have P7:Pf h (g6++[.lst (ms.map mkD)]):=P6.app _
 have A7:=b5 (g:=[.lst (ms.map mkD)]) A6
 have X7:Pf g6 (g6++[.lst (ms.map mkD)]):=(Pf.refl _).app _
 have M7:(g6++[Cell.lst (ms.map mkD)])[g6.length]? =some (.lst (ms.map mkD)):=b6
 generalize hb:g6.length=b at m3 M7;generalize hg7:g6++[Cell.lst (ms.map mkD)]=g7 at P7 A7 X7 M7 m3;obtain⟨ps,p1,p2,p3,p4⟩:=a8K (ct:=ct) (k:=k) (c:=c0) (h:=g7) f202 f205 f207 s1 A7
 have P8:Pf h (g7++[.lst (ps.map ptD)]):=P7.app _
 have X8:Pf g7 (g7++[.lst (ps.map ptD)]):=(Pf.refl _).app _
 have N8:(g7++[Cell.lst (ps.map ptD)])[g7.length]? =some (.lst (ps.map ptD)):=b6
 generalize hc:g7.length=c at p4 N8;generalize hg8:g7++[Cell.lst (ps.map ptD)]=g8 at P8 X8 N8 p4;have X58:=(X6.trans X7).trans X8;refine⟨⟨sh,ms,ps,ls,gp,cs,fe,rs⟩,g8,h.length,b,c,d,e,f,i,j,⟨s1,m1,m2,p1,p2,p3,l1,l2,l3,y1,k1,k2,k3,f1,f2,by show rs.length<=26;omega,r2,r3⟩,r1,P8,⟨X58.at A5,X8.at M7,N8,X58.at B5,(X7.trans X8).at G6,X58.at C5,X58.at D5,X58.at E5⟩,?_⟩
 rw[i6 hF rfl];simp only[F5];rw[gc0]
 show K2 (exs ct (b4 ct F (k+2)) (.cons (.set 2 (.call 201 (.cons (.v 0) (.cons (.k (.int (0))) .nil)))) (.cons (.set 3 (.call 204 (.cons (.v 2) .nil))) hB2)) [some (.ref n),some (.int (m:Int)),none,none,none,none,none,none,none,none,none,none] h)=_
 rw[st1];unfold hB2;rw[seq (env':=[some (.ref n),some (.int (m:Int)),some (.int c0),some (.ref h.length),some (.ref d),none,none,none,none,none,none,none]) (h':=g2) (by simp_arith[show b4 ct F (k+2) 201 [.ref n,.int 1] g1=.ok (.int c1) g1 from hc1,l4])]
 rw[seq (env':=[some (.ref n),some (.int (m:Int)),some (.int c0),some (.ref h.length),some (.ref d),some (.ref f),none,none,none,none,none,none]) (h':=g3) (by simp_arith[show b4 ct F (k+2) 201 [.ref n,.int 2] g2=.ok (.int c2) g2 from hc2,k4])]
 rw[seq (env':=[some (.ref n),some (.int (m:Int)),some (.int c0),some (.ref h.length),some (.ref d),some (.ref f),some (.int (M:Int)),none,none,none,none,none]) (h':=g3) (by simp_arith[show b4 ct F (k+2) 201 [.ref n,.int 2] g3=.ok (.int c2') g3 from hc2',hM])]
 unfold hB3;rw[seq (env':=[some (.ref n),some (.int (m:Int)),some (.int c0),some (.ref h.length),some (.ref d),some (.ref f),some (.int (M:Int)),some (.ref i),none,none,none,none]) (h':=g4) (by simp_arith[f3])]
 rw[seq (env':=[some (.ref n),some (.int (m:Int)),some (.int c0),some (.ref h.length),some (.ref d),some (.ref f),some (.int (M:Int)),some (.ref i),some (.ref j),none,none,none]) (h':=g5) (by simp_arith[show b4 ct F (k+2) 201 [.ref n,.int 3] g4=.ok (.int c3) g4 from hc3,r4])]
 unfold hB4;rw[seq (env':=[some (.ref n),some (.int (m:Int)),some (.int c0),some (.ref h.length),some (.ref d),some (.ref f),some (.int (M:Int)),some (.ref i),some (.ref j),some (.ref e),none,none]) (h':=g6) (by simp_arith[y2])]
 rw[seq (env':=[some (.ref n),some (.int (m:Int)),some (.int c0),some (.ref h.length),some (.ref d),some (.ref f),some (.int (M:Int)),some (.ref i),some (.ref j),some (.ref e),some (.ref b),none]) (h':=g7) (by simp_arith[m3])]
 rw[seq (env':=[some (.ref n),some (.int (m:Int)),some (.int c0),some (.ref h.length),some (.ref d),some (.ref f),some (.int (M:Int)),some (.ref i),some (.ref j),some (.ref e),some (.ref b),some (.ref c)]) (h':=g8) (by simp_arith[p4])]
 have s8:(8<=SL)=True:=eq_true (by decide)
 simp_arith[s8]
end
noncomputable def num(i:Int):Str:=Str.ofString (toString i)
def ln(ws:List Str):Str:=Txt.join " " ws
theorem a6v(ws:List Str):cd (ln ws)=jn 32 (ws.map cd):=by
 show cd (Builtin.Str.glued " " _)=_
 rw[StrLaws.glued_eq_join];exact a2q 32 ws
theorem a3U(h:cd x=jn 32 (ws.map cd)):x=ln ws:=V0 (h.trans (a6v ws).symm)
def U2(p:Str×Nat):List Str:=["shape",p.1,num p.2]
def L0(p:Int×Int):List Str:=[num p.1,num p.2]
def V1(m:Mk):List Str:=["mark",m.n,m.s,num m.a.1,num m.a.2,num m.b.1,num m.b.2]
def Y6(p:Pt):List Str:=["point",p.n,p.s,num p.a.1,num p.a.2]
noncomputable def M1(l:Lt):List Str:="letter"::l.n::l.j::l.w::l.fs
def a5B(n:Str):List Str:=["gap",n]
noncomputable def U3(c:Cs):List Str:="class"::c.n::c.fs
noncomputable def a8P(b:Bool):Str:=if b then "on" else "off"
def a1N(p:Str×Bool):List Str:=["feature",p.1,a8P p.2]
noncomputable def Q6(r:Ru):List Str:="rule"::r.t::r.f::(r.b++("/":Str)::(r.c++("/":Str)::(r.a++(">":Str)::r.o)))
def L3(H:HL):List (List Str):=H.sh.map U2++H.mr.map V1++H.pt.map Y6++H.ls.map M1++H.gp.map a5B++H.cs.map U3++H.fe.map a1N++H.ru.map Q6
theorem a2l{i:Int}(h: -99999<=i/\i<=99999):(num i).length<=7:=by
 unfold num;rw[ofString_length];exact int_text_length_le10 (a:=i) (k:=6) (by decide) (by omega)
theorem a6I{i:Int}(hi: -99999<=i/\i<=99999):biD .str h [.int i]=.ok (.str (num i)) h:=by
 simp only[biD];rw[av]
 · rfl
 · by_cases h0:i.natAbs=0
   · rw[h0];decide
   · exact(Nat.log2_lt h0).mpr (az (show i.natAbs<2^17 by omega) (Nat.pow_le_pow_right (by decide) (by decide)))
theorem D8:(Str.ofString " ").length=1:=rfl
theorem a4u{b:Nat}(h:∀w∈ws,w.length<=b):(ws.map (·.length)).sum<=ws.length*b:=by
 induction ws with
 |nil=>simp
 |cons x r ih=>
  rw[map_cons,List.sum_cons,length_cons]
  have:=ih fun w hw=>h w (.tail _ hw)
  have:=h x (.head _)
  rw[Nat.add_mul];omega
theorem b0L{b:Nat}(h:∀w∈ws,w.length<=b):(ln ws).length<=ws.length*(b+1):=by
 show(Builtin.Str.glued " " ws).length<=_
 rw[StrLaws.glued_eq_join];refine aK (StrLaws.join_length_le _ _) ?_
 have:=a4u h
 rw[D8,Nat.mul_add];omega
theorem b4o(h:∀w∈ws,w.length<=20)(hl:ws.length<=100):JoinOk " " ws=true:=by
 have:=a4u h
 exact a4U (by rw[D8];omega)
variable{xs:List Str}{ys:List Str}{p:Pat}{nb:Nat}
section
variable{ct:CT}{F:Nat->Option Fn}
theorem a2L{k:Nat}{p:Int×Int}(hF:F 213=some y8)(hp:a0n p):b4 ct F (k+1) 213 [spD p] h=.ok (.str (ln (L0 p))) h:=by
 rw[i6 hF rfl];simp only[y8]
 have i0:ixD h (spD p) (.int 0)=.ok (.int p.1) h:=ix_tup (i:=0) rfl
 have i1:ixD h (spD p) (.int 1)=.ok (.int p.2) h:=ix_tup (i:=1) rfl
 have l1:=a2l hp.1;have l2:=a2l hp.2;simp_arith[i0,i1,a6I hp.1,a6I hp.2,op2,o0 (h:=h) (x:=num p.1) (y:=" ") (by rw[D8];omega),o0 (h:=h) (x:=num p.1++(" ":Str)) (y:=num p.2) (by rw[k7,D8];omega)]
 rw[show(num p.1++(" ":Str))++num p.2=ln (L0 p) from a3U (by rw[E1,E1,show cd (Str.ofString " ")=[32] from rfl];show cd (num p.1)++[32]++cd (num p.2)=cd (num p.1)++32::cd (num p.2);simp)]
 exact x3 rfl
theorem a3t{a b:Nat}{xs ys:List D}(h1:g[a]? =some (.lst xs))(h2:g[b]? =some (.lst ys))(hl:xs.length+ys.length<=100000):V8 g (.ref a) (.ref b)=.ok (.ref g.length) (g++[.lst (xs++ys)]):=a1y h1 h2 hl
theorem b0N{xs:List D}:biD .list h [.tup xs]=.ok (.ref h.length) (h++[.lst xs]):=rfl
theorem b3i(h1:g[n]? =some (.lst (ts.map .str)))(jo:JoinOk sep ts=true):mtD .join g (.str sep) [.ref n]=.ok (.str (Txt.join sep ts)) g:=by
 have:rdL g n=some (ts.map .str):=by unfold rdL;rw[h1]
 simp only[mtD,this,V4];rw[av jo]
theorem a6r{a:E}{fr:List Nat}{l:List α}(rp:α->D)(f:α->Str)(envf:α->o9)(ha:ev ct c a env h=.ok (.ref s) h)(hs:h[s]? =some (.lst (l.map rp)))(hl:l.length<=1000)
 (hx:∀x∈l,D6 p (rp x) (A9 nb fr env)=some (envf x)/\∀h,∃t,ev ct c e (envf x) h=.ok (.str (f x)) (h++t)):∃t,ev ct c (.comp p (.seq a) nb fr .yes e) env h=.ok (.ref (h++t).length) (h++t++[.lst ((l.map f).map .str)]):=by
 have key:∀(l':List α) (acc:List D) (h':AH),(∀t,gOk [(s,.lst (l.map rp))] (h'++t)=true)->(∀x∈l',D6 p (rp x) (A9 nb fr env)=some (envf x)/\∀h,∃t,ev ct c e (envf x) h=.ok (.str (f x)) (h++t))->acc.length+l'.length<=SL->∃t,N6 [(s,.lst (l.map rp))] p (tst ct c .yes) (ev ct c e) (A9 nb fr env) (l'.map rp) acc h'=.ok (acc++(l'.map f).map .str) (h'++t):=by
  intro l'
  induction l' with
  |nil=>
   intro acc h' g1 _ _;have g0:=g1 [];rw[aQ] at g0;exact⟨[],by rw[map_nil,N6,av g0];simp⟩
  |cons x r ih=>
   intro acc h' g1 hx' hl';have g0:=g1 [];rw[aQ] at g0;obtain⟨b1,b2⟩:=hx' x (.head _);obtain⟨t,b2⟩:=b2 h';rw[length_cons] at hl';obtain⟨u,ih⟩:=ih (acc++[.str (f x)]) (h'++t) (fun u=>by rw[ax];exact g1 _) (fun y hy=>hx' y (.tail _ hy)) (by rw[am];simp;omega)
   refine⟨t++u,?_⟩
   rw[map_cons,N6,av g0,b1]
   simp only
   rw[a7w,b8,av rfl,b2,b8,av (by omega),ih]
   simp
 obtain⟨t,kt⟩:=key l [] h (fun t=>by simp[gOk,b5 (g:=t) hs]) hx (by show 0+_<=16777216;omega)
 refine⟨t,?_⟩
 rw[a2p (x:=(l.map rp,[(s,.lst (l.map rp))])) (h1:=h) (h2:=h++t) (ds:=(l.map f).map .str) (by rw[M6,ha,b8];simp only[L4,hs]) (by rw[kt,nil_append])]
end
section
variable{ct:CT}{F:Nat->Option Fn}
def EvL(ct:CT)(c:CF)(e:E)(env:o9)(h:AH)(xs:List Str):Prop:=∃n t,ev ct c e env h=.ok (.ref n) (h++t)/\(h++t)[n]? =some (.lst (xs.map .str))/\(h.length<=n∨t=[])
theorem Q1{a b:E}(A:EvL ct c a env h xs)(B:∀t,EvL ct c b env (h++t) ys)(hl:xs.length+ys.length<=100000):EvL ct c (.bin .add a b) env h (xs++ys):=by
 obtain⟨n,t,a1,a2,_⟩:=A;obtain⟨m,u,b1,b2,_⟩:=B t;refine⟨(h++t++u).length,t++u++[.lst ((xs++ys).map .str)],?_,?_,.inl (by simp[am,Nat.add_assoc])⟩
 · simp_arith[a1,b1,op2,a3t (b5 (g:=u) a2) b2 (by rw[aa,aa];exact hl)]
   simp
 · rw[show h++(t++u++[Cell.lst ((xs++ys).map .str)])=h++t++u++[.lst ((xs++ys).map .str)] by simp]
   exact b6
theorem a0A{es:Es}(e:evs ct c es env h=.ok (xs.map .str) h)(hl:xs.length<=1000):EvL ct c (.lst es) env h xs:=by
 refine⟨h.length,[.lst (xs.map .str)],?_,b6,.inl (ai _)⟩
 rw[b1A,e,b8,av (by rw[aa];show _<=16777216;omega)]
 rfl
theorem W1{a:E}(e:ev ct c a env h=.ok (.tup (xs.map .str)) h):EvL ct c (.bi .list (.cons a .nil)) env h xs:=by
 refine⟨h.length,[.lst (xs.map .str)],?_,b6,.inl (ai _)⟩
 simp_arith[e,b0N]
theorem b8A(e:env[i]? =some (some (.ref n)))(hn:h[n]? =some (.lst (xs.map .str))):EvL ct c (.v i) env h xs:=by
 refine⟨n,[],?_,by rw[aQ];exact hn,.inr rfl⟩
 rw[aQ];simp_arith[e]
theorem a3d(A:EvL ct c e env h xs)(jo:JoinOk sep xs=true):∃t,ev ct c (.mt .join (.k (.str sep)) (.cons e .nil)) env h=.ok (.str (Txt.join sep xs)) (h++t):=by
 obtain⟨n,t,a1,a2,_⟩:=A;refine⟨t,?_⟩
 simp_arith[mtT,a1,b3i a2 jo]
theorem a9M{k:Nat}{r:Ru}(hF:F 214=some y0)(hl:(Q6 r).length<=100)(hw:∀w∈Q6 r,w.length<=20):b4 ct F (k+1) 214 [ruD r] h=.ok (.str (ln (Q6 r))) h:=by
 have i0:∀h,ixD h (ruD r) (.int 0)=.ok (.str r.t) h:=fun h=>ix_tup (i:=0) rfl
 have i1:∀h,ixD h (ruD r) (.int 1)=.ok (.str r.f) h:=fun h=>ix_tup (i:=1) rfl
 have i2:∀h,ixD h (ruD r) (.int 2)=.ok (.tup (r.b.map .str)) h:=fun h=>ix_tup (i:=2) rfl
 have i3:∀h,ixD h (ruD r) (.int 3)=.ok (.tup (r.c.map .str)) h:=fun h=>ix_tup (i:=3) rfl
 have i4:∀h,ixD h (ruD r) (.int 4)=.ok (.tup (r.a.map .str)) h:=fun h=>ix_tup (i:=4) rfl
 have i5:∀h,ixD h (ruD r) (.int 5)=.ok (.tup (r.o.map .str)) h:=fun h=>ix_tup (i:=5) rfl
 have ll:r.b.length+r.c.length+r.a.length+r.o.length<=100:=by
  unfold Q6 at hl;simp only[length_cons,am] at hl;omega
 rw[i6 hF rfl];simp only[y0]
 show gcR 1 h (K2 (exs ct (b4 ct F k) _ [some (ruD r),none] h))=_
 have A:=Q1 (Q1 (Q1 (a0A (ct:=ct) (c:=b4 ct F k) (es:=(.cons (.k (.str "rule")) (.cons (.ix (.v 0) (.k (.int (0)))) (.cons (.ix (.v 0) (.k (.int (1)))) .nil)))) (env:=[some (ruD r),none]) (h:=h) (xs:=["rule",r.t,r.f]) (by simp_arith[i0,i1]) (by show 3<=1000;decide)) (fun t=>W1 (a:=(.ix (.v 0) (.k (.int (2))))) (xs:=r.b) (by simp_arith[i2])) (by simp only[length_cons,length_nil];omega)) (fun t=>a0A (es:=(.cons (.k (.str "/")) .nil)) (xs:=["/"]) (by simp_arith[]) (by decide)) (by simp only[am,length_cons,length_nil];omega)) (fun t=>W1 (a:=(.ix (.v 0) (.k (.int (3))))) (xs:=r.c) (by simp_arith[i3])) (by simp only[am,length_cons,length_nil];omega)
 obtain⟨n,t,a1,a2,_⟩:=A;rw[seq (env':=[some (ruD r),some (.ref n)]) (h':=h++t) (by rw[a3b,a1,b8];rfl)]
 have B:=Q1 (Q1 (Q1 (Q1 (b8A (ct:=ct) (c:=b4 ct F k) (i:=1) (env:=[some (ruD r),some (.ref n)]) rfl a2) (fun t=>a0A (es:=(.cons (.k (.str "/")) .nil)) (xs:=["/"]) (by simp_arith[]) (by decide)) (by simp only[am,length_cons,length_nil];omega)) (fun t=>W1 (a:=(.ix (.v 0) (.k (.int (4))))) (xs:=r.a) (by simp_arith[i4])) (by simp only[am,length_cons,length_nil];omega)) (fun t=>a0A (es:=(.cons (.k (.str ">")) .nil)) (xs:=[">"]) (by simp_arith[]) (by decide)) (by simp only[am,length_cons,length_nil];omega)) (fun t=>W1 (a:=(.ix (.v 0) (.k (.int (5))))) (xs:=r.o) (by simp_arith[i5])) (by simp only[am,length_cons,length_nil];omega)
 have e:[("rule":Str),r.t,r.f]++r.b++[("/":Str)]++r.c++[("/":Str)]++r.a++[(">":Str)]++r.o=Q6 r:=by
  unfold Q6;simp
 rw[e] at B;obtain⟨u,b1⟩:=a3d B (b4o hw hl);rw[G5,a3c,b1,b8,b8]
 show gcR 1 h (.ok (.str (ln (Q6 r))) (h++t++u))=_
 rw[ax];exact gc1 rfl
end
theorem a0X(n:Nat):cd (num (n:Int))=(Nat.toDigits 10 n).map Char.toNat:=W.KIN.signs_num n
theorem b1a(n:Nat):n≠0->((Nat.toDigits 10 n).map Char.toNat).head?≠some 48:=by
 induction n using Nat.strongRecOn with
 |_ n ih=>
  intro h0
  by_cases h:n<10
  · rw[Nat.toDigits_of_lt_base h,map_cons,List.head?_cons,Nat.toNat_digitChar_of_lt_ten h]
    intro e
    have:=au e
    omega
  · rw[Nat.toDigits_of_base_le (by decide) (by omega),al]
    have hn:=ih (n/10) (by omega) (by omega)
    cases hd:Nat.toDigits 10 (n/10) with
    |nil=>exact absurd hd Nat.toDigits_ne_nil
    |cons a r=>rw[hd] at hn;exact hn
theorem a5f(n:Nat):(cd (num (n:Int))).all T2=true:=by
 rw[a0X];refine aX.mpr fun c hc=>?_
 obtain⟨d,hd,rfl⟩:=ak.mp hc
 have:=Nat.isDigit_of_mem_toDigits (by decide) (by decide) hd
 rw[a5g];unfold Char.isDigit at this;simp only[ae,decide_eq_true_eq] at this;exact⟨this.1,this.2⟩
theorem a2O(h:n<=99999):V9 (num (n:Int))=some (n:Int):=by
 have l5:(num (n:Int)).length<=5:=by
  rw[←o4,a0X,aa];exact(Nat.length_toDigits_le_iff (by decide) (by decide)).mpr (by omega)
 have l1:(num (n:Int)).length≠0:=by
  rw[←o4,a0X,aa];exact fun e=>Nat.toDigits_ne_nil (length_eq_zero_iff.mp e)
 unfold V9;rw[av (a5f n),aw,a0X,W.KIN.val_back];rintro(e|e|⟨e1,e2⟩)
 · exact l1 ((a8W _).mp e)
 · omega
 · rw[a0X] at e1
   by_cases h0:n=0
   · rw[h0] at e2;exact absurd e2 (by decide)
   · exact b1a n h0 e1
theorem a5m(m:Nat):cd (num (Int.negSucc m))=45::cd (num ((m+1:Nat):Int)):=by
 rw[a0X]
 show(Str.ofString ("-"++Nat.repr (m+1))).cps.toList=_
 rw[Str.ofString_eq_toList];simp[Nat.toList_repr]
theorem G3{i:Int}(h: -99999<=i/\i<=99999):a0H (num i)=some i:=by
 unfold a0H
 cases i with
 |ofNat n=>
  have h2:(n:Int)<=99999:=h.2
  rw[aw]
  · exact a2O (by omega)
  · intro e
    cases hc:cd (num (Int.ofNat n)) with
    |nil=>rw[hc] at e;cases e
    |cons c r=>
     rw[hc] at e;have e:=au e
     have:=a5f n
     rw[show cd (num (n:Int))=c::r from hc,all_cons,e] at this;rw[show T2 45=false from by decide+kernel] at this
     exact Bool.noConfusion this
 |negSucc m=>
  have h1:=h.1;rw[Int.negSucc_eq] at h1
  have t:tl (num (Int.negSucc m))=num ((m+1:Nat):Int):=V0 (by rw[a3i,a5m];rfl)
  rw[av (by rw[a5m];rfl),t,a2O (by omega)]
  simp only
  rw[aw (by omega)]
  congr 1
structure WOk(w:Str):Prop where
 l:w.length<=20
 p:w.length≠0
 c:∀c∈cd w,c≠32/\c≠10
theorem WOk.num{i:Int}(h: -99999<=i/\i<=99999):WOk (num i):=by
 have fg:∀n:Nat,∀c∈cd (EV.num (n:Int)),c≠32/\c≠10:=fun n c hc=>by
  have:=(a5g c).mp (aX.mp (a5f n) c hc)
  omega
 refine⟨by have:=a2l h;omega,?_,?_⟩
 · rw[←o4]
   cases i with
   |ofNat n=>
    show(cd (EV.num (n:Int))).length≠0
    rw[a0X,aa];exact fun e=>Nat.toDigits_ne_nil (length_eq_zero_iff.mp e)
   |negSucc m=>rw[a5m];exact Nat.succ_ne_zero _
 · cases i with
   |ofNat n=>exact fg n
   |negSucc m=>
    rw[a5m];intro c hc
    rcases aB.mp hc with rfl|hc
    · decide
    · exact fg _ c hc
theorem b2r{c:Nat}(h:O2 c=true):c≠32/\c≠10:=by
 unfold O2 at h;have h:=aq h
 have:∀c∈cd a1d,c≠32/\c≠10:=by decide+kernel
 exact this c h
theorem WOk.name{w:Str}(h:b9 w=true):WOk w:=by
 unfold b9 at h;simp only[ae,decide_eq_true_eq] at h;exact⟨by omega,by omega,fun c hc=>b2r (aX.mp h.2 c hc)⟩
theorem WOk.at{w:Str}(h:b9 w=true):WOk (("@":Str)++w):=by
 have n:=U5 h;have k:=WOk.name h;refine⟨by rw[k7,show(Str.ofString "@").length=1 from rfl];omega,by rw[k7,show(Str.ofString "@").length=1 from rfl];omega,fun c hc=>?_⟩
 rw[E1] at hc
 rcases aF.mp hc with hc|hc
 · have:c=64:=by simpa [show cd (Str.ofString "@")=[64] from by decide+kernel] using hc
   omega
 · exact k.c c hc
structure Row(ws:List Str):Prop where
 n:ws≠[]
 l:ws.length<=40
 w:∀w∈ws,WOk w
instance (w:Str):Decidable (w.length<=20/\w.length≠0/\∀c∈cd w,c≠32/\c≠10):=inferInstance
theorem WOk.k{w:Str}(h:w.length<=20/\w.length≠0/\∀c∈cd w,c≠32/\c≠10):WOk w:=⟨h.1,h.2.1,h.2.2⟩
theorem Row.nil:∀w∈([]:List Str),WOk w:=fun _ h=>nomatch h
theorem i8{r:List Str}(h:WOk a)(hr:∀w∈r,WOk w):∀w∈a::r,WOk w:=fun w hw=>by
 rcases aB.mp hw with rfl|hw
 · exact h
 · exact hr w hw
theorem a6S{a r:List Str}(h:∀w∈a,WOk w)(hr:∀w∈r,WOk w):∀w∈a++r,WOk w:=fun w hw=>by
 rcases aF.mp hw with hw|hw
 · exact h w hw
 · exact hr w hw
section
variable{H:HL}(K:HLok H)
include K
theorem G9{n:Str}(h:n∈H.sh.map (·.1)):b9 n=true:=by
 obtain⟨p,hp,rfl⟩:=ak.mp h;exact(K.sh.ok p hp).1
theorem a7z{s:Str}(h:a0F s):WOk s:=by
 rcases h with rfl|rfl<;>exact WOk.k (by decide+kernel)
theorem a4P{m:Mk}(h:m∈H.mr):m.n∈H.sh.map (·.1):=K.mr.subset (ak.mpr ⟨m,h,rfl⟩)
theorem a1p{f:Str}(h:f∈H.fe.map (·.1)):b9 f=true:=K.fen.ok f h
theorem b0U{i:Str}(h:a0p H.sh H.cs i):WOk i:=by
 rcases h with h|⟨c,hc,rfl⟩
 · exact WOk.name (G9 K h)
 · exact WOk.at (K.cso c hc).nm
theorem a3N{p:Str×Nat}(h:p∈H.sh):Row (U2 p):=by
 have k:=K.sh.ok p h;exact⟨cons_ne_nil _ _,Nat.le_of_ble_eq_true rfl,i8 (WOk.k (by decide+kernel)) (i8 (WOk.name k.1) (i8 (WOk.num (by have:=k.2;omega)) Row.nil))⟩
theorem a5M{m:Mk}(h:m∈H.mr):Row (V1 m):=by
 obtain⟨k1,k2,k3⟩:=K.mko m h;exact⟨cons_ne_nil _ _,Nat.le_of_ble_eq_true rfl,i8 (WOk.k (by decide+kernel)) (i8 (WOk.name (G9 K (a4P K h))) (i8 (a7z K k1) (i8 (WOk.num k2.1) (i8 (WOk.num k2.2) (i8 (WOk.num k3.1) (i8 (WOk.num k3.2) Row.nil))))))⟩
theorem a3O{p:Pt}(h:p∈H.pt):Row (Y6 p):=by
 obtain⟨k1,k2,k3⟩:=K.pto p h;exact⟨cons_ne_nil _ _,Nat.le_of_ble_eq_true rfl,i8 (WOk.k (by decide+kernel)) (i8 (WOk.name (G9 K k1)) (i8 (a7z K k2) (i8 (WOk.num k3.1) (i8 (WOk.num k3.2) Row.nil))))⟩
theorem a0O{l:Lt}(h:l∈H.ls):Row (M1 l):=by
 have k:=K.lso l h;have kl:=k.few;refine⟨cons_ne_nil _ _,by unfold M1;simp only[length_cons];omega,i8 (WOk.k (by decide+kernel)) (i8 (WOk.name k.nm) (i8 ?_ (i8 ?_ fun w hw=>WOk.name (G9 K (k.fs w hw)))))⟩
 · rcases k.js with e|e|e|e<;>rw[e]<;>exact WOk.k (by decide+kernel)
 · rcases k.ws with e|e|e<;>rw[e]<;>exact WOk.k (by decide+kernel)
theorem a5b{n:Str}(h:n∈H.gp):b9 n=true:=by
 obtain⟨l,hl,rfl⟩:=ak.mp (K.gp.subset h);exact(K.lso l hl).nm
theorem a7G{n:Str}(h:n∈H.gp):Row (a5B n):=⟨cons_ne_nil _ _,Nat.le_of_ble_eq_true rfl,i8 (WOk.k (by decide+kernel)) (i8 (WOk.name (a5b K h)) Row.nil)⟩
theorem a1D{c:Cs}(h:c∈H.cs):Row (U3 c):=by
 have k:=K.cso c h;have kl:=k.few;exact⟨cons_ne_nil _ _,by unfold U3;simp only[length_cons];omega,i8 (WOk.k (by decide+kernel)) (i8 (WOk.name k.nm) fun w hw=>WOk.name (G9 K (k.fs w hw)))⟩
theorem a5N{p:Str×Bool}(h:p∈H.fe):Row (a1N p):=by
 refine⟨cons_ne_nil _ _,Nat.le_of_ble_eq_true rfl,i8 (WOk.k (by decide+kernel)) (i8 (WOk.name (a1p K (ak.mpr ⟨p,h,rfl⟩))) (i8 ?_ Row.nil))⟩
 cases p.2<;>exact WOk.k (by decide+kernel)
theorem a2F{r:Ru}(h:r∈H.ru):Row (Q6 r):=by
 have k:=K.ruo r h;have l1:=k.b3;have l2:=k.c4;have l3:=k.a3;have l4:=k.o3;refine⟨cons_ne_nil _ _,by unfold Q6;simp only[length_cons,am];omega,i8 (WOk.k (by decide+kernel)) (i8 (WOk.name k.nm) (i8 (WOk.name (a1p K k.fe)) (a6S (fun w hw=>b0U K (k.b w hw)) (i8 (WOk.k (by decide+kernel)) (a6S (fun w hw=>b0U K (k.c w hw)) (i8 (WOk.k (by decide+kernel)) (a6S (fun w hw=>b0U K (k.a w hw)) (i8 (WOk.k (by decide+kernel)) fun w hw=>WOk.name (G9 K (k.o w hw))))))))))⟩
theorem a7D:∀ws∈L3 H,Row ws:=fun ws h=>by
 unfold L3 at h;simp only[aF,ak] at h
 rcases h with((((((⟨x,h,rfl⟩|⟨x,h,rfl⟩)|⟨x,h,rfl⟩)|⟨x,h,rfl⟩)|⟨x,h,rfl⟩)|⟨x,h,rfl⟩)|⟨x,h,rfl⟩)|⟨x,h,rfl⟩
 · exact a3N K h
 · exact a5M K h
 · exact a3O K h
 · exact a0O K h
 · exact a7G K h
 · exact a1D K h
 · exact a5N K h
 · exact a2F K h
theorem a7y{f:α->β}{l:List α}{s:List β}(h:(l.map f).Sublist s):l.length<=s.length:=by
 have:=h.length_le
 rw[aa] at this;exact this
theorem Z0:(L3 H).length<=300/\L3 H≠[]:=by
 have a:=K.sh.hi;have a0:=K.sh.lo;have b:=a7y K K.mr;rw[aa] at b;have c:=K.ptl;have d:=K.ls;have e:=K.gp.length_le;rw[aa] at e;have f:=K.cs;have g:=K.fe;have i:=K.rul
 have l:(L3 H).length=H.sh.length+H.mr.length+H.pt.length+H.ls.length+H.gp.length+H.cs.length+H.fe.length+H.ru.length:=by
  unfold L3;simp only[am,aa]
 exact⟨by omega,fun z=>by rw[z] at l;simp only[length_nil] at l;omega⟩
end
theorem a9O(r:Row ws):M0 (ln ws)=ws:=by
 unfold M0;rw[show Txt.split (ln ws) " "=ws from a2y (c:=32) r.n (fun p hp hc=>((r.w p hp).c 32 hc).1 rfl) (a6v ws)]
 exact List.filter_eq_self.mpr fun w hw=>aR fun e=>(r.w w hw).p ((a8W w).mp e)
theorem b0Q{c x:Nat}:∀{ps:List (List Nat)},x∈jn c ps->x=c∨∃p∈ps,x∈p
 |[],h=>nomatch h
 |[p],h=>.inr ⟨p,.head _,h⟩
 |p::q::r,h=>by
  rcases aF.mp (show x∈p++c::jn c (q::r) from h) with h|h
  · exact .inr ⟨p,.head _,h⟩
  · rcases aB.mp h with h|h
    · exact .inl h
    · rcases b0Q h with h|⟨y,hy,h⟩
      · exact .inl h
      · exact .inr ⟨y,.tail _ hy,h⟩
theorem a9N(r:Row ws):10∉cd (ln ws):=fun h=>by
 rw[a6v] at h
 rcases b0Q h with h|⟨p,hp,h⟩
 · exact absurd h (by decide)
 · obtain⟨w,hw,rfl⟩:=ak.mp hp;exact((r.w w hw).c 10 h).2 rfl
theorem a7F(r:Row ws):(ln ws).length<=840:=by
 have:=b0L (ws:=ws) (b:=20) fun w hw=>(r.w w hw).l
 have l:=r.l
 have:ws.length*21<=40*21:=Nat.mul_le_mul_right 21 l
 omega
def a6g(H:HL):Str:=Txt.join "\n" ((L3 H).map ln)
theorem a8v{H:HL}(K:HLok H):Txt.split (a6g H) "\n"=(L3 H).map ln:=by
 refine a2y (c:=10) (fun e=>(Z0 K).2 (List.map_eq_nil_iff.mp e)) (fun p hp=>?_) ?_
 · obtain⟨ws,hw,rfl⟩:=ak.mp hp;exact a9N (a7D K ws hw)
 · show cd (Builtin.Str.glued "\n" _)=_
   rw[StrLaws.glued_eq_join];exact a2q 10 _
theorem a5L{H:HL}(K:HLok H):(((L3 H).map ln).map (·.length)).sum<=300*840:=by
 have:=a4u (ws:=(L3 H).map ln) (b:=840) fun w hw=>by
  obtain⟨ws,hq,rfl⟩:=ak.mp hw;exact a7F (a7D K ws hq)
 rw[aa] at this;have l:=(Z0 K).1;exact aK this (Nat.mul_le_mul_right _ l)
theorem b1Y{H:HL}(K:HLok H):(a6g H).length<=1000000:=by
 have:=a5L K
 have l:=(Z0 K).1
 show(Builtin.Str.glued "\n" _).length<=_
 rw[StrLaws.glued_eq_join];refine aK (StrLaws.join_length_le _ _) ?_
 rw[aa,show(Str.ofString "\n").length=1 from rfl];omega
theorem b4w{H:HL}(K:HLok H):JoinOk "\n" ((L3 H).map ln)=true:=by
 have:=a5L K
 have l:=(Z0 K).1;exact a4U (by rw[aa,show(Str.ofString "\n").length=1 from rfl];omega)
theorem k32:cd (Str.ofString " ")=[32]:=rfl
theorem b2i(n w:Str):(("shape ":Str)++n++(" ":Str))++w=ln ["shape",n,w]:=a3U (by
 simp only[E1,k32,show cd (Str.ofString "shape ")=cd (Str.ofString "shape")++[32] from by decide+kernel,map_cons,map_nil,jn,ax,cons_append,nil_append])
theorem b7n(n:Str):("gap ":Str)++n=ln ["gap",n]:=a3U (by
 simp only[E1,show cd (Str.ofString "gap ")=cd (Str.ofString "gap")++[32] from by decide+kernel,map_cons,map_nil,jn,ax,cons_append,nil_append])
theorem b4A(n w:Str):(("feature ":Str)++n++(" ":Str))++w=ln ["feature",n,w]:=a3U (by
 simp only[E1,k32,show cd (Str.ofString "feature ")=cd (Str.ofString "feature")++[32] from by decide+kernel,map_cons,map_nil,jn,ax,cons_append,nil_append])
theorem b2j(n s a b:Str):((((("point ":Str)++n)++(" ":Str))++s)++(" ":Str))++ln [a,b]=ln ["point",n,s,a,b]:=a3U (by
 simp only[E1,k32,a6v,show cd (Str.ofString "point ")=cd (Str.ofString "point")++[32] from by decide+kernel,map_cons,map_nil,jn,ax,cons_append,nil_append])
theorem b4z(n s a b c d:Str):((((("mark ":Str)++n)++(" ":Str))++s)++(" ":Str))++((ln [a,b]++(" ":Str))++ln [c,d])=ln ["mark",n,s,a,b,c,d]:=a3U (by
 simp only[E1,k32,a6v,show cd (Str.ofString "mark ")=cd (Str.ofString "mark")++[32] from by decide+kernel,map_cons,map_nil,jn,ax,cons_append,nil_append])
def TS(T:D)(h0:AH)(env:o9)(h:AH)(xs:List Str):Prop:=∃n e1 e3 e4 e5 e6 e7 e8 e9,env=[some T,e1,some (.ref n),e3,e4,e5,e6,e7,e8,e9]/\Pf h0 h/\h0.length<=n/\h[n]? =some (.lst (xs.map .str))
variable{Tl:List D}{body:Ss}
section
variable{ct:CT}{F:Nat->Option Fn}
theorem a0g{a:E}{fr:List Nat}{l:List α}(rp:α->D)(f:α->Str)(envf:α->o9)(ha:ev ct c a env h=.ok (.ref s) h)(hs:h[s]? =some (.lst (l.map rp)))(hl:l.length<=1000)
 (hx:∀x∈l,D6 p (rp x) (A9 nb fr env)=some (envf x)/\∀h,∃t,ev ct c e (envf x) h=.ok (.str (f x)) (h++t)):EvL ct c (.comp p (.seq a) nb fr .yes e) env h (l.map f):=by
 obtain⟨t,e⟩:=a6r rp f envf ha hs hl hx;exact⟨(h++t).length,t++[.lst ((l.map f).map .str)],by rw[e,ax],by rw[←ax];exact b6,.inl (by simp)⟩
theorem b1y{b:E}(e:env[i]? =some (some (.ref n)))(hn:h[n]? =some (.lst (xs.map .str)))(B:EvL ct c b env h ys)(hl:xs.length+ys.length<=1000):EvL ct c (.bin .add (.v i) b) env h (xs++ys):=by
 obtain⟨m,u,b1,b2,_⟩:=B;refine⟨(h++u).length,u++[.lst (xs.map .str++ys.map .str)],?_,by rw[←ax,b6,al],.inl (by simp)⟩
 simp_arith[e,b1,op2,a3t (b5 (g:=u) hn) b2 (by rw[aa,aa];omega)]
 simp
theorem TS.pf{T:D}(S:TS T h0 env h xs):Pf h0 h:=by
 obtain⟨n,e1,e3,e4,e5,e6,e7,e8,e9,rfl,p,_⟩:=S;exact p
theorem a2v{T:D}(S:TS T h0 env h xs)(hT:T=.tup Tl)(hi:Tl[i]? =some (.ref s)):ev ct c (.ix (.v 0) (.k (.int (i:Int)))) env h=.ok (.ref s) h:=by
 obtain⟨n,e1,e3,e4,e5,e6,e7,e8,e9,rfl,_⟩:=S;subst hT;simp_arith[ix_tup (h:=h) hi]
theorem a4q{T:D}{C:E}(S:TS T h0 env h xs)(hC:EvL ct c C env h ys)(hl:xs.length+ys.length<=1000):∃env' h',ex ct c (.set 2 (.bin .add (.v 2) C)) env h=.ok (.nx env') h'/\TS T h0 env' h' (xs++ys):=by
 obtain⟨n,e1,e3,e4,e5,e6,e7,e8,e9,rfl,p,l,g⟩:=S;obtain⟨m,u,c1,c2,_⟩:=hC;refine⟨[some T,e1,some (.ref (h++u).length),e3,e4,e5,e6,e7,e8,e9],h++u++[.lst (xs.map .str++ys.map .str)],?_,_,e1,e3,e4,e5,e6,e7,e8,e9,rfl,(p.app _).app _,by have:=p.len;rw[am];omega,by rw[al];exact b6⟩
 simp_arith[c1,op2,a3t (b5 (g:=u) g) c2 (by rw[aa,aa];omega)]
theorem a9x{T:D}{a:E}{l:List α}(rp:α->D)(f:α->Str)(S:TS T h0 env h xs)(ha:ev ct c a env h=.ok (.ref s) h)(hs:h0[s]? =some (.lst (l.map rp)))
 (hb:∀x∈l,∀env h xs,TS T h0 env h xs->xs.length<=1000->∃env1 env' h',D6 p (rp x) env=some env1/\exs ct c body env1 h=.ok (.nx env') h'/\TS T h0 env' h' (xs++[f x])) (hl:xs.length+l.length<=1000):∃env' h',ex ct c (.for p (.seq a) body) env h=.ok (.nx env') h'/\TS T h0 env' h' (xs++l.map f):=by
 have S0:=S;obtain⟨n,e1,e3,e4,e5,e6,e7,e8,e9,rfl,pf,_⟩:=S
 obtain⟨env',h',q1,q2⟩:=B9 (g:=[(s,.lst (l.map rp))]) (p:=p) (body:=exs ct c body) (fun j env h=>TS T h0 env h (xs++(l.take j).map f)) (fun j env h S=>by
  obtain⟨n,e1,e3,e4,e5,e6,e7,e8,e9,rfl,pf,_⟩:=S;simp[gOk,pf.at hs]) (l.map rp) 0 _ h (fun j x env h hx hP=>by
  have hj:j<l.length:=by simpa using(ac.mp hx).1
  rw[aj,af hj] at hx
  obtain rfl:rp l[j]=x:=au hx;rw[ay] at hP⊢;obtain⟨env1,env',h',b1,b2,b3⟩:=hb l[j] (bc hj) env h _ hP (by rw[am,aa,aG];omega)
  refine⟨env1,env',h',b1,b2,?_⟩
  rw[List.take_add_one,af hj,al,←ax]
  exact b3) (by rw[List.take_zero,map_nil,aQ];exact S0)
 refine⟨env',h',?_,?_⟩
 · rw[a0f,M6,ha,b8];simp only[L4,pf.at hs];rw[b8];exact q1
 · rw[aa,ay,aS] at q2;exact q2
theorem a9y{T:D}{t:AH}(S:TS T h0 env h xs)(he:ev ct c e env h=.ok (.str z) (h++t))(hl:xs.length<=1000):∃h',ex ct c (.ex (.mt .append (.v 2) (.cons e .nil))) env h=.ok (.nx env) h'/\TS T h0 env h' (xs++[z]):=by
 obtain⟨n,e1,e3,e4,e5,e6,e7,e8,e9,rfl,p,l,g⟩:=S;refine⟨(h++t).set n (.lst (xs.map .str++[.str z])),?_,n,e1,e3,e4,e5,e6,e7,e8,e9,rfl,(p.app _).set l,l,by rw[u7 (b5 g),al];rfl⟩
 simp_arith[E3 g,he,K9 (b5 (g:=t) g) (by rw[aa];omega)]
theorem a8j(A:EvL ct c e env h ws)(r:Row ws):∃t,ev ct c (.mt .join (.k (.str " ")) (.cons e .nil)) env h=.ok (.str (ln ws)) (h++t):=a3d A (b4o (fun w hw=>(r.w w hw).l) (by have:=r.l;omega))
theorem a2Q:(Str.ofString "shape ").length=6:=rfl
theorem a1j:(Str.ofString "mark ").length=5:=rfl
theorem Z3:(Str.ofString "point ").length=6:=rfl
theorem b5A:(Str.ofString "gap ").length=4:=rfl
theorem a4O:(Str.ofString "feature ").length=8:=rfl
theorem a2M{p:Int×Int}(hp:a0n p):(ln (L0 p)).length<=42:=b0L (ws:=L0 p) (b:=20) (i8 (WOk.num hp.1) (i8 (WOk.num hp.2) Row.nil) · · |>.l)
variable{H:HL}(K:HLok H)
include K
theorem b3M{p:Str×Nat}(hp:p∈H.sh):ev ct c b3n [some (.str p.1),some (.int (p.2:Int))] h=.ok (.str (ln (U2 p))) h:=by
 have k:=K.sh.ok p hp;have l1:=U5 k.1;have l2:=a2l (i:=(p.2:Int)) (by have:=k.2;omega)
 unfold b3n;simp_arith[op2,o0 (h:=h) (x:="shape ") (y:=p.1) (by rw[a2Q];omega),o0 (h:=h) (x:=("shape ":Str)++p.1) (y:=" ") (by rw[k7,a2Q,D8];omega),a6I (i:=(p.2:Int)) (h:=h) (by have:=k.2;omega),o0 (h:=h) (x:=("shape ":Str)++p.1++(" ":Str)) (y:=num p.2) (by rw[k7,k7,a2Q,D8];omega),b2i]
 rfl
theorem b8N{n:Str}(hn:n∈H.gp):ev ct c (.bin .add (.k (.str "gap ")) (.v 0)) [some (.str n)] h=.ok (.str (ln (a5B n))) h:=by
 have l1:=U5 (a5b K hn);simp_arith[op2,o0 (h:=h) (x:="gap ") (y:=n) (by rw[b5A];omega),b7n]
 rfl
theorem b6B{p:Str×Bool}(hp:p∈H.fe):∃t,ev ct c b6b [some (.str p.1),some (.bl p.2)] h=.ok (.str (ln (a1N p))) (h++t):=by
 have l1:=U5 (a1p K (ak.mpr ⟨p,hp,rfl⟩))
 have lo:(a8P p.2).length<=20:=by cases p.2<;>decide
 have ib:biD .int (h++[.lst [.str "off",.str "on"]]) [.bl p.2]=.ok (.int ((if p.2 then 1 else 0:Nat):Int)) (h++[.lst [.str "off",.str "on"]]):=by cases p.2<;>rfl
 have ix:ixD (h++[.lst [.str "off",.str "on"]]) (.ref h.length) (.int ((if p.2 then 1 else 0:Nat):Int))=.ok (.str (a8P p.2)) (h++[.lst [.str "off",.str "on"]]):=C7 b6 (by cases p.2<;>rfl)
 refine⟨[.lst [.str "off",.str "on"]],?_⟩
 unfold b6b;simp_arith[op2,o0 (h:=h) (x:="feature ") (y:=p.1) (by rw[a4O];omega),o0 (h:=h) (x:=("feature ":Str)++p.1) (y:=" ") (by rw[k7,a4O,D8];omega),y9,ib,ix,o0 (h:=h++[.lst [.str "off",.str "on"]]) (x:=("feature ":Str)++p.1++(" ":Str)) (y:=a8P p.2) (by rw[k7,k7,a4O,D8];omega),b4A]
 rfl
theorem b3P{x:Cs}(hx:x∈H.cs):∃t,ev ct c (.mt .join (.k (.str " ")) (.cons b6a .nil)) [some (.str x.n),some (.tup (x.fs.map .str))] h=.ok (.str (ln (U3 x))) (h++t):=by
 have r:=a1D K hx;have l:=r.l;have A:=Q1 (a0A (ct:=ct) (c:=c) (es:=(.cons (.k (.str "class")) (.cons (.v 0) .nil))) (env:=[some (.str x.n),some (.tup (x.fs.map .str))]) (h:=h) (xs:=["class",x.n]) (by simp_arith[]) (by show 2<=1000;decide)) (fun t=>W1 (a:=.v 1) (xs:=x.fs) (by simp_arith[])) (by unfold U3 at l;simp only[length_cons,length_nil] at l⊢;omega)
 exact a8j (e:=b6a) A r
theorem b1N{T:D}{x:Lt}(hx:x∈H.ls)(S:TS T h0 env h xs)(hl:xs.length<=1000):∃env1 env' h',D6 (htP 1 7 8 9) (ltD x) env=some env1/\exs ct c b3o env1 h=.ok (.nx env') h'/\TS T h0 env' h' (xs++[ln (M1 x)]):=by
 have r:=a0O K hx;have l:=r.l;obtain⟨n,e1,e3,e4,e5,e6,e7,e8,e9,rfl,p,ln',g⟩:=S
 have S1:TS T h0 [some T,some (.str x.n),some (.ref n),e3,e4,e5,e6,some (.str x.j),some (.str x.w),some (.tup (x.fs.map .str))] h xs:=⟨n,_,_,_,_,_,_,_,_,rfl,p,ln',g⟩
 have A:=Q1 (a0A (ct:=ct) (c:=c) (es:=(.cons (.k (.str "letter")) (.cons (.v 1) (.cons (.v 7) (.cons (.v 8) .nil))))) (env:=[some T,some (.str x.n),some (.ref n),e3,e4,e5,e6,some (.str x.j),some (.str x.w),some (.tup (x.fs.map .str))]) (h:=h) (xs:=["letter",x.n,x.j,x.w]) (by simp_arith[]) (by show 4<=1000;decide)) (fun t=>W1 (a:=.v 9) (xs:=x.fs) (by simp_arith[])) (by unfold M1 at l;simp only[length_cons,length_nil] at l⊢;omega)
 obtain⟨t,q⟩:=a8j (e:=b8l) A r;obtain⟨h',q1,q2⟩:=a9y S1 q hl;refine⟨_,_,h',rfl,?_,q2⟩
 unfold b3o
 show exs ct c _ [some T,some (.str x.n),some (.ref n),e3,e4,e5,e6,some (.str x.j),some (.str x.w),some (.tup (x.fs.map .str))] h=_
 rw[seq q1,a1q]
variable(f213:F 213=some y8)
include f213
theorem b3N{k:Nat}{p:Pt}(hp:p∈H.pt):ev ct (b4 ct F (k+1)) b6c [some (.str p.n),some (.str p.s),some (spD p.a)] h=.ok (.str (ln (Y6 p))) h:=by
 obtain⟨k1,k2,k3⟩:=K.pto p hp;have l1:=U5 (G9 K k1);have l2:=(a7z K k2).l;have l3:=a2M k3;unfold b6c;simp_arith[op2,a2L (ct:=ct) (k:=k) (h:=h) f213 k3,o0 (h:=h) (x:="point ") (y:=p.n) (by rw[Z3];omega),o0 (h:=h) (x:=("point ":Str)++p.n) (y:=" ") (by rw[k7,Z3,D8];omega),o0 (h:=h) (x:=("point ":Str)++p.n++(" ":Str)) (y:=p.s) (by rw[k7,k7,Z3,D8];omega),o0 (h:=h) (x:=("point ":Str)++p.n++(" ":Str)++p.s) (y:=" ") (by rw[k7,k7,k7,Z3,D8];omega),o0 (h:=h) (x:=("point ":Str)++p.n++(" ":Str)++p.s++(" ":Str)) (y:=ln (L0 p.a)) (by rw[k7,k7,k7,k7,Z3,D8];omega)]
 unfold L0;rw[b2j];rfl
theorem b6O{k:Nat}{T:D}{x:Mk}(hx:x∈H.mr)(S:TS T h0 env h xs)(hl:xs.length<=1000):∃env1 env' h',D6 (htP 1 3 4 5) (mkD x) env=some env1/\exs ct (b4 ct F (k+1)) b3p env1 h=.ok (.nx env') h'/\TS T h0 env' h' (xs++[ln (V1 x)]):=by
 obtain⟨k1,k2,k3⟩:=K.mko x hx;have l1:=U5 (G9 K (a4P K hx));have l2:=(a7z K k1).l;have l3:=a2M k2;have l4:=a2M k3;obtain⟨n,e1,e3,e4,e5,e6,e7,e8,e9,rfl,p,ln',g⟩:=S
 have S1:TS T h0 [some T,some (.str x.n),some (.ref n),some (.str x.s),some (spD x.a),some (spD x.b),some (.str ((ln (L0 x.a)++(" ":Str))++ln (L0 x.b))),e7,e8,e9] h xs:=⟨n,_,_,_,_,_,_,_,_,rfl,p,ln',g⟩
 have q:ev ct (b4 ct F (k+1)) (.bin .add (.bin .add (.bin .add (.bin .add (.bin .add (.k (.str "mark ")) (.v 1)) (.k (.str " "))) (.v 3)) (.k (.str " "))) (.v 6)) [some T,some (.str x.n),some (.ref n),some (.str x.s),some (spD x.a),some (spD x.b),some (.str ((ln (L0 x.a)++(" ":Str))++ln (L0 x.b))),e7,e8,e9] h=.ok (.str (ln (V1 x))) (h++[]):=by
  rw[aQ];simp_arith[op2,o0 (h:=h) (x:="mark ") (y:=x.n) (by rw[a1j];omega),o0 (h:=h) (x:=("mark ":Str)++x.n) (y:=" ") (by rw[k7,a1j,D8];omega),o0 (h:=h) (x:=("mark ":Str)++x.n++(" ":Str)) (y:=x.s) (by rw[k7,k7,a1j,D8];omega),o0 (h:=h) (x:=("mark ":Str)++x.n++(" ":Str)++x.s) (y:=" ") (by rw[k7,k7,k7,a1j,D8];omega),o0 (h:=h) (x:=("mark ":Str)++x.n++(" ":Str)++x.s++(" ":Str)) (y:=ln (L0 x.a)++(" ":Str)++ln (L0 x.b)) (by rw[k7,k7,k7,k7,k7,k7,a1j,D8];omega)]
  unfold L0;rw[b4z];rfl
 obtain⟨h',q1,q2⟩:=a9y S1 q hl;refine⟨_,_,h',rfl,?_,q2⟩
 unfold b3p
 show exs ct (b4 ct F (k+1)) _ [some T,some (.str x.n),some (.ref n),some (.str x.s),some (spD x.a),some (spD x.b),e6,e7,e8,e9] h=_
 rw[seq (env':=[some T,some (.str x.n),some (.ref n),some (.str x.s),some (spD x.a),some (spD x.b),some (.str ((ln (L0 x.a)++(" ":Str))++ln (L0 x.b))),e7,e8,e9]) (h':=h) (by simp_arith[op2,a2L (ct:=ct) (k:=k) (h:=h) f213 k2,a2L (ct:=ct) (k:=k) (h:=h) f213 k3,o0 (h:=h) (x:=ln (L0 x.a)) (y:=" ") (by rw[D8];omega),o0 (h:=h) (x:=ln (L0 x.a)++(" ":Str)) (y:=ln (L0 x.b)) (by rw[k7,D8];omega)]),seq q1,a1q]
theorem b1b{k:Nat}{a b c d e:Nat}(f214:F 214=some y0)(f215:F 215=some C2)(A:HAt H h a b c d e f i j):b4 ct F (k+2) 215 [.tup [.ref a,.ref b,.ref c,.ref d,.ref e,.ref f,.ref i,.ref j]] h=.ok (.str (a6g H)) h:=by
 rw[i6 f215 rfl];simp only[C2];generalize hT:D.tup [.ref a,.ref b,.ref c,.ref d,.ref e,.ref f,.ref i,.ref j]=T
 show gcR 1 h (K2 (exs ct (b4 ct F (k+1)) _ [some T,none,none,none,none,none,none,none,none,none] h))=_
 have rl:=(Z0 K).1
 have ll:H.sh.length+H.mr.length+H.pt.length+H.ls.length+H.gp.length+H.cs.length+H.fe.length+H.ru.length<=300:=by
  unfold L3 at rl;simp only[am,aa] at rl;exact rl
 obtain⟨t0,c0⟩:=a6r (ct:=ct) (c:=b4 ct F (k+1)) (p:=(.tp (.cons (.nm 0) (.cons (.nm 1) .nil)))) (a:=(.ix (.v 0) (.k (.int (0))))) (e:=b3n) (nb:=2) (fr:=[]) (env:=[some T,none,none,none,none,none,none,none,none,none]) (h:=h) (l:=H.sh) (s:=a) (fun p=>.tup [.str p.1,.int (p.2:Int)]) (fun p=>ln (U2 p)) (fun p=>[some (.str p.1),some (.int (p.2:Int))]) (by rw[←hT];simp_arith[a3w]) A.sh (by omega) (fun x hx=>⟨rfl,fun h=>⟨[],by rw[aQ];exact b3M K hx⟩⟩)
 have S0:TS T h [some T,none,some (.ref (h++t0).length),none,none,none,none,none,none,none] (h++t0++[.lst ((H.sh.map fun p=>ln (U2 p)).map .str)]) (H.sh.map fun p=>ln (U2 p)):=⟨_,_,_,_,_,_,_,_,_,rfl,((Pf.refl h).app _).app _,by simp,b6⟩
 rw[seq (env':=[some T,none,some (.ref (h++t0).length),none,none,none,none,none,none,none]) (by unfold b8r;rw[a3b,c0,b8];rfl)]
 obtain⟨env1,h1,q1,S1⟩:=a9x (l:=H.mr) (a:=(.ix (.v 0) (.k (.int (1))))) (p:=htP 1 3 4 5) (body:=b3p) (c:=b4 ct F (k+1)) mkD (fun m=>ln (V1 m)) S0 (a2v (i:=1) S0 hT.symm rfl) A.mr (fun x hx env h xs S hl=>b6O K f213 hx S hl) (by rw[aa];omega)
 rw[seq q1];obtain⟨env2,h2,q2,S2⟩:=a4q (ct:=ct) (c:=b4 ct F (k+1)) (C:=b8q) S1 (a0g (a:=(.ix (.v 0) (.k (.int (2))))) (l:=H.pt) ptD (fun p=>ln (Y6 p)) (fun p=>[some (.str p.n),some (.str p.s),some (spD p.a)]) (a2v (i:=2) S1 hT.symm rfl) (S1.pf.at A.pt) (by omega) (fun x hx=>⟨rfl,fun h=>⟨[],by rw[aQ];exact b3N K f213 hx⟩⟩)) (by simp only[am,aa];omega)
 rw[seq q2];obtain⟨env3,h3,q3,S3⟩:=a9x (l:=H.ls) (a:=(.ix (.v 0) (.k (.int (3))))) (p:=htP 1 7 8 9) (body:=b3o) (c:=b4 ct F (k+1)) ltD (fun m=>ln (M1 m)) S2 (a2v (i:=3) S2 hT.symm rfl) A.ls (fun x hx env h xs S hl=>b1N K hx S hl) (by simp only[am,aa];omega)
 rw[seq q3];obtain⟨env4,h4,q4,S4⟩:=a4q (ct:=ct) (c:=b4 ct F (k+1)) (C:=b8p) S3 (a0g (a:=(.ix (.v 0) (.k (.int (4))))) (l:=H.gp) .str (fun p=>ln (a5B p)) (fun p=>[some (.str p)]) (a2v (i:=4) S3 hT.symm rfl) (S3.pf.at A.gp) (by omega) (fun x hx=>⟨rfl,fun h=>⟨[],by rw[aQ];exact b8N K hx⟩⟩)) (by simp only[am,aa];omega)
 rw[seq q4];obtain⟨env5,h5,q5,S5⟩:=a4q (ct:=ct) (c:=b4 ct F (k+1)) (C:=b8o) S4 (a0g (a:=(.ix (.v 0) (.k (.int (5))))) (l:=H.cs) csD (fun p=>ln (U3 p)) (fun p=>[some (.str p.n),some (.tup (p.fs.map .str))]) (a2v (i:=5) S4 hT.symm rfl) (S4.pf.at A.cs) (by omega) (fun x hx=>⟨rfl,fun h=>b3P K hx⟩)) (by simp only[am,aa];omega)
 rw[seq q5];obtain⟨env6,h6,q6,S6⟩:=a4q (ct:=ct) (c:=b4 ct F (k+1)) (C:=b8n) S5 (a0g (a:=(.ix (.v 0) (.k (.int (6))))) (l:=H.fe) feD (fun p=>ln (a1N p)) (fun p=>[some (.str p.1),some (.bl p.2)]) (a2v (i:=6) S5 hT.symm rfl) (S5.pf.at A.fe) (by omega) (fun x hx=>⟨rfl,fun h=>b6B K hx⟩)) (by simp only[am,aa];omega)
 rw[seq q6]
 have B:=a0g (ct:=ct) (c:=b4 ct F (k+1)) (p:=.nm 0) (nb:=1) (fr:=[]) (e:=(.call 214 (.cons (.v 0) .nil))) (a:=(.ix (.v 0) (.k (.int (7))))) (l:=H.ru) ruD (fun p=>ln (Q6 p)) (fun p=>[some (ruD p)]) (a2v (i:=7) S6 hT.symm rfl) (S6.pf.at A.ru) (by omega) (fun x hx=>⟨rfl,fun h=>⟨[],by
  have r:=a2F K hx;rw[aQ];simp_arith[a9M (ct:=ct) (k:=k) (h:=h) (r:=x) f214 (by have:=r.l;omega) fun w hw=>(r.w w hw).l]⟩⟩)
 obtain⟨n,e1,e3,e4,e5,e6,e7,e8,e9,rfl,p,l,g⟩:=S6
 have C:EvL ct (b4 ct F (k+1)) (.bin .add (.v 2) b8m) [some T,e1,some (.ref n),e3,e4,e5,e6,e7,e8,e9] h6 ((L3 H).map ln):=by
  have e:(L3 H).map ln=((((((((H.sh.map fun p=>ln (U2 p))++H.mr.map fun p=>ln (V1 p))++H.pt.map fun p=>ln (Y6 p))++H.ls.map fun p=>ln (M1 p))++H.gp.map fun p=>ln (a5B p))++H.cs.map fun p=>ln (U3 p))++H.fe.map fun p=>ln (a1N p))++H.ru.map fun p=>ln (Q6 p)):=by
   unfold L3;simp only[al,aD];rfl
  rw[e];exact b1y rfl g B (by simp only[am,aa];omega)
 obtain⟨t,z⟩:=a3d C (b4w K);rw[G5,a3c,z,b8,b8]
 show gcR 1 h (.ok (.str (a6g H)) (h6++t))=_
 exact b6e (p.app t) rfl
end
theorem b4k{s:Str}(h:a0F s):inD (.str s) [.str "above",.str "below"]=true:=by rcases h with rfl|rfl<;>decide
theorem a0j{a b c:Bool}(ha:a=false)(hb:b=true)(hc:c=false):due a b c=none:=by subst ha hb hc;rfl
theorem nin[DecidableEq α]{a:α}{l:List α}(h:a∉l):decide (a∈l)=false:=bf h
theorem Q7(h:b9 z=true):z.length<=100000:=by have:=U5 h;omega
theorem flat_strs(xs:List Str):(xs.map D.str).all w6=true:=by
 rw[all_map];exact aX.mpr fun _ _=>rfl
theorem a1m(x:Str):∀xs:List Str,inD (.str x) (xs.map .str)=decide (x∈xs)
 |[]=>rfl
 |y::r=>by
  have ih:=a1m x r;unfold inD at ih⊢;rw[map_cons,any_cons,ih]
  show(decide (y=x)||decide (x∈r))=_
  by_cases e:y=x
  · subst e;simp
  · rw[bf e,Bool.false_or];exact decide_eq_decide.mpr ⟨fun z=>.tail _ z,fun z=>(aB.mp z).resolve_left fun q=>e q.symm⟩
variable{r:R D}
section
variable{ct:CT}{F:Nat->Option Fn}(W:PF F)
include W
theorem b1R{k:Nat}{c9:List D}(hw:h[w]? =some (.lst (.str x::c9)))(hr:b4 ct F k f [.ref n,.ref w] h=r)(hx:(x,f)∈[(("mark":Str),19),("gap",23)]):b4 ct F (k+1) 13 [.ref n,.ref w] h=r:=by
 rw[←hr,i6 W.f13 rfl];simp only[B7];rw[gc0];simp only[aB,not_mem_nil,or_false,Prod.mk.injEq] at hx
 rcases hx with⟨rfl,rfl⟩|⟨rfl,rfl⟩
 · simp_arith[o8 0 0 rfl hw rfl,op2,C0,eqS,decide_true,decide_false];generalize b4 ct F k 19 [.ref n,.ref w] h=r
   cases r<;>simp_arith[]
 · simp_arith[o8 0 0 rfl hw rfl,op2,C0,eqS,decide_true,decide_false];generalize b4 ct F k 23 [.ref n,.ref w] h=r
   cases r<;>simp_arith[]
theorem HallAt.s5{H:HD}(A:HallAt h n H)(l:List Str):HallAt (h.set (n+5) (.lst (l.map .str))) n {H with gaps:=l}:=
 ⟨b7 (by omega) A.o,b7 (by omega) A.c1,b7 (by omega) A.c2,b7 (by omega) A.c3,b7 (by omega) A.c4,u7 A.c5,b7 (by omega) A.c6,b7 (by omega) A.c7,b7 (by omega) A.c8⟩
variable{d:Nat}{H:HD}
theorem b1e{p:Str×Nat}(hn:b9 p.1=true)(hw:p.2<99999)(h1:p.1∉H.shapes.map (·.1))(hl:H.shapes.length<60):Y5 ct F (d+9) H (U2 p) none {H with shapes:=H.shapes++[(p.1,.int (p.2:Int))]}:=by
 have:=a9C (ct:=ct) (d:=d) (H:=H) W hn (a2O (n:=p.2) (by omega))
 rw[a0j (nin h1) rfl (bf (by omega))] at this
 exact this
theorem b3u{p:Str×Bool}(hn:b9 p.1=true)(h1:p.1∉H.features.map (·.1))(hl:H.features.length<10):Y5 ct F (d+9) H (a1N p) none {H with features:=H.features++[(p.1,.bl p.2)]}:=by
 have:=a6F (ct:=ct) (d:=d) (H:=H) (b:=a8P p.2) W hn (by cases p.2;exact .inr rfl;exact .inl rfl)
 rw[a0j (nin h1) rfl (bf (by omega)),show decide (a8P p.2="on")=p.2 by cases p.2<;>decide+kernel] at this
 exact this
theorem a9e{l:Lt}(o:LtOk sh l)(hs:∀f∈l.fs,b9 f=true/\f∈H.shapes.map (·.1))(h1:l.n∉H.letters.map (·.1))(hl:H.letters.length<24):Y5 ct F (d+9) H (M1 l) none {H with letters:=H.letters++[(l.n,.tup [.str l.j,.str l.w,.tup (l.fs.map .str)])]}:=by
 intro h n w A hw
 have:=a2w (ct:=ct) (k:=d+3) (c9:=l.fs) W A hw o.nm (Q7 o.nm) o.jn o.wy (aX.mpr fun f hf=>(hs f hf).1) (fun y hy=>Q7 (hs y hy).1) (by have:=o.few;omega)
 rw[a0j (nin h1) (aX.mpr fun f hf=>aR (hs f hf).2) (bf (by omega))] at this
 rw[a8y W hw,this];exact⟨_,rfl,(Fr.app n h _).trans (Fr.set (by omega) (by omega)),(A.app _).s4 _⟩
theorem b1g{c:Cs}(o:CsOk sh c)(hs:∀f∈c.fs,b9 f=true/\f∈H.shapes.map (·.1))(h1:c.n∉H.classes.map (·.1))(hl:H.classes.length<20):Y5 ct F (d+9) H (U3 c) none {H with classes:=H.classes++[(c.n,.tup (c.fs.map .str))]}:=by
 intro h n w A hw
 have:=a3z (ct:=ct) (k:=d+3) (c9:=c.fs) W A hw o.nm (Q7 o.nm) (aX.mpr fun f hf=>(hs f hf).1) (fun y hy=>Q7 (hs y hy).1) o.few.1 o.few.2
 rw[a0j (nin h1) (aX.mpr fun f hf=>aR (hs f hf).2) (bf (by omega))] at this
 rw[a9B W hw,this];exact⟨_,rfl,(Fr.app n h _).trans (Fr.set (by omega) (by omega)),(A.app _).s6 _⟩
theorem b1f{p:Pt}(hn:b9 p.n=true)(hs:a0F p.s)(ha:a0n p.a)(h1:ptK p∉H.points.map (·.1))(h2:p.n∈H.shapes.map (·.1))(hl:H.points.length<=1000):Y5 ct F (d+9) H (Y6 p) none {H with points:=H.points++[(ptK p,spD p.a)]}:=by
 intro h n w A hw
 have:=a3y (ct:=ct) (k:=d+2) W A hw hn (Q7 hn) (b4k hs) (G3 ha.1) (G3 ha.2) (by omega)
 have h1:(p.n,p.s)∉H.points.map (·.1):=h1
 rw[a0j (bf h1) (aR h2) rfl] at this;rw[a9A W hw];exact this
theorem b6d{g:Str}(hn:b9 g=true)(h1:g∉H.gaps)(h2:g∈H.letters.map (·.1))(hl:H.gaps.length<=1000):Y5 ct F (d+9) H (a5B g) none {H with gaps:=H.gaps++[g]}:=by
 intro h n w A hw
 have hw:h[w]? =some (.lst [.str "gap",.str g]):=hw
 have hg:O1 false h (.str g) (.ref (n+5))=.ok (.bl false) h:=by
  simp only[O1,A.c5];rw[av (by rw[flat_strs];rfl),a1m,nin h1]
  rfl
 have e:b4 ct F (d+8) 23 [.ref n,.ref w] h=.ok .non (h.set (n+5) (.lst ((H.gaps++[g]).map .str))):=by
  rw[i6 W.f23 rfl];simp only[X4];rw[gc0];simp_arith[n8 hw,op2,a1h,eqS,o8 1 1 rfl hw rfl,E8 W (Q7 hn),hn,A.fld5,A.fld4,hg,Y4 A.c4,aR h2,z8 W,a0j rfl rfl rfl,U9,Int.cast_ofNat_Int,decide_true,Bool.not_true,E3 A.c5,K9 (d:=.str g) A.c5 (by rw[aa];omega)]
  rw[al];rfl
 rw[b1R W hw e (.tail _ (.head _))];exact⟨_,rfl,Fr.set (by omega) (by omega),HallAt.s5 W A _⟩
theorem b3t{m:Mk}(hn:b9 m.n=true)(hs:a0F m.s)(ha:a0n m.a)(hb:a0n m.b)(h1:m.n∉H.marks.map (·.1))(h2:m.n∈H.shapes.map (·.1))(hl:H.marks.length<=1000):Y5 ct F (d+9) H (V1 m) none {H with marks:=H.marks++[(m.n,.tup [.str m.s,spD m.a,spD m.b])]}:=by
 intro h n w A hw
 have hf:b4 ct F (d+7) 18 [.ref w,.int 4] h=.ok (.bl true) h:=a1e (k:=d+2) (ws:=[num m.a.1,num m.a.2,num m.b.1,num m.b.2]) W hw hn (Q7 hn) (b4k hs) rfl (by simp[a5I,G3 ha.1,G3 ha.2,G3 hb.1,G3 hb.2]) (fun y hy=>by
  have:=(i8 (WOk.num ha.1) (i8 (WOk.num ha.2) (i8 (WOk.num hb.1) (i8 (WOk.num hb.2) Row.nil))) y hy).l
  omega) (by simp)
 have e35:S8 ((V1 m).map .str) (some 3) (some 5)=[.str (num m.a.1),.str (num m.a.2)]:=a0B 3 5 ((V1 m).map .str) (by decide) (Nat.le_of_ble_eq_true rfl)
 have e57:S8 ((V1 m).map .str) (some 5) (some 7)=[.str (num m.b.1),.str (num m.b.2)]:=a0B 5 7 ((V1 m).map .str) (by decide) (Nat.le_of_ble_eq_true rfl)
 have A2:=(A.app [.lst [.str (num m.a.1),.str (num m.a.2)]]).app [.lst [.str (num m.b.1),.str (num m.b.2)]];have hw1:=b5 (g:=[.lst [.str (num m.a.1),.str (num m.a.2)]]) hw
 have e:b4 ct F (d+8) 19 [.ref n,.ref w] h=.ok .non ((h++[Cell.lst [D.str (num m.a.1),D.str (num m.a.2)]]++[Cell.lst [D.str (num m.b.1),D.str (num m.b.2)]]).set (n+2) (Cell.dict (kd (H.marks++[(m.n,D.tup [.str m.s,spD m.a,spD m.b])])))):=by
  rw[i6 W.f19 rfl];simp only[T5];rw[gc0];simp_arith[hf,Bool.not_true,o8 1 1 rfl hw rfl,o8 2 2 rfl hw rfl,op2,A.fld2,Y4 A.c2,A.fld1,Y4 A.c1,z8 W,a0j (nin h1) (aR h2) rfl,U9,decide_true,J5 hw,e35,a4J W (b6 (h:=h)) (G3 ha.1) (G3 ha.2),J5 hw1,e57,a4J W (b6 (h:=h++[Cell.lst [.str (num m.a.1),.str (num m.a.2)]])) (G3 hb.1) (G3 hb.2),A2.fld2,Y9 A2.c2 h1 (show _<16777216 by omega)]
  rfl
 rw[b1R W hw e (.head _)];exact⟨_,rfl,((Fr.app n h _).trans (Fr.app n _ _)).trans (Fr.set (by omega) (by omega)),A2.s2 _⟩
theorem b0V{i:Str}(ho:a0p sh cs i)(hs:∀f∈sh.map (·.1),b9 f=true/\f∈H.shapes.map (·.1))(hc:∀c∈cs,b9 c.n=true/\c.n∈H.classes.map (·.1)):U7 i=true/\L6 H i=true/\i.length<=100000:=by
 rcases ho with ho|⟨c,hm,rfl⟩
 · have k:=hs i ho;unfold U7 L6;rw[a7P W k.1,k.1,aw ba];exact⟨rfl,aR k.2,Q7 k.1⟩
 · have k:=hc c hm
   have hd:cd (("@":Str)++c.n)=64::cd c.n:=by rw[E1];rfl
   have ht:tl (("@":Str)++c.n)=c.n:=V0 (by rw[a3i,hd];rfl)
   have hk:M9 (("@":Str)++c.n)=true:=by
    unfold M9;rw[ht,k.1,hd];rfl
   have:=(WOk.at k.1).l
   unfold U7 L6;rw[hk,Bool.or_true,av rfl,ht];exact⟨rfl,aR k.2,by omega⟩
theorem b3s{r:Ru}(o:RuOk sh cs fe r)(hs:∀f∈sh.map (·.1),b9 f=true/\f∈H.shapes.map (·.1))(hc:∀c∈cs,b9 c.n=true/\c.n∈H.classes.map (·.1))(hf:b9 r.f=true/\r.f∈H.features.map (·.1))(h1:r.t∉H.rules.map (·.1))(hl:H.rules.length<30):Y5 ct F (d+9) H (Q6 r) none {H with rules:=H.rules++[(r.t,[.str r.f,.tup (r.b.map .str),.tup (r.c.map .str),.tup (r.a.map .str),.tup (r.o.map .str)])]}:=by
 intro h n w A hw
 have hi:∀i∈r.b++r.c++r.a,U7 i=true/\L6 H i=true/\i.length<=100000:=fun i hi=>by
  rcases aF.mp hi with hi|hi
  · rcases aF.mp hi with hi|hi
    · exact b0V W (o.b i hi) hs hc
    · exact b0V W (o.c i hi) hs hc
  · exact b0V W (o.a i hi) hs hc
 have ho:∀i∈r.o,b9 i=true/\i∈H.shapes.map (·.1):=fun i hi=>hs i (o.o i hi)
 have rf:RuleForm r.t r.f r.b r.c r.a r.o:=⟨o.nm,hf.1,o.b3,o.c4.1,o.c4.2,o.a3,o.o3.1,o.o3.2,aX.mpr fun i h=>(hi i h).1,aX.mpr fun i h=>(ho i h).1,fun y hy=>by
  rcases aB.mp hy with rfl|hy
  · exact Q7 o.nm
  · rcases aB.mp hy with rfl|hy
    · exact Q7 hf.1
    · rcases aF.mp hy with hy|hy
      · exact(hi y hy).2.2
      · exact Q7 (ho y hy).1⟩
 have:=a4r (ct:=ct) (k:=d+1) W A (by omega) (x:="rule") (t:=r.t) (f:=r.f) (bef:=r.b) (core:=r.c) (aft:=r.a) (told:=r.o) hw rf
 rw[a0j (nin h1) (by
  rw[aR hf.2,aX.mpr fun i h=>(hi i h).2.1,aX.mpr fun i h=>aR (ho i h).2]
  rfl) (bf (by omega))] at this
 rw[b2g W hw];exact this
end
theorem F8{ct:CT}{F:Nat->Option Fn}{d:Nat}{α:Type}{full:List α}{c9:List Str}{H':HD}(wf:α->List Str)(U:List α->HD)(hR:∀x∈full,Row (wf x))(hst:∀pre x post,full=pre++x::post->Y5 ct F d (U pre) (wf x) none (U (pre++[x])))(hT:Reads ct F d (U full) c9 H'):∀(l pre:List α),full=pre++l->Reads ct F d (U pre) (l.map (fun x=>ln (wf x))++c9) H'
 |[],pre,e=>by
  rw[aQ] at e;subst e;exact hT
 |x::l,pre,e=>by
  have r:=hR x (by rw[e];exact mem_append_right _ (.head _))
  have b:=a9O r
  have:=a7F r
  refine .take (H1:=U (pre++[x])) (show(ln (wf x)).length<=100000 by omega) (by rw[b];exact r.n) (by rw[b];exact hst pre x l e) (F8 wf U hR hst hT l (pre++[x]) (by rw[e];simp))
theorem N3{f:α->β}{full pre post:List α}{x:α}(h:(full.map f).Nodup)(e:full=pre++x::post):f x∉pre.map f:=fun m=>by
 rw[e,al,map_cons] at h;exact(nodup_append.mp h).2.2 _ m _ (.head _) rfl
theorem J9{full pre post:List α}{x:α}(e:full=pre++x::post):pre.length<full.length/\x∈full:=by
 rw[e];exact⟨by simp only[am,length_cons];omega,mem_append_right _ (.head _)⟩
noncomputable def hS(H:HL):List (Str×D):=H.sh.map fun p=>(p.1,.int (p.2:Int))
def hM(l:List Mk):List (Str×D):=l.map fun m=>(m.n,.tup [.str m.s,spD m.a,spD m.b])
def hP(l:List Pt):List ((Str×Str)×D):=l.map fun p=>(ptK p,spD p.a)
noncomputable def hL(l:List Lt):List (Str×D):=l.map fun l=>(l.n,.tup [.str l.j,.str l.w,.tup (l.fs.map .str)])
noncomputable def hC(l:List Cs):List (Str×D):=l.map fun c=>(c.n,.tup (c.fs.map .str))
noncomputable def hF(l:List (Str×Bool)):List (Str×D):=l.map fun p=>(p.1,.bl p.2)
noncomputable def hR(l:List Ru):List (Str×List D):=l.map fun r=>(r.t,[.str r.f,.tup (r.b.map .str),.tup (r.c.map .str),.tup (r.a.map .str),.tup (r.o.map .str)])
def a0T(H:HL):HD:=⟨hS H,hM H.mr,hP H.pt,hL H.ls,H.gp,hC H.cs,hF H.fe,hR H.ru⟩
theorem a3C(k:α->Str)(v:α->β)(l:List α):(l.map fun x=>(k x,v x)).map (·.1)=l.map k:=by rw[aD];rfl
theorem snoc(f:α->β)(l:List α)(x:α):(l++[x]).map f=l.map f++[f x]:=by rw[al];rfl
theorem a6h{H:HL}(K:HLok H){f:Str}(h:f∈H.sh.map (·.1)):b9 f=true/\f∈(hS H).map (·.1):=⟨G9 K h,by unfold hS;rw[a3C];exact h⟩
variable{ct:CT}
theorem a8F{F:Nat->Option Fn}(W:PF F){d:Nat}{H:HL}(K:HLok H):Reads ct F (d+9) {} ((L3 H).map ln) (a0T H):=by
 have e:(L3 H).map ln=H.sh.map (fun p=>ln (U2 p))++(H.mr.map (fun p=>ln (V1 p))++(H.pt.map (fun p=>ln (Y6 p))++(H.ls.map (fun p=>ln (M1 p))++(H.gp.map (fun p=>ln (a5B p))++(H.cs.map (fun p=>ln (U3 p))++(H.fe.map (fun p=>ln (a1N p))++(H.ru.map (fun p=>ln (Q6 p))++[]))))))):=by
  unfold L3;simp only[al,aD,ax,aQ];rfl
 rw[e];refine F8 U2 (fun l=>{shapes:=l.map fun p=>(p.1,.int (p.2:Int))}) (fun x hx=>a3N K hx) (fun pre x post q=>?_) ?_ H.sh [] rfl
 · obtain⟨q1,q2⟩:=J9 q;have k:=K.sh.ok x q2
   have:=K.sh.hi
   have g:=b1e (ct:=ct) (d:=d) (H:={shapes:=pre.map fun p=>(p.1,.int (p.2:Int))}) (p:=x) W k.1 k.2 (by rw[a3C];exact N3 (f:=fun p=>p.1) K.sh.nd q) (by rw[aa];omega)
   simp only[snoc];exact g
 refine F8 V1 (fun l=>{shapes:=hS H,marks:=hM l}) (fun x hx=>a5M K hx) (fun pre x post q=>?_) ?_ H.mr [] rfl
 · obtain⟨q1,q2⟩:=J9 q;obtain⟨k1,k2,k3⟩:=K.mko x q2;have hn:=a6h K (a4P K q2);have b:=a7y K K.mr;rw[aa] at b
   have:=K.sh.hi
   have g:=b3t (ct:=ct) (d:=d) (H:={shapes:=hS H,marks:=hM pre}) (m:=x) W hn.1 k1 k2 k3 (by unfold hM;rw[a3C];exact N3 (f:=fun m:Mk=>m.n) (K.mr.nodup K.sh.nd) q) hn.2 (by unfold hM;rw[aa];omega)
   unfold hM at g⊢;rw[snoc];exact g
 refine F8 Y6 (fun l=>{shapes:=hS H,marks:=hM H.mr,points:=hP l}) (fun x hx=>a3O K hx) (fun pre x post q=>?_) ?_ H.pt [] rfl
 · obtain⟨q1,q2⟩:=J9 q;obtain⟨k1,k2,k3⟩:=K.pto x q2;have hn:=a6h K k1
   have:=K.ptl
   have g:=b1f (ct:=ct) (d:=d) (H:={shapes:=hS H,marks:=hM H.mr,points:=hP pre}) (p:=x) W hn.1 k2 k3 (by unfold hP;rw[aD];exact N3 (f:=ptK) K.pt q) hn.2 (by unfold hP;rw[aa];omega)
   unfold hP at g⊢;rw[snoc];exact g
 refine F8 M1 (fun l=>{shapes:=hS H,marks:=hM H.mr,points:=hP H.pt,letters:=hL l}) (fun x hx=>a0O K hx) (fun pre x post q=>?_) ?_ H.ls [] rfl
 · obtain⟨q1,q2⟩:=J9 q;have k:=K.lso x q2
   have:=K.ls
   have g:=a9e (ct:=ct) (d:=d) (H:={shapes:=hS H,marks:=hM H.mr,points:=hP H.pt,letters:=hL pre}) (l:=x) W k (fun f hf=>a6h K (k.fs f hf)) (by unfold hL;rw[a3C];exact N3 (f:=fun m:Lt=>m.n) K.lsn q) (by unfold hL;rw[aa];omega)
   unfold hL at g⊢;rw[snoc];exact g
 refine F8 a5B (fun l=>{shapes:=hS H,marks:=hM H.mr,points:=hP H.pt,letters:=hL H.ls,gaps:=l}) (fun x hx=>a7G K hx) (fun pre x post q=>?_) ?_ H.gp [] rfl
 · obtain⟨q1,q2⟩:=J9 q
   have:=K.gp.length_le
   rw[aa] at this
   have:=K.ls
   have nd:=N3 (f:=id) (by rw[map_id];exact K.gp.nodup K.lsn) q
   rw[map_id] at nd;exact b6d (ct:=ct) (d:=d) (H:={shapes:=hS H,marks:=hM H.mr,points:=hP H.pt,letters:=hL H.ls,gaps:=pre}) (g:=x) W (a5b K q2) nd (by unfold hL;rw[a3C];exact K.gp.subset q2) (show pre.length<=1000 by omega)
 refine F8 U3 (fun l=>{shapes:=hS H,marks:=hM H.mr,points:=hP H.pt,letters:=hL H.ls,gaps:=H.gp,classes:=hC l}) (fun x hx=>a1D K hx) (fun pre x post q=>?_) ?_ H.cs [] rfl
 · obtain⟨q1,q2⟩:=J9 q;have k:=K.cso x q2
   have:=K.cs
   have g:=b1g (ct:=ct) (d:=d) (H:={shapes:=hS H,marks:=hM H.mr,points:=hP H.pt,letters:=hL H.ls,gaps:=H.gp,classes:=hC pre}) (c:=x) W k (fun f hf=>a6h K (k.fs f hf)) (by unfold hC;rw[a3C];exact N3 (f:=fun m:Cs=>m.n) K.csn q) (by unfold hC;rw[aa];omega)
   unfold hC at g⊢;rw[snoc];exact g
 refine F8 a1N (fun l=>{shapes:=hS H,marks:=hM H.mr,points:=hP H.pt,letters:=hL H.ls,gaps:=H.gp,classes:=hC H.cs,features:=hF l}) (fun x hx=>a5N K hx) (fun pre x post q=>?_) ?_ H.fe [] rfl
 · obtain⟨q1,q2⟩:=J9 q
   have:=K.fe
   have g:=b3u (ct:=ct) (d:=d) (H:={shapes:=hS H,marks:=hM H.mr,points:=hP H.pt,letters:=hL H.ls,gaps:=H.gp,classes:=hC H.cs,features:=hF pre}) (p:=x) W (a1p K (ak.mpr ⟨x,q2,rfl⟩)) (by unfold hF;rw[a3C];exact N3 (f:=fun p=>p.1) K.fen.nd q) (by unfold hF;rw[aa];omega)
   unfold hF at g⊢;rw[snoc];exact g
 refine F8 Q6 (fun l=>{shapes:=hS H,marks:=hM H.mr,points:=hP H.pt,letters:=hL H.ls,gaps:=H.gp,classes:=hC H.cs,features:=hF H.fe,rules:=hR l}) (fun x hx=>a2F K hx) (fun pre x post q=>?_) (.nil _) H.ru [] rfl
 obtain⟨q1,q2⟩:=J9 q;have k:=K.ruo x q2
 have:=K.rul
 have g:=b3s (ct:=ct) (d:=d) (H:={shapes:=hS H,marks:=hM H.mr,points:=hP H.pt,letters:=hL H.ls,gaps:=H.gp,classes:=hC H.cs,features:=hF H.fe,rules:=hR pre}) (r:=x) W k (fun f hf=>a6h K hf) (fun c hc=>⟨(K.cso c hc).nm,by unfold hC;rw[a3C];exact ak.mpr ⟨c,hc,rfl⟩⟩) ⟨a1p K k.fe,by unfold hF;rw[a3C];exact k.fe⟩ (by unfold hR;rw[a3C];exact N3 (f:=fun m:Ru=>m.t) K.run q) (by unfold hR;rw[aa];omega)
 unfold hR at g⊢;rw[snoc];exact g
theorem b1i{c:Cs}:∀{cs:List Cs},(cs.map (·.n)).Nodup->c∈cs->n9 (kd (hC cs)) (.str c.n)=some (.tup (c.fs.map .str))
 | x ::r,hn,hc=>by
  have hn:=aN.mp hn;unfold n9 kd hC;rw[map_cons,map_cons,List.find?_cons]
  rcases aB.mp hc with rfl|hc
  · simp
  · have ne:¬(D.str x.n=D.str c.n):=fun e=>by
     injection e with e
     exact hn.1 (ak.mpr ⟨c,hc,e.symm⟩)
    simp only[ne,decide_false];exact b1i hn.2 hc
section
variable{F:Nat->Option Fn}
theorem b3K{a k x:E}:ev ct c (.dget a k x) env h=(ev ct c a env h).bind fun o h1=>if b0Y h1 o=true then(ev ct c k env h1).bind fun y h2=>(ev ct c x env h2).bind fun z h3=>a6p h3 o y z else .no:=by(rw[ev];try rfl)
theorem a9f{a:E}{l:List α}(rp:α->D)(P:o9->Prop)(hP:P env)(ha:ev ct c a env h=.ok (.ref s) h)(hs:h[s]? =some (.lst (l.map rp)))
 (hb:∀x∈l,∀env,P env->∃env1 env',D6 p (rp x) env=some env1/\exs ct c body env1 h=.ok (.nx env') h/\P env'):∃env',ex ct c (.for p (.seq a) body) env h=.ok (.nx env') h/\P env':=by
 obtain⟨env',h',q1,rfl,q2⟩:=B9 (g:=[(s,.lst (l.map rp))]) (p:=p) (body:=exs ct c body) (fun _ env h1=>h1=h/\P env) (fun j env h1 S=>by
  rw[S.1];simp[gOk,hs]) (l.map rp) 0 env h (fun j x env h1 hx hP=>by
  have hj:j<l.length:=by simpa using(ac.mp hx).1
  rw[aj,af hj] at hx
  obtain rfl:rp l[j]=x:=au hx;obtain⟨rfl,hP⟩:=hP;obtain⟨env1,env',b1,b2,b3⟩:=hb l[j] (bc hj) env hP;exact⟨env1,env',h1,b1,b2,rfl,b3⟩) ⟨rfl,hP⟩
 refine⟨env',?_,q2⟩
 rw[a0f,M6,ha,b8];simp only[L4,hs];rw[b8];exact q1
variable(W:PF F)(f33:F 33=some Y0)(f34:F 34=some n4)
include W f34
theorem a5e{k:Nat}{it:Str}(hn:b9 it=true):b4 ct F (k+2) 34 [.ref n,.str it] h=.ok (.tup [.str it]) h:=by
 rw[i6 f34 rfl];simp only[n4]
 have hst:Txt.startswith it "@"=false:=by
  have:=a7P W hn
  rw[show Txt.startswith it "@"=decide ((cd it).head? =some 64) from W4];refine bf fun e=>a1F hn (c:=64) (by decide) ?_
  cases hq:cd it with
  |nil=>rw[hq] at e;cases e
  |cons c r=>rw[hq] at e;injection e with e;subst e;exact .head _
 simp_arith[mtT,mtD,hst];exact x3 rfl
theorem a3E{k:Nat}{c:Cs}{H:HL}(K:HLok H)(A:HallAt h n (a0T H))(hc:c∈H.cs):b4 ct F (k+2) 34 [.ref n,.str (("@":Str)++c.n)] h=.ok (.tup (c.fs.map .str)) h:=by
 rw[i6 f34 rfl];simp only[n4]
 have hd:cd (("@":Str)++c.n)=64::cd c.n:=by rw[E1];rfl
 have ht:tl (("@":Str)++c.n)=c.n:=V0 (by rw[a3i,hd];rfl)
 have wk:=WOk.at (K.cso c hc).nm
 have hst:Txt.startswith (("@":Str)++c.n) "@"=true:=by
  rw[show Txt.startswith (("@":Str)++c.n) "@"=decide ((cd (("@":Str)++c.n)).head? =some 64) from W4,hd];rfl
 have co:=a0l (ct:=ct) (n:=k) (z:=("@":Str)++c.n) (h:=h) W (by have:=wk.p;omega) (by have:=wk.l;omega)
 rw[ht] at co
 have dc:b0Y h (.ref (n+6))=true:=by simp only[b0Y,A.c6]
 have dg:a6p h (.ref (n+6)) (.str c.n) (.tup [])=.ok (.tup (c.fs.map .str)) h:=by
  simp only[a6p,A.c6];rw[av (by rw[W9];cases hq:H.cs with|nil=>rw[hq] at hc;cases hc|cons a b=>simp[a0T,hC,kd,hq,J6]),show n9 (kd (a0T H).classes) (.str c.n)=_ from b1i K.csn hc]
  rfl
 simp_arith[mtT,mtD,hst,b3K,A.fld6,dc,co,dg];exact x3 (C1 _)
include f33
theorem a9h{k:Nat}{it s:Str}(hn:b9 it=true):b4 ct F (k+3) 33 [.ref n,.str it,.str s] h=.ok (.bl (decide (it=s))) h:=by
 rw[i6 f33 rfl];simp only[Y0]
 have hi:O1 false h (.str s) (.tup [.str it])=.ok (.bl (decide (it=s))) h:=by
  simp only[O1];rw[av (by rfl)]
  show R.ok (D.bl ((decide (it=s)||false) !=false)) h=_
  simp
 simp_arith[a5e W f34 hn,op2,hi];exact x3 rfl
theorem a7i{k:Nat}{c:Cs}{s:Str}{H:HL}(K:HLok H)(A:HallAt h n (a0T H))(hc:c∈H.cs):b4 ct F (k+3) 33 [.ref n,.str (("@":Str)++c.n),.str s] h=.ok (.bl (decide (s∈c.fs))) h:=by
 rw[i6 f33 rfl];simp only[Y0]
 have hi:O1 false h (.str s) (.tup (c.fs.map .str))=.ok (.bl (decide (s∈c.fs))) h:=by
  simp only[O1];rw[av (by rw[flat_strs];rfl),a1m]
  simp
 simp_arith[a3E W f34 K A hc,op2,hi];exact x3 rfl
end
noncomputable def Q9(H:HL)(it s:Str):Bool:=if(cd it).head? =some 64 then(match H.cs.find? fun c=>decide (("@":Str)++c.n=it) with
 |some c=>decide (s∈c.fs)
 |none=>false) else decide (it=s)
def B6(H:HL)(a b:Ru):Bool:=a.o.any fun s=>b.c.any fun it=>Q9 H it s
theorem a3S{n:Str}(h:b9 n=true):∃c r,cd n=c::r/\c≠64:=by
 cases hq:cd n with
 |nil=>
  have:=(a1k h).1
  rw[←o4,hq] at this;exact absurd this (by decide)
 |cons c r=>exact⟨c,r,rfl,fun e=>a1F h (c:=64) (by decide) (by rw[hq,e];exact .head _)⟩
theorem a6k{H:HL}{n s:Str}(h:b9 n=true):Q9 H n s=decide (n=s):=by
 obtain⟨c,r,e,hc⟩:=a3S h;unfold Q9;rw[aw];rw[e];exact fun z=>hc (au z)
theorem a2r(n:Str):cd (("@":Str)++n)=64::cd n:=by rw[E1];rfl
theorem b1O(h:("@":Str)++a=("@":Str)++b):a=b:=by
 have:=congrArg cd h
 rw[a2r,a2r] at this;exact V0 (List.cons.inj this).2
theorem b1r{c:Cs}:∀{cs:List Cs},(cs.map (·.n)).Nodup->c∈cs->(cs.find? fun x=>decide (("@":Str)++x.n=("@":Str)++c.n))=some c
 |x::r,hn,hc=>by
  have hn:=aN.mp hn;rw[List.find?_cons]
  rcases aB.mp hc with rfl|hc
  · simp
  · have ne:¬(("@":Str)++x.n=("@":Str)++c.n):=fun e=>hn.1 (ak.mpr ⟨c,hc,(b1O e).symm⟩)
    rw[bf ne];exact b1r hn.2 hc
theorem a4b{H:HL}{c:Cs}{s:Str}(K:HLok H)(h:c∈H.cs):Q9 H (("@":Str)++c.n) s=decide (s∈c.fs):=by
 unfold Q9;rw[av (by rw[a2r];rfl),b1r K.csn h]
section
variable{F:Nat->Option Fn}
theorem a4c{k:CF}{T:D}{g:List (Nat×Cell)}{s:Str}{c:Cs}{h:AH}(hg:gOk g h=true):∀(cs:List Cs) (e3 e4:Option D),(∀x∈cs,x.n.length<=12)->(cs.map (·.n)).Nodup->c∈cs->K6 g p34 (exs ct k lfB) (cs.map csD) [some T,some (.str (("@":Str)++c.n)),some (.str s),e3,e4] h=.ok (.rt (.bl (decide (s∈c.fs)))) h
 | x::r,e3,e4,hl,hn,hc=>by
  have hn:=aN.mp hn;have xl:=hl x (.head _)
  have st:exs ct k lfB [some T,some (.str (("@":Str)++c.n)),some (.str s),some (.str x.n),some (.tup (x.fs.map .str))] h=if("@":Str)++x.n=("@":Str)++c.n then .ok (.rt (.bl (decide (s∈x.fs)))) h else .ok (.nx [some T,some (.str (("@":Str)++c.n)),some (.str s),some (.str x.n),some (.tup (x.fs.map .str))]) h:=by
   have hi:O1 false h (.str s) (.tup (x.fs.map .str))=.ok (.bl (decide (s∈x.fs))) h:=by
    simp only[O1];rw[av (by rw[flat_strs];rfl),a1m]
    simp
   unfold lfB;simp_arith[op2,o0 (h:=h) (x:="@") (y:=x.n) (by rw[show(Str.ofString "@").length=1 from rfl];omega),C0,eqS]
   by_cases e:("@":Str)++x.n=("@":Str)++c.n
   · simp_arith[e,decide_true,op2,hi]
   · simp_arith[e,decide_false]
  rw[map_cons,K6,av hg]
  show(exs ct k lfB [some T,some (.str (("@":Str)++c.n)),some (.str s),some (.str x.n),some (.tup (x.fs.map .str))] h).bind _=_
  rw[st]
  by_cases e:("@":Str)++x.n=("@":Str)++c.n
  · rw[av e,b8]
    rcases aB.mp hc with rfl|hc
    · rfl
    · exact absurd (ak.mpr ⟨c,hc,(b1O e).symm⟩) hn.1
  · rw[aw e,b8]
    rcases aB.mp hc with rfl|hc
    · exact absurd rfl e
    · exact a4c hg r _ _ (fun y hy=>hl y (.tail _ hy)) hn.2 hc
theorem b0O{k:Nat}{it s:Str}{H:HL}(hF:F 217=some z9)(K:HLok H)(h5:Tl[5]? =some (.ref f))(hf:h[f]? =some (.lst (H.cs.map csD)))(ho:a0p H.sh H.cs it):b4 ct F (k+1) 217 [.tup Tl,.str it,.str s] h=.ok (.bl (Q9 H it s)) h:=by
 rw[i6 hF rfl];simp only[z9]
 show gcR 1 h (K2 (exs ct (b4 ct F k) _ [some (.tup Tl),some (.str it),some (.str s),none,none] h))=_
 rcases ho with ho|⟨c,hc,rfl⟩
 · have nm:=G9 K ho;have l:=U5 nm;obtain⟨c,r,e,hc⟩:=a3S nm
   have ix:ixD h (.str it) (.int 0)=.ok (.str ⟨#[c]⟩) h:=ix_str (i:=0) (by show _<=16777216;omega) (by rw[e];rfl)
   have ne:decide ((⟨#[c]⟩:Str)="@")=false:=bf fun z=>hc (by
    have:=congrArg cd z
    rw[show cd (Str.ofString "@")=[64] from rfl] at this;exact(List.cons.inj this).1)
   rw[a6k nm];simp_arith[ix,op2,a1h,C0,eqS,ne,Bool.not_false];exact x3 rfl
 · have wk:=WOk.at (K.cso c hc).nm;have wl:=wk.l
   have ix:ixD h (.str (("@":Str)++c.n)) (.int 0)=.ok (.str "@") h:=ix_str (i:=0) (c:=64) (by show _<=16777216;omega) (by rw[a2r];rfl)
   have t5:ixD h (.tup Tl) (.int 5)=.ok (.ref f) h:=ix_tup (i:=5) h5
   have lp:=a4c (ct:=ct) (k:=b4 ct F k) (T:=.tup Tl) (g:=[(f,.lst (H.cs.map csD))]) (s:=s) (c:=c) (h:=h) (by simp[gOk,hf]) H.cs none none (fun x hx=>U5 (K.cso x hx).nm) K.csn hc
   rw[a4b K hc];simp_arith[ix,op2,a1h,eqS,decide_true,Bool.not_true,t5,L4,hf,lp];exact x3 rfl
theorem a5c{α:Type}{g:List (Nat×Cell)}{p:Pat}{body:o9->AH->R Out}{h:AH}(rp:α->D)(B:α->Bool)(P:o9->Prop)(hg:gOk g h=true):∀(l:List α) (env:o9),P env->(∀x∈l,∀env,P env->∃env1 env',D6 p (rp x) env=some env1/\body env1 h=(if B x then .ok (.rt (.bl true)) h else .ok (.nx env') h)/\P env')→
 ∃env',P env'/\K6 g p body (l.map rp) env h=if l.any B then .ok (.rt (.bl true)) h else .ok (.nx env') h
 |[],env,hP,_=>⟨env,hP,by rw[map_nil,K6,av hg];rfl⟩
 |x::r,env,hP,hb=>by
  obtain⟨env1,env2,b1,b2,b3⟩:=hb x (.head _) env hP;obtain⟨env',q1,q2⟩:=a5c rp B P hg r env2 b3 fun y hy=>hb y (.tail _ hy)
  refine⟨env',q1,?_⟩
  rw[map_cons,K6,av hg,b1]
  simp only
  rw[b2,any_cons]
  cases B x with
  |true=>rfl
  |false=>exact q2
theorem a3V{k:Nat}{a b:Ru}{H:HL}(f217:F 217=some z9)(hF:F 218=some A8)(K:HLok H)(h5:Tl[5]? =some (.ref f))(hf:h[f]? =some (.lst (H.cs.map csD)))(hb:b∈H.ru):b4 ct F (k+2) 218 [.tup Tl,ruD a,ruD b] h=.ok (.bl (B6 H a b)) h:=by
 rw[i6 hF rfl];simp only[A8]
 show gcR 1 h (K2 (exs ct (b4 ct F (k+1)) _ [some (.tup Tl),some (ruD a),some (ruD b),none,none] h))=_
 have i5:ixD h (ruD a) (.int 5)=.ok (.tup (a.o.map .str)) h:=ix_tup (i:=5) rfl
 have i3:ixD h (ruD b) (.int 3)=.ok (.tup (b.c.map .str)) h:=ix_tup (i:=3) rfl
 obtain⟨env',⟨e3,e4,rfl⟩,q⟩:=a5c (g:=[]) (p:=.nm 3) (body:=exs ct (b4 ct F (k+1)) fdB) (h:=h) D.str (fun s=>b.c.any fun it=>Q9 H it s) (fun env=>∃e3 e4,env=[some (.tup Tl),some (ruD a),some (ruD b),e3,e4]) rfl a.o [some (.tup Tl),some (ruD a),some (ruD b),none,none] ⟨_,_,rfl⟩ (fun s _ env hP=>by
  obtain⟨e3,e4,rfl⟩:=hP
  obtain⟨env',⟨e4',rfl⟩,q⟩:=a5c (g:=[]) (p:=.nm 4) (body:=exs ct (b4 ct F (k+1)) b3D) (h:=h) D.str (fun it=>Q9 H it s) (fun env=>∃e4,env=[some (.tup Tl),some (ruD a),some (ruD b),some (.str s),e4]) rfl b.c [some (.tup Tl),some (ruD a),some (ruD b),some (.str s),e4] ⟨_,rfl⟩ (fun it hi env hP=>by
   obtain⟨e4,rfl⟩:=hP;refine⟨_,[some (.tup Tl),some (ruD a),some (ruD b),some (.str s),some (.str it)],rfl,?_,_,rfl⟩
   show exs ct (b4 ct F (k+1)) b3D [some (.tup Tl),some (ruD a),some (ruD b),some (.str s),some (.str it)] h=_
   unfold b3D;simp_arith[b0O (ct:=ct) (k:=k) (s:=s) f217 K h5 hf ((K.ruo b hb).c it hi)]
   cases Q9 H it s<;>simp_arith[])
  refine⟨_,[some (.tup Tl),some (ruD a),some (ruD b),some (.str s),e4'],rfl,?_,_,_,rfl⟩
  show exs ct (b4 ct F (k+1)) fdB [some (.tup Tl),some (ruD a),some (ruD b),some (.str s),e4] h=_
  unfold fdB;simp_arith[i3,L4,q]
  cases b.c.any fun it=>Q9 H it s<;>simp_arith[])
 simp_arith[i5,L4,q];unfold B6
 cases a.o.any fun s=>b.c.any fun it=>Q9 H it s
 · simp_arith[];exact x3 rfl
 · simp_arith[];exact x3 rfl
variable(W:PF F)(f33:F 33=some Y0)(f34:F 34=some n4)
include W f33 f34
theorem b3B{k:Nat}{it s:Str}{H:HL}(K:HLok H)(A:HallAt h n (a0T H))(ho:a0p H.sh H.cs it):b4 ct F (k+3) 33 [.ref n,.str it,.str s] h=.ok (.bl (Q9 H it s)) h:=by
 rcases ho with ho|⟨c,hc,rfl⟩
 · rw[a6k (G9 K ho)];exact a9h W f33 f34 (G9 K ho)
 · rw[a4b K hc];exact a7i W f33 f34 K A hc
theorem a8s{fr:List Nat}{a:E}(B:Str->Bool)(ha:ev ct c a env h=.ok (.tup (xs.map .str)) h)(hl:xs.length<=1000)(hx:∀x∈xs,ev ct c e (some (.str x)::fr.map fun j=>(env[j]?).join) h=.ok (.bl (B x)) h):
 ev ct c (.bi .any (.cons (.comp (.nm 0) (.seq a) 1 fr .yes e) .nil)) env h=.ok (.bl (xs.any B)) (h++[.lst (xs.map fun x=>.bl (B x))]):=by
 have r:=p8 (ct:=ct) (c:=c) (p:=.nm 0) (it:=.seq a) (n:=1) (fr:=fr) (e:=e) (env:=env) (h:=h) (l:=xs.map D.str) (g:=[]) (h1:=h) (by rw[M6,ha,b8];rfl) rfl (fun d=>match d with|.str x=>.bl (B x)|_=>.non) (fun d=>some d::fr.map fun j=>(env[j]?).join) (fun x hx'=>by
  obtain⟨y,hy,rfl⟩:=ak.mp hx';exact⟨rfl,hx y hy⟩) (by rw[aa];show _<=16777216;omega)
 rw[show(xs.map D.str).map (fun d=>match d with|D.str x=>D.bl (B x)|_=>D.non)=xs.map fun x=>D.bl (B x) by rw[aD];rfl] at r
 simp_arith[r,a5t]
theorem a8O{k:Nat}{s:Str}{H:HL}(hF:F 36=some x4)(K:HLok H)(A:HallAt h n (a0T H))(hl:its.length<=1000)(ho:∀it∈its,a0p H.sh H.cs it):b4 ct F (k+4) 36 [.ref n,.tup (its.map .str),.str s] h=.ok (.bl (its.any fun it=>Q9 H it s)) h:=by
 rw[i6 hF rfl];simp only[x4];have r:=a8s (ct:=ct) (c:=b4 ct F (k+3)) (e:=(.call 33 (.cons (.v 1) (.cons (.v 0) (.cons (.v 2) .nil))))) (fr:=[0,2]) (a:=.v 1) (env:=[some (.ref n),some (.tup (its.map .str)),some (.str s)]) (h:=h) (xs:=its) W f33 f34 (fun it=>Q9 H it s) (by simp_arith[]) hl (fun it hi=>by simp_arith[M4,b3B (ct:=ct) (k:=k) (s:=s) W f33 f34 K A (ho it hi)])
 show gcR 1 h (K2 (exs ct (b4 ct F (k+3)) _ [some (.ref n),some (.tup (its.map .str)),some (.str s)] h))=_
 rw[G5,a3c,r,b8,b8];exact gc1 rfl
theorem b1s{k:Nat}{a b:Ru}{H:HL}(f36:F 36=some x4)(hF:F 35=some Y1)(K:HLok H)(A:HallAt h n (a0T H))(ha:a∈H.ru)(hb:b∈H.ru):b4 ct F (k+5) 35 [.ref n,ruD a,ruD b] h=.ok (.bl (B6 H a b)) h:=by
 have lb:=(K.ruo b hb).c4;have la:=(K.ruo a ha).o3;rw[i6 hF rfl];simp only[Y1]
 have i5:ixD h (ruD a) (.int 5)=.ok (.tup (a.o.map .str)) h:=ix_tup (i:=5) rfl
 have i3:ixD h (ruD b) (.int 3)=.ok (.tup (b.c.map .str)) h:=ix_tup (i:=3) rfl
 have r:=a8s (ct:=ct) (c:=b4 ct F (k+4)) (e:=(.call 36 (.cons (.v 1) (.cons (.ix (.v 2) (.k (.int (3)))) (.cons (.v 0) .nil))))) (fr:=[0,2]) (a:=(.ix (.v 1) (.k (.int (5))))) (env:=[some (.ref n),some (ruD a),some (ruD b)]) (h:=h) (xs:=a.o) W f33 f34 (fun s=>b.c.any fun it=>Q9 H it s) (by simp_arith[i5]) (by omega) (fun s _=>by simp_arith[M4,i3,a8O (ct:=ct) (k:=k) (s:=s) W f33 f34 f36 K A (by omega) (K.ruo b hb).c])
 show gcR 1 h (K2 (exs ct (b4 ct F (k+4)) _ [some (.ref n),some (ruD a),some (ruD b)] h))=_
 rw[G5,a3c,r,b8,b8];exact gc1 rfl
end
noncomputable def shr(xs ys:List Str):List Str:=xs.filter fun x=>decide (x∈ys)
theorem a4y:x∈shr xs ys↔x∈xs/\x∈ys:=by
 unfold shr;rw[aV,decide_eq_true_iff]
def v8(fd:Str->List Str)(l:List Str):List Str:=l.filter fun t=>decide ((shr (fd t) l).length=0)
def U4(fd:Str->List Str)(l:List Str):List Str:=l.filter fun t=>!decide (t∈v8 fd l)
def wrd(fd:Str->List Str):Nat->List Str->Bool
 |0,_=>true
 |n+1,l=>if l.length=0 then true else if(v8 fd l).length=0 then false else wrd fd n (U4 fd l)
variable{fd:Str->List Str}
theorem N4{l:List Str}{t:Str}:t∈v8 fd l↔t∈l/\∀x∈l,x∉fd t:=by
 unfold v8;rw[aV,decide_eq_true_iff,length_eq_zero_iff];refine and_congr_right fun _=>⟨fun h x hx hf=>?_,fun h=>List.eq_nil_iff_forall_not_mem.mpr fun x hx=>?_⟩
 · have:x∈shr (fd t) l:=a4y.mpr ⟨hf,hx⟩
   rw[h] at this;cases this
 · obtain⟨h1,h2⟩:=a4y.mp hx;exact h x h2 h1
theorem a2G{l:List Str}{t:Str}:t∈U4 fd l↔t∈l/\t∉v8 fd l:=by
 unfold U4;rw[aV,Bool.not_eq_true',decide_eq_false_iff_not]
theorem a8g{α:Type}(p:α->Bool):∀l:List α,(l.filter p).length+(l.filter fun x=>!p x).length=l.length
 |[]=>rfl
 |a::l=>by
  have:=a8g p l
  rw[List.filter_cons,List.filter_cons]
  cases p a<;>simp<;>omega
theorem a2H(fd:Str->List Str)(l:List Str):(v8 fd l).length+(U4 fd l).length=l.length:=by
 have:U4 fd l=l.filter fun t=>!decide ((shr (fd t) l).length=0):=by
  unfold U4;refine List.filter_congr fun t ht=>?_
  by_cases e:(shr (fd t) l).length=0
  · have:t∈v8 fd l:=aV.mpr ⟨ht,aR e⟩
    rw[aR this,aR e]
  · have:t∉v8 fd l:=fun z=>e (aq (aV.mp z).2)
    rw[bf this,bf e]
 rw[this];unfold v8;exact a8g _ l
structure OInv(fd:Str->List Str)(T l o:List Str):Prop where
 nl:l.Nodup
 no:o.Nodup
 dj:∀x∈o,x∉l
 lT:∀x∈l,x∈T
 oT:∀x∈o,x∈T
 len:o.length+l.length=T.length
 pw:o.Pairwise fun a b=>b∉fd a
 sf:∀a∈o,a∉fd a
 lf:∀a∈o,∀b∈l,b∉fd a
theorem OInv.init{T:List Str}(h:T.Nodup):OInv fd T T []:=
 ⟨h,nodup_nil,nofun,fun _ h=>h,nofun,by simp,.nil,nofun,nofun⟩
theorem OInv.step{T l o:List Str}(I:OInv fd T l o):OInv fd T (U4 fd l) (o++v8 fd l) where
 nl:=I.nl.sublist List.filter_sublist
 no:=nodup_append.mpr ⟨I.no,I.nl.sublist List.filter_sublist,fun a ha b hb e=>I.dj a ha (e▸(N4.mp hb).1)⟩
 dj:=fun x hx hr=>by
  obtain⟨h1,h2⟩:=a2G.mp hr
  rcases aF.mp hx with h|h
  · exact I.dj x h h1
  · exact h2 h
 lT:=fun x hx=>I.lT x (a2G.mp hx).1
 oT:=fun x hx=>by
  rcases aF.mp hx with h|h
  · exact I.oT x h
  · exact I.lT x (N4.mp h).1
 len:=by
  have:=a2H fd l
  have:=I.len
  rw[am];omega
 pw:=List.pairwise_append.mpr ⟨I.pw,List.Pairwise.imp_of_mem (fun{a b} ha hb _=>(N4.mp ha).2 b (N4.mp hb).1) (List.pairwise_of_forall (R:=fun _ _=>True) fun _ _=>trivial),fun a ha b hb=>I.lf a ha b (N4.mp hb).1⟩
 sf:=fun a ha=>by
  rcases aF.mp ha with h|h
  · exact I.sf a h
  · exact(N4.mp h).2 a (N4.mp h).1
 lf:=fun a ha b hb=>by
  have hb':=(a2G.mp hb).1
  rcases aF.mp ha with h|h
  · exact I.lf a h b hb'
  · exact(N4.mp h).2 b hb'
structure OrdOk(fd:Str->List Str)(T R:List Str):Prop where
 nd:R.Nodup
 sub:∀x∈R,x∈T
 len:R.length=T.length
 ok:∀k x y,R[k]? =some x->y∈R.drop k->y∉fd x
theorem OInv.done{T o:List Str}(I:OInv fd T [] o):OrdOk fd T o where
 nd:=I.no
 sub:=I.oT
 len:=by have:=I.len;simpa using this
 ok :=fun k x y hx hy=>by
  obtain⟨hk,e⟩:=ac.mp hx
  rw[drop_eq_getElem_cons hk,e] at hy
  rcases aB.mp hy with rfl|hy
  · exact I.sf _ (mem_iff_getElem?.mpr ⟨k,hx⟩)
  · have pw:(o.drop k).Pairwise fun a b=>b∉fd a:=I.pw.sublist (List.drop_sublist k o)
    rw[drop_eq_getElem_cons hk,e] at pw;exact(List.pairwise_cons.mp pw).1 y hy
structure RInv(fd:Str->List Str)(l p:List Str)(t:Str):Prop where
 nd:p.Nodup
 sub:∀x∈p,x∈l
 tl:t∈l
 ch:∀i x y,p[i]? =some x->(p++[t])[i+1]? =some y->y∈fd x
theorem RInv.step{l p:List Str}{t u:Str}(I:RInv fd l p t)(ht:t∉p)(h1:u∈fd t)(h2:u∈l):RInv fd l (p++[t]) u where
 nd:=nodup_append.mpr ⟨I.nd,by simp,fun a ha b hb e=>ht (by rw[aI] at hb;rw[←hb,←e];exact ha)⟩
 sub:=fun x hx=>by
  rcases aF.mp hx with h|h
  · exact I.sub x h
  · rw[aI] at h;rw[h];exact I.tl
 tl:=h2
 ch :=fun i x y hx hy=>by
  by_cases e:i<p.length
  · rw[ap e] at hx
    rw[ap (by rw[am];simp;omega)] at hy
    exact I.ch i x y hx hy
  · have hi:i<(p++[t]).length:=(ac.mp hx).1
    rw[am,List.length_singleton] at hi;obtain rfl:i=p.length:=by omega
    have e1:x=t:=by simpa using hx.symm
    have e2:y=u:=by
     rw[ao (by simp)] at hy
     simpa using hy.symm
    rw[e1,e2];exact h1
theorem a2U:∀{p l:List Str},p.Nodup->(∀x∈p,x∈l)->p.length<=l.length
 |[],_,_,_=>Nat.zero_le _
 |a::p,l,n,h=>by
  have n':=aN.mp n
  have ha:=h a (by simp)
  have:=a2U (p:=p) (l:=l.erase a) n'.2 fun x hx=>(List.mem_erase_of_ne (show x≠a from fun e=>n'.1 (by rw[←e];exact hx))).mpr (h x (by simp[hx]))
  rw[List.length_erase_of_mem ha] at this
  have:=List.length_pos_of_mem ha
  rw[length_cons];omega
structure RngOk(fd:Str->List Str)(T R:List Str):Prop where
 nd:R.Nodup
 ne:R≠[]
 sub:∀x∈R,x∈T
 ok:∀x y,(x,y)∈R.zip (R.drop 1++R.take 1)->x∈fd y
theorem RInv.done{T l p:List Str}{t:Str}(I:RInv fd l p t)(hT:∀x∈l,x∈T)(hj:p[j]? =some t):RngOk fd T (p.drop j).reverse:=by
 have jl:=(ac.mp hj).1
 have hl:(p.drop j).reverse.length=p.length-j:=by rw[length_reverse,bg]
 refine⟨List.pairwise_reverse.mpr ((I.nd.sublist (List.drop_sublist j p)).imp fun h=>Ne.symm h),fun e=>?_,fun x hx=>hT x (I.sub x (mem_of_mem_drop (List.mem_reverse.mp hx))),fun x y h=>?_⟩
 · rw[e] at hl
   simp at hl
   omega
 · obtain⟨i,hi⟩:=mem_iff_getElem?.mp h;obtain⟨h1,h2⟩:=List.getElem?_zip_eq_some.mp hi
   have il:=(ac.mp h1).1
   rw[hl] at il
   have at':∀k,k<p.length-j->(p.drop j).reverse[k]? =p[p.length-1-k]? :=fun k hk=>by
    rw[List.getElem?_reverse (by rw[bg];exact hk),bg,List.getElem?_drop]
    congr 1;omega
   rw[at' i il] at h1
   by_cases e:i+1<p.length-j
   · rw[ap (by rw[bg,hl];omega),List.getElem?_drop,Nat.add_comm 1 i,at' (i+1) e] at h2
     refine I.ch (p.length-1-(i+1)) y x h2 ?_
     rw[ap (by omega),show p.length-1-(i+1)+1=p.length-1-i by omega]
     exact h1
   · obtain rfl:i=p.length-j-1:=by omega
     rw[ao (by rw[bg,hl];omega),bg,hl,Nat.sub_self,bh (by decide),at' 0 (by omega)] at h2
     refine I.ch (p.length-1) y x (by simpa using h2) ?_
     rw[show p.length-1+1=p.length by omega,ao (ai _),Nat.sub_self]
     rw[show p.length-1-(p.length-j-1)=j by omega,hj] at h1
     cases h1;rfl
theorem a6T{α β:Type}{f:α->β}:∀{l:List α},(l.map f).Nodup->∀{a b:α},a∈l->b∈l->f a=f b->a=b
 |[],_,_,_,h,_,_=>nomatch h
 |x::l,n,a,b,ha,hb,e=>by
  rw[map_cons,aN] at n
  rcases aB.mp ha with ea|ha
  · rcases aB.mp hb with eb|hb
    · rw[ea,eb]
    · exact absurd (ak.mpr ⟨b,hb,by rw[←e,ea]⟩) n.1
  · rcases aB.mp hb with eb|hb
    · exact absurd (ak.mpr ⟨a,ha,by rw[e,eb]⟩) n.1
    · exact a6T n.2 ha hb e
def tis(H:HL):List Str:=H.ru.map (·.t)
noncomputable def O5(H:HL)(t:Str):Ru:=(H.ru.find? fun r=>decide (r.t=t)).getD ⟨t,t,[],[],[],[]⟩
theorem W5{H:HL}(K:HLok H){r:Ru}(hr:r∈H.ru):O5 H r.t=r:=by
 unfold O5
 cases q:H.ru.find? fun x=>decide (x.t=r.t) with
 |none=>exact absurd (List.find?_eq_none.mp q r hr) (by simp)
 |some s=>
  have h2:=List.find?_some q
  exact a6T K.run (List.mem_of_find?_eq_some q) hr (aq h2)
theorem b2v{H:HL}(K:HLok H){t:Str}(h:t∈tis H):O5 H t∈H.ru/\(O5 H t).t=t:=by
 obtain⟨r,hr,rfl⟩:=ak.mp h;rw[W5 K hr];exact⟨hr,rfl⟩
def fdr(H:HL)(t:Str):List Str:=(H.ru.filter fun o=>B6 H o (O5 H t)).map (·.t)
theorem b3C{H:HL}(K:HLok H){s t:Str}(hs:s∈tis H):s∈fdr H t↔B6 H (O5 H s) (O5 H t)=true:=by
 obtain⟨r,hr,rfl⟩:=ak.mp hs;rw[W5 K hr];unfold fdr;refine⟨fun h=>?_,fun h=>ak.mpr ⟨r,aV.mpr ⟨hr,h⟩,rfl⟩⟩
 obtain⟨o,ho,e⟩:=ak.mp h;obtain⟨h1,h2⟩:=aV.mp ho;rw[←a6T K.run h1 hr e];exact h2
theorem a8h{H:HL}(K:HLok H)(t:Str):(fdr H t).length<=26:=by
 unfold fdr;rw[aa];exact aK (List.length_filter_le _ _) K.rul
theorem a8f:∀l:List Str,(l.map D.str).all w6=true
 |[]=>rfl
 |_::l=>a8f l
variable{neg:Bool}
theorem a7e(e:h[n]? =some (.lst (ys.map .str))):O1 neg h (.str x) (.ref n)=.ok (.bl (decide (x∈ys) !=neg)) h:=by
 have:(w6 (.str x)&&(ys.map D.str).all w6)=true:=by rw[a8f];rfl
 simp only[O1,e,this,if_true,a1m]
theorem eqi{a b:Int}:op2 .eq h (.int a) (.int b)=.ok (.bl (decide (a=b))) h:=rfl
theorem nei{a b:Int}:op2 .ne h (.int a) (.int b)=.ok (.bl (!decide (a=b))) h:=rfl
theorem gti{a b:Int}:op2 .gt h (.int a) (.int b)=.ok (.bl (decide (b<a))) h:=rfl
theorem b0a(l:List Ru):rd (hR l)=l.map ruD:=by
 unfold rd hR;rw[aD];rfl
variable{L:List (Str×D)}
theorem a8e{t:Str}(h:n9 (kd L) (.str t)=some d):(t,d)∈L:=by
 unfold n9 kd at h;obtain⟨p,hp,e⟩:=Option.map_eq_some_iff.mp h;have h1:=List.mem_of_find?_eq_some hp
 have h0:=List.find?_some hp
 have h2:p.1=.str t:=aq h0
 obtain⟨⟨a,b⟩,hq,rfl⟩:=ak.mp h1;cases h2;cases e;exact hq
theorem HallAt.mono{H:HD}(A:HallAt h n H)(p:Pf h h'):HallAt h' n H:=⟨p.at A.o,p.at A.c1,p.at A.c2,p.at A.c3,p.at A.c4,p.at A.c5,p.at A.c6,p.at A.c7,p.at A.c8⟩
structure FdAt(H:HL)(h:AH)(d:Nat):Prop where
 ix:∀t∈tis H,∃q,ixD h (.ref d) (.str t)=.ok (.ref q) h/\h[q]? =some (.lst ((fdr H t).map .str))
variable{q:Nat}
theorem Pf.ixk(p:Pf h0 h){d:Nat}{t:Str}(e:ixD h0 (.ref d) (.str t)=.ok (.ref q) h0):ixD h (.ref d) (.str t)=.ok (.ref q) h:=by
 cases c:h0[d]? with
 |none=>simp only[ixD,c] at e;cases e
 | some cc=>
  have c':=p.at c
  cases cc with
  |dict kvs=>
   simp only[ixD,c] at e;simp only[ixD,c']
   split at e
   · rename_i hk;rw[av hk]
     split at e
     · rename_i dd hd;cases e
       first|rfl|rw[hd]
     · cases e
   · cases e
  |_=>simp only[ixD,c] at e;cases e
theorem FdAt.mono{H:HL}{d:Nat}(A:FdAt H h0 d)(p:Pf h0 h):FdAt H h d:=⟨fun t ht=>by
 obtain⟨q,h1,h2⟩:=A.ix t ht;exact⟨q,p.ixk h1,p.at h2⟩⟩
variable{e1:Option D}
section
variable{F:Nat->Option Fn}
theorem a3L{k a b:Nat}(hF:F 39=some a0c)(ha:h[a]? =some (.lst (xs.map .str)))(hb:h[b]? =some (.lst (ys.map .str)))(hl:xs.length<=1000):
 b4 ct F (k+1) 39 [.ref a,.ref b] h=.ok (.ref h.length) (h++[.lst ((shr xs ys).map .str)]):=by
 have e:ev ct (b4 ct F k) (.comp (.nm 0) (.seq (.v 0)) 1 [1] (.cmp .isin (.v 0) (.v 1)) (.v 0)) [some (.ref a),some (.ref b)] h=.ok (.ref h.length) (h++[.lst (((xs.map D.str).filter fun d=>match d with
  |.str x=>decide (x∈ys)
  |_=>false).map fun d=>d)]):=
  F7 (l:=xs.map .str) (g:=[(a,.lst (xs.map .str))]) (by simp_arith[L4,ha]) (by simp[gOk,ha]) _ (fun d=>d) (fun d=>[some d,some (.ref b)]) (fun d hd=>by
   obtain⟨x,_,rfl⟩:=ak.mp hd;refine⟨rfl,?_,fun _=>by simp_arith[]⟩
   simp_arith[op2,a7e hb,Bool.bne_false]) (by show _<=16777216;rw[aa];omega)
 rw[i6 hF rfl]
 show gcR 2 h (K2 (exs ct (b4 ct F k) (.cons (.ret (.comp (.nm 0) (.seq (.v 0)) 1 [1] (.cmp .isin (.v 0) (.v 1)) (.v 0))) .nil) [some (.ref a),some (.ref b)] h))=_
 simp_arith[e];rw[filter_map,List.map_id'];exact gc2 (g:=[_]) b6 (ai _) (C1 _)
theorem a9l{a:E}{t:T}{fr:List Nat}{x:AH}{l:List Str}(B:Str->Bool)(ha:ev ct c a env h=.ok (.ref s) x)(hs:x[s]? =some (.lst (l.map .str)))(hl:l.length<=1000)
 (hx:∀y∈l,∀z,Pf x z->∃z',Pf z z'/\tst ct c t (some (.str y)::fr.map fun j=>(env[j]?).join) z=.ok (B y) z'):
 ∃z,Pf x z/\ev ct c (.comp (.nm 0) (.seq a) 1 fr t (.v 0)) env h=.ok (.ref z.length) (z++[.lst ((l.filter B).map .str)]):=by
 have key:∀(r:List Str) (acc:List D) (z:AH),(∀y∈r,y∈l)->Pf x z->acc.length+r.length<=SL->∃z',Pf z z'/\N6 [(s,.lst (l.map .str))] (.nm 0) (tst ct c t) (ev ct c (.v 0)) (A9 1 fr env) (r.map .str) acc z=.ok (acc++(r.filter B).map .str) z':=by
  intro r
  induction r with
  |nil=>
   intro acc z _ p _;exact⟨z,Pf.refl z,by rw[map_nil,N6,av (by simp[gOk,p.at hs])];simp⟩
  | cons y r ih=>
   intro acc z hr p hz;obtain⟨z1,p1,e1⟩:=hx y (hr y (by simp)) z p
   rw[length_cons] at hz;rw[map_cons,N6,av (by simp[gOk,p.at hs])]
   simp only[D6];rw[show(A9 1 fr env).set 0 (some (.str y))=some (.str y)::fr.map fun j=>(env[j]?).join from rfl,e1,b8]
   cases hb:B y with
   |true=>
    rw[av rfl];obtain⟨z2,p2,e2⟩:=ih (acc++[.str y]) z1 (fun w hw=>hr w (by simp[hw])) (p.trans p1) (by rw[am];simp;omega)
    refine⟨z2,p1.trans p2,?_⟩
    simp_arith[];rw[av (by omega),e2,List.filter_cons_of_pos hb]
    simp
   |false=>
    rw[aw (by decide)]
    obtain⟨z2,p2,e2⟩:=ih acc z1 (fun w hw=>hr w (by simp[hw])) (p.trans p1) (by omega)
    refine⟨z2,p1.trans p2,?_⟩
    rw[e2,List.filter_cons_of_neg (by rw[hb];decide)]
 obtain⟨z,p,e⟩:=key l [] x (fun _ h=>h) (Pf.refl x) (by show 0+_<=16777216;omega)
 refine⟨z,p,?_⟩
 exact a2p (x:=(l.map .str,[(s,.lst (l.map .str))])) (h1:=x) (by rw[M6,ha,b8];simp only[L4,hs]) e
theorem b4I{t:Str}(e:h[n]? =some (.dict (kd L)))(hn:t∉L.map (·.1))(hl:L.length<=1000):a0I h (.ref n) (.str t) d=.ok () (h.set n (.dict (kd (L++[(t,d)])))):=by
 simp only[a0I,e];rw[av ⟨W9 t L,by unfold kd;rw[aa];show _<16777216;omega⟩,a6N hn]
noncomputable def ttD(d:D):D:=match d with
 |.tup (x::_)=>x
 |_=>.non
variable(W:PF F)(f33:F 33=some Y0)(f34:F 34=some n4)(f35:F 35=some Y1)(f36:F 36=some x4)
include W f33 f34 f35 f36
theorem b6i{k:Nat}{r:Ru}{H:HL}(K:HLok H)(A:HallAt h n (a0T H))(hr:r∈H.ru):
 ev ct (b4 ct F (k+5)) fbE [some (.ref n),e1,some (ruD r)] h=.ok (.ref h.length) (h++[.lst ((fdr H r.t).map .str)]):=by
 have hc:h[n+8]? =some (.lst (H.ru.map ruD)):=by
  have:=A.c8
  rw[show(a0T H).rules=hR H.ru from rfl,b0a] at this;exact this
 have e:ev ct (b4 ct F (k+5)) fbE [some (.ref n),e1,some (ruD r)] h=.ok (.ref h.length) (h++[.lst (((H.ru.map ruD).filter fun d=>match d with
  |.tup (.str t::_)=>B6 H (O5 H t) r
  |_=>false).map ttD)]):=
  F7 (l:=H.ru.map ruD) (g:=[(n+8,.lst (H.ru.map ruD))]) (by simp_arith[A.fld8,L4,hc]) (by simp[gOk,hc]) _ ttD (fun d=>[some d,some (.ref n),some (ruD r)]) (fun d hd=>by
   obtain⟨o,ho,rfl⟩:=ak.mp hd;refine⟨rfl,?_,fun _=>?_⟩
   · simp_arith[b1s (ct:=ct) (k:=k) W f33 f34 f36 f35 K A ho hr]
     show R.ok (B6 H o r) h=.ok (B6 H (O5 H o.t) r) h
     rw[W5 K ho]
   · simp_arith[]
     rfl) (by show _<=16777216;rw[aa];have:=K.rul;omega)
 rw[e,filter_map,aD];unfold fdr;rw[W5 K hr,aD];congr 3
 have:(fun d:D=>match d with
  |.tup (.str t::_)=>B6 H (O5 H t) r
  |_=>false)∘ruD=fun o=>B6 H (O5 H o.t) r:=rfl
 rw[this,List.filter_congr (p:=fun o=>B6 H (O5 H o.t) r) (q:=fun o=>B6 H o r) fun o ho=>by rw[W5 K ho]]
 rfl
theorem a7j{k:Nat}{H:HL}(f38:F 38=some u5)(K:HLok H)(A:HallAt h n (a0T H)):
 ∃h',b4 ct F (k+6) 38 [.ref n] h=.ok (.ref h.length) h'/\Pf h h'/\h.length<h'.length/\FdAt H h' h.length:=by
 have hc:h[n+8]? =some (.lst (H.ru.map ruD)):=by
  have:=A.c8
  rw[show(a0T H).rules=hR H.ru from rfl,b0a] at this;exact this
 have P0:Pf h (h++[.dict []]):=(Pf.refl h).app _
 obtain⟨env',h',q1,e2,L,rfl,p1,c1,l1,v1⟩:=B9 (g:=[(n+8,.lst (H.ru.map ruD))]) (p:=.nm 2) (body:=exs ct (b4 ct F (k+5)) fbB)
  (fun j env z=>∃e2 L,env=[some (.ref n),some (.ref h.length),e2]/\Pf h z/\z[h.length]? =some (.dict (kd L))/\L.map (·.1)=(H.ru.take j).map (·.t)/\∀t d,(t,d)∈L->∃q,d=.ref q/\h.length<q/\z[q]? =some (.lst ((fdr H t).map .str)))
  (fun j env z S=>by
   obtain⟨_,_,_,p,_⟩:=S;simp[gOk,p.at hc]) (H.ru.map ruD) 0 [some (.ref n),some (.ref h.length),none] (h++[.dict []]) (fun j x env z hx S=>by
   obtain⟨e2,L,rfl,p,c,l,v⟩:=S;rw[ay] at l
   have hj:j<H.ru.length:=by simpa using(ac.mp hx).1
   rw[aj,af hj] at hx
   obtain rfl:ruD H.ru[j]=x:=au hx
   have hr:H.ru[j]∈H.ru:=bc hj
   have zl:h.length<z.length:=(ac.mp c).1
   have nk:H.ru[j].t∉L.map (·.1):=by
    rw[l];intro hm;have nd:=K.run;rw[←List.take_append_drop j H.ru,drop_eq_getElem_cons hj,al,map_cons] at nd;exact(nodup_append.mp nd).2.2 _ hm _ (by simp) rfl
   have ll:L.length<=26:=by
    have:=congrArg List.length l
    rw[aa,aa,aG] at this
    have:=K.rul
    omega
   refine⟨[some (.ref n),some (.ref h.length),some (ruD H.ru[j])],[some (.ref n),some (.ref h.length),some (ruD H.ru[j])],(z++[Cell.lst ((fdr H H.ru[j].t).map .str)]).set h.length (.dict (kd (L++[(H.ru[j].t,D.ref z.length)]))),rfl,?_,some (ruD H.ru[j]),L++[(H.ru[j].t,D.ref z.length)],rfl,(p.app _).set (ai _),?_,?_,?_⟩
   · unfold fbB
     have e0:∀g,ixD g (ruD H.ru[j]) (.int 0)=.ok (.str H.ru[j].t) g:=fun g=>ix_tup (i:=0) rfl
     simp_arith[b6i (ct:=ct) (k:=k) (e1:=some (.ref h.length)) W f33 f34 f35 f36 K (A.mono p) hr,e0,b4I (d:=D.ref z.length) (b5 (g:=[Cell.lst ((fdr H H.ru[j].t).map .str)]) c) nk (by omega)]
   · exact u7 (b5 c)
   · rw[al,l,ay,take_succ_eq_append_getElem hj,al];rfl
   · intro t d hd
     rcases aF.mp hd with hd|hd
     · obtain⟨q,rfl,q1,q2⟩:=v t d hd;exact⟨q,rfl,q1,b7 (by omega) (b5 q2)⟩
     · rw[aI] at hd;cases hd;exact⟨z.length,rfl,zl,b7 (by omega) b6⟩) ⟨none,[],rfl,P0,b6,rfl,nofun⟩
 rw[aa,ay,aS] at l1;refine⟨h',?_,p1,(ac.mp c1).1,⟨fun t ht=>?_⟩⟩
 · rw[i6 f38 rfl];simp only[u5];rw[gc0]
   show K2 (exs ct (b4 ct F (k+5)) _ [some (.ref n),none,none] h)=_
   rw[seq (env':=[some (.ref n),some (.ref h.length),none]) (h':=h++[.dict []]) (by simp_arith[y9])]
   rw[seq (env':=[some (.ref n),some (.ref h.length),e2]) (h':=h') (by
    rw[a0f,M6];simp_arith[(A.mono P0).fld8,L4,P0.at hc];exact q1)]
   simp_arith[]
 · have h1:(n9 (kd L) (.str t)).isSome=true:=by
    rw[a3a,l1];exact aR ht
   obtain⟨d,hd⟩:=Option.isSome_iff_exists.mp h1;obtain⟨q,rfl,_,q2⟩:=v1 t d (a8e hd);refine⟨q,?_,q2⟩
   simp only[ixD,c1,W9,hd,if_true]
end
theorem b3m{p:List Str}{t:Str}(h:t∈p):∃j,(p.findIdx? fun y=>decide (y=t))=some j/\p[j]? =some t:=by
 cases e:p.findIdx? fun y=>decide (y=t) with
 |none=>
  have:=List.findIdx?_eq_none_iff.mp e t h
  simp at this
 |some j=>
  obtain⟨hl,h1,_⟩:=List.findIdx?_eq_some_iff_getElem.mp e
  exact⟨j,rfl,by rw[af hl,aq h1]⟩
variable{lc:Nat}{e0:Option D}{e3:Option D}
section
variable{F:Nat->Option Fn}
theorem b1w{t:T}{b:Ss}:ex ct c (.whl t b) env h=a3v (tst ct c t) (exs ct c b) a2u env h:=by(rw[ex];try rfl)
theorem b6q{a:E}:ev ct c (.rev a) env h=(ev ct c a env h).bind fun x h1=>a9Z h1 x:=by(rw[ev];try rfl)
theorem b4p{k:Bool}{a x:E}:ev ct c (.lm k a x) env h=(ev ct c a env h).bind fun o h1=>if a7b h1 o=true then(ev ct c x env h1).bind fun y h2=>lmD k h2 o y else .no:=by(rw[ev];try rfl)
theorem b4O{xs:List D}(e:h[n]? =some (.lst xs)):a9Z h (.ref n)=.ok (.ref h.length) (h++[.lst xs.reverse]):=by
 simp only[a9Z,e];rfl
theorem a4W{xs:List D}(e:h[n]? =some (.lst xs)):a7b h (.ref n)=true:=by simp only[a7b,e]
theorem b5J{t:Str}(e:h[n]? =some (.lst (xs.map .str)))(hj:(xs.findIdx? fun y=>decide (y=t))=some j):lmD true h (.ref n) (.str t)=.ok (.int (j:Nat)) h:=by
 simp only[lmD,e,V4,hj,if_true]
theorem b5K{t:Str}(e:h[n]? =some (.lst (xs.map .str))):lmD false h (.ref n) (.str t)=.ok (.int ((xs.countP fun y=>decide (y=t):Nat):Int)) h:=by
 simp only[lmD,e,V4,Bool.false_eq_true,if_false]
theorem b6j{m:Nat}{xs ys:List D}(e:h[n]? =some (.lst xs))(e2:h[m]? =some (.lst ys))(hl:xs.length+ys.length<=1000000):mtD .extend h (.ref n) [.ref m]=.ok .non (h.set n (.lst (xs++ys))):=by
 simp only[mtD,e,e2];rw[av (by show _<=16777216;omega)]
theorem b3c{xs:List D}(e:h[n]? =some (.lst xs)):mtT .extend h (.ref n)=true:=by
 simp only[mtT,rdL,e,Option.isSome_some]
variable(f39:F 39=some a0c)
include f39
theorem a7K{k d lc:Nat}{H:HL}{l:List Str}{h:AH}(K:HLok H)(D0:FdAt H h d)(hl:h[lc]? =some (.lst (l.map .str)))(lT:∀x∈l,x∈tis H)(l26:l.length<=26)(ne:∀t∈l,shr (fdr H t) l≠[]):
 ∀(n:Nat) (p:List Str) (t:Str) (z:AH),RInv (fdr H) l p t->Pf h z->z[h.length]? =some (.lst (p.map .str))->l.length<p.length+n→
  ∃p' t' z',a3v (tst ct (b4 ct F (k+1)) raT) (exs ct (b4 ct F (k+1)) raB) n [some (.ref d),some (.ref lc),some (.ref h.length),some (.str t)] z=.ok (.nx [some (.ref d),some (.ref lc),some (.ref h.length),some (.str t')]) z'/\RInv (fdr H) l p' t'/\t'∈p'/\Pf h z'/\z'[h.length]? =some (.lst (p'.map .str))
 |0,p,t,z,I,P,hp,hn=>absurd (a2U I.nd I.sub) (by omega)
 | n +1,p,t,z,I,P,hp,hn=>by
  have tt:tst ct (b4 ct F (k+1)) raT [some (.ref d),some (.ref lc),some (.ref h.length),some (.str t)] z=.ok (decide (t∈p) !=true) z:=by
   unfold raT;simp_arith[op2,a7e hp]
  rw[a3v,tt,b8]
  by_cases ht:t∈p
  · rw[aR ht,aw (by decide)]
    exact⟨p,t,z,rfl,I,ht,P,hp⟩
  · rw[bf ht,av (by decide)]
    obtain⟨q,g1,g2⟩:=D0.ix t (lT t I.tl)
    have P1:Pf h (z.set h.length (.lst (p.map .str++[.str t]))):=P.set (ai _)
    have z1:(z.set h.length (Cell.lst (p.map .str++[.str t])))[h.length]? =some (.lst ((p++[t]).map .str)):=by
     rw[u7 hp,al];rfl
    have sh:=a3L (ct:=ct) (k:=k) (a:=q) (b:=lc) (h:=z.set h.length (.lst (p.map .str++[.str t]))) f39 (P1.at g2) (P1.at hl) (by have:=a8h K t;omega)
    obtain⟨u,us,eu⟩:=List.exists_cons_of_ne_nil (ne t I.tl)
    have hu:u∈shr (fdr H t) l:=by rw[eu];simp
    have i0:∀g:AH,ixD (g++[Cell.lst ((shr (fdr H t) l).map .str)]) (.ref g.length) (.int 0)=.ok (.str u) (g++[.lst ((shr (fdr H t) l).map .str)]):=fun g=>o8 0 0 rfl b6 (by rw[eu];rfl)
    have pl:p.length<=26:=by have:=a2U I.nd I.sub;omega
    have st:exs ct (b4 ct F (k+1)) raB [some (.ref d),some (.ref lc),some (.ref h.length),some (.str t)] z=.ok (.nx [some (.ref d),some (.ref lc),some (.ref h.length),some (.str u)]) (z.set h.length (.lst (p.map .str++[.str t]))++[.lst ((shr (fdr H t) l).map .str)]):=by
     unfold raB;rw[seq (env':=[some (.ref d),some (.ref lc),some (.ref h.length),some (.str t)]) (h':=z.set h.length (.lst (p.map .str++[.str t]))) (by simp_arith[E3 hp,K9 (d:=.str t) hp (by rw[aa];omega)])]
     simp_arith[P1.ixk g1,sh,i0]
    rw[st,b8];obtain⟨h1,h2⟩:=a4y.mp hu;exact a7K K D0 hl lT l26 ne n (p++[t]) u _ (I.step ht h1 h2) (P1.app _) (b5 z1) (by rw[am,List.length_singleton];omega)
theorem b2w{k d:Nat}{H:HL}{l:List Str}(f40:F 40=some C9)(K:HLok H)(D0:FdAt H h d)(hl:h[lc]? =some (.lst (l.map .str)))(lT:∀x∈l,x∈tis H)(l26:l.length<=26)(l0:0<l.length)(ne:∀t∈l,shr (fdr H t) l≠[]):
 ∃R,RngOk (fdr H) (tis H) R/\b4 ct F (k+2) 40 [.ref d,.ref lc] h=.ok (.ref h.length) (h++[.lst (R.map .str)]):=by
 have P0:Pf h (h++[.lst []]):=(Pf.refl h).app _
 obtain⟨t0,ts,e0⟩:=List.exists_cons_of_length_pos l0;obtain⟨p,t,z,w1,I,tp,P,hp⟩:=a7K (ct:=ct) (k:=k) f39 K D0 hl lT l26 ne a2u [] t0 (h++[.lst []]) ⟨nodup_nil,nofun,by rw[e0];simp,nofun⟩ P0 b6 (by show _<0+1000000;omega)
 obtain⟨j,j1,j2⟩:=b3m tp;refine⟨(p.drop j).reverse,I.done lT j2,?_⟩
 rw[i6 f40 rfl];simp only[C9]
 show gcR 2 h (K2 (exs ct (b4 ct F (k+1)) _ [some (.ref d),some (.ref lc),none,none] h))=_
 rw[seq (env':=[some (.ref d),some (.ref lc),some (.ref h.length),none]) (h':=h++[.lst []]) (by simp_arith[y9])]
 rw[seq (env':=[some (.ref d),some (.ref lc),some (.ref h.length),some (.str t0)]) (h':=h++[.lst []]) (by simp_arith[o8 0 0 rfl (P0.at hl) (show(l.map D.str)[0]? =some (.str t0) by rw[e0];rfl)])]
 rw[seq (env':=[some (.ref d),some (.ref lc),some (.ref h.length),some (.str t)]) (h':=z) (by rw[b1w];exact w1)]
 have sl:slD z (some ((j:Nat):Int)) none (.ref h.length)=.ok (.ref z.length) (z++[.lst ((p.drop j).map .str)]):=by rw[J5 hp,G7,map_drop]
 simp_arith[b6q,b4p,a4W hp,b5J hp j1,sl,b4O (show(z++[Cell.lst ((p.drop j).map .str)])[z.length]? =some (.lst ((p.drop j).map .str)) from b6)];rw[←map_reverse];exact a7g ((P.app _).app _) b6 (by rw[am];have:=P.len;omega) (C1 _)
theorem b4N{k d:Nat}{H:HL}{l:List Str}{z:AH}{e4:Option D}(K:HLok H)(D0:FdAt H z d)(hl:z[lc]? =some (.lst (l.map .str)))(lT:∀x∈l,x∈tis H)(l26:l.length<=26):
 ∃y,Pf z y/\ev ct (b4 ct F (k+1)) roF [e0,some (.ref d),some (.ref lc),e3,e4] z=.ok (.ref y.length) (y++[.lst ((v8 (fdr H) l).map .str)]):=by
 refine a9l (fun t=>decide ((shr (fdr H t) l).length=0)) (x:=z) (s:=lc) (by simp_arith[]) hl (by omega) fun t ht y py=>?_
 obtain⟨q,g1,g2⟩:=D0.ix t (lT t ht);have sh:=a3L (ct:=ct) (k:=k) (a:=q) (b:=lc) (h:=y) f39 (py.at g2) (py.at hl) (by have:=a8h K t;omega)
 refine⟨y++[.lst ((shr (fdr H t) l).map .str)],(Pf.refl y).app _,?_⟩
 show tst ct (b4 ct F (k+1)) _ [some (.str t),some (.ref d),some (.ref lc)] y=_
 simp_arith[py.ixk g1,sh,n8 (show(y++[Cell.lst ((shr (fdr H t) l).map .str)])[y.length]? =_ from b6),eqi,aa];congr 1;exact decide_eq_decide.mpr (by omega)
theorem b4M{fc:Nat}{l f:List Str}{z:AH}(hl:z[lc]? =some (.lst (l.map .str)))(hf:z[fc]? =some (.lst (f.map .str)))(l26:l.length<=26):
 ev ct c roR [e0,e1,some (.ref lc),e3,some (.ref fc)] z=.ok (.ref z.length) (z++[.lst ((l.filter fun t=>!decide (t∈f)).map .str)]):=by
 have e:ev ct c roR [e0,e1,some (.ref lc),e3,some (.ref fc)] z=.ok (.ref z.length) (z++[.lst (((l.map D.str).filter fun d=>match d with
  |.str x=>!decide (x∈f)
  |_=>false).map fun d=>d)]):=
  F7 (l:=l.map .str) (g:=[(lc,.lst (l.map .str))]) (by simp_arith[L4,hl]) (by simp[gOk,hl]) _ (fun d=>d) (fun d=>[some d,some (.ref fc)]) (fun d hd=>by
   obtain⟨x,_,rfl⟩:=ak.mp hd;refine⟨rfl,?_,fun _=>by simp_arith[]⟩
   simp_arith[op2,a7e hf,Bool.bne_true]) (by show _<=16777216;rw[aa];omega)
 rw[e,filter_map,List.map_id'];rfl
theorem a7H {k d n:Nat} {H:HL} {h:AH} (f40:F 40=some C9) (K:HLok H) (D0:FdAt H h d):
   ∀ (m :Nat) (l o:List Str) (z:AH) (lc oc:Nat) (e4:Option D),OInv (fdr H) (tis H) l o->Pf h z->h.length<=oc->lc≠oc->z[oc]? =some (.lst (o.map .str))->z[lc]? =some (.lst (l.map .str))->l.length<m→
     ∃ out z',a3v (tst ct (b4 ct F (k+2)) roT) (exs ct (b4 ct F (k+2)) roB) m [some (.ref n),some (.ref d),some (.ref lc),some (.ref oc),e4] z=.ok out z'/\Pf h z'∧
       ((wrd (fdr H) m l=true/\∃lc' e4' R,out=.nx [some (.ref n),some (.ref d),some (.ref lc'),some (.ref oc),e4']/\z'[oc]? =some (.lst (R.map .str))/\OrdOk (fdr H) (tis H) R)∨
        (wrd (fdr H) m l=false/\∃q R,out=.rt (.tup [.str "ring",.ref q])/\h.length<=q/\z'[q]? =some (.lst (R.map .str))/\RngOk (fdr H) (tis H) R))
 |0,l,o,z,lc,oc,e4,I,P,ho,ne,hO,hL,hm=>absurd hm (by omega)
 | m + 1,l,o,z,lc,oc,e4,I,P,ho,ne,hO,hL,hm=>by
   have T26:(tis H).length<=26:=by unfold tis;rw[aa];exact K.rul
   have il:=I.len
   have tt:tst ct (b4 ct F (k+2)) roT [some (.ref n),some (.ref d),some (.ref lc),some (.ref oc),e4] z=.ok (decide (0<l.length)) z:=by
     unfold roT;simp_arith[n8 hL,gti,aa];congr 1;exact decide_eq_decide.mpr (by omega)
   rw[a3v,tt,b8]
   by_cases l0:l.length=0
   · rw[bf (by omega),aw (by decide)]
     refine⟨_,z,rfl,P,.inl ⟨by rw[wrd,av l0],lc,e4,o,rfl,hO,?_⟩⟩
     cases length_eq_zero_iff.mp l0
     exact I.done
   · rw[aR (by omega),av rfl]
     obtain⟨y,py,ef⟩:=b4N (ct:=ct) (k:=k+1) (e0:=some (.ref n)) (e3:=some (.ref oc)) (e4:=e4) f39 K (D0.mono P) hL I.lT (by omega)
     have Fn:(y++[Cell.lst ((v8 (fdr H) l).map .str)])[y.length]? =some (.lst ((v8 (fdr H) l).map .str)):=b6
     have P1:Pf z (y++[Cell.lst ((v8 (fdr H) l).map .str)]):=py.app _
     generalize hg:y++[Cell.lst ((v8 (fdr H) l).map .str)]=y1 at ef Fn P1;have lf:=n8 Fn;rw[aa] at lf;unfold roB
     by_cases f0:(v8 (fdr H) l).length=0
     · have hne:∀t∈l,shr (fdr H t) l≠[]:=fun t ht e=>by
         have:t∈v8 (fdr H) l:=aV.mpr ⟨ht,by rw[e];rfl⟩
         rw[length_eq_zero_iff.mp f0] at this;cases this
       obtain⟨R,r1,r2⟩:=b2w (ct:=ct) (k:=k) f39 f40 K ((D0.mono P).mono P1) (P1.at hL) I.lT (by omega) (by omega) hne
       refine⟨.rt (.tup [.str "ring",.ref y1.length]),y1++[.lst (R.map .str)],?_,(P.trans P1).app _,.inr ⟨by rw[wrd,aw l0,av f0],y1.length,R,rfl,(P.trans P1).len,b6,r1⟩⟩
       rw[seq (env':=[some (.ref n),some (.ref d),some (.ref lc),some (.ref oc),some (.ref y.length)]) (h':=y1) (by simp_arith[ef])]
       unfold roI;simp_arith[lf,eqi,f0,Int.cast_ofNat_Int,decide_true,r2]
     · have yo:y.length≠oc:=fun e=>by
         have:=py.len
         have:=(ac.mp hO).1
         omega
       have X:=b6j (P1.at hO) Fn (by rw[aa,aa];have:=a2H (fdr H) l;omega)
       have P2:Pf h (y1.set oc (.lst (o.map .str++(v8 (fdr H) l).map .str))):=(P.trans P1).set ho
       have rr:=b4M (ct:=ct) (F:=F) (c:=b4 ct F (k+2)) (e0:=some (.ref n)) (e1:=some (.ref d)) (e3:=some (.ref oc)) (z:=y1.set oc (.lst (o.map .str++(v8 (fdr H) l).map .str))) f39 (b7 (Ne.symm ne) (P1.at hL)) (b7 (Ne.symm yo) Fn) (by omega)
       have st:exs ct (b4 ct F (k+2)) (.cons (.set 4 roF) (.cons roI (.cons (.ex (.mt .extend (.v 3) (.cons (.v 4) .nil))) (.cons (.set 2 roR) .nil)))) [some (.ref n),some (.ref d),some (.ref lc),some (.ref oc),e4] z=.ok (.nx [some (.ref n),some (.ref d),some (.ref (y1.set oc (.lst (o.map .str++(v8 (fdr H) l).map .str))).length),some (.ref oc),some (.ref y.length)]) (y1.set oc (.lst (o.map .str++(v8 (fdr H) l).map .str))++[.lst ((U4 (fdr H) l).map .str)]):=by
         rw[seq (env':=[some (.ref n),some (.ref d),some (.ref lc),some (.ref oc),some (.ref y.length)]) (h':=y1) (by simp_arith[ef])]
         rw[seq (env':=[some (.ref n),some (.ref d),some (.ref lc),some (.ref oc),some (.ref y.length)]) (h':=y1) (by
           unfold roI;simp_arith[lf,eqi,show decide ((((v8 (fdr H) l).length:Nat):Int)=0)=false from bf (by omega)])]
         rw[seq (env':=[some (.ref n),some (.ref d),some (.ref lc),some (.ref oc),some (.ref y.length)]) (h':=y1.set oc (.lst (o.map .str++(v8 (fdr H) l).map .str))) (by simp_arith[b3c (P1.at hO),X])]
         rw[seq (by rw[a3b,rr,b8]),a1q]
         rfl
       rw[st,b8];have rl:=a2H (fdr H) l
       obtain⟨out,z',w1,w2,w3⟩:=a7H f40 K D0 m (U4 (fdr H) l) (o++v8 (fdr H) l) _ (y1.set oc (.lst (o.map .str++(v8 (fdr H) l).map .str))).length oc (some (.ref y.length)) I.step (P2.app [.lst ((U4 (fdr H) l).map .str)]) ho (by
         rw[length_set]
         have:=(ac.mp (P1.at hO)).1
         omega) (by rw[b5 (u7 (P1.at hO)),al]) b6 (by omega)
       refine⟨out,z',w1,w2,?_⟩
       rw[wrd,aw l0,aw f0];exact w3
variable(W:PF F)(f33:F 33=some Y0)(f34:F 34=some n4)(f35:F 35=some Y1)(f36:F 36=some x4)
include W f33 f34 f35 f36
def b9K(H:HL)(w:Str)(R:List Str):Prop:=(w="order"/\OrdOk (fdr H) (tis H) R)∨(w="ring"/\RngOk (fdr H) (tis H) R)
def N7(H:HL):Str:=if wrd (fdr H) a2u (tis H)=true then "order" else "ring"
theorem a5O{k:Nat}{H:HL}(f37:F 37=some L8)(f38:F 38=some u5)(f40:F 40=some C9)(K:HLok H)(A:HallAt h n (a0T H)):
 ∃q R h',b4 ct F (k+7) 37 [.ref n] h=.ok (.tup [.str (N7 H),.ref q]) h'/\Pf h h'/\h.length<=q/\h'[q]? =some (.lst (R.map .str))/\b9K H (N7 H) R:=by
 obtain⟨x,e1,p1,x1,D0⟩:=a7j (ct:=ct) (k:=k) W f33 f34 f35 f36 f38 K A
 have hc:x[n+8]? =some (.lst (H.ru.map ruD)):=by
  have:=(A.mono p1).c8
  rw[show(a0T H).rules=hR H.ru from rfl,b0a] at this;exact this
 have el:ev ct (b4 ct F (k+6)) roL [some (.ref n),some (.ref h.length),none,none,none] x=.ok (.ref x.length) (x++[.lst ((tis H).map .str)]):=by
  have:=p8 (ct:=ct) (c:=b4 ct F (k+6)) (env:=[some (.ref n),some (.ref h.length),none,none,none]) (h:=x) (e:=(.ix (.v 0) (.k (.int (0))))) (p:=.nm 0) (it:=(.seq (.fld (.v 0) "rules"))) (n:=1) (fr:=[]) (l:=H.ru.map ruD) (g:=[(n+8,.lst (H.ru.map ruD))]) (h1:=x) (by simp_arith[(A.mono p1).fld8,L4,hc]) (by simp[gOk,hc]) ttD (fun d=>[some d]) (fun d hd=>by
   obtain⟨o,_,rfl⟩:=ak.mp hd;refine⟨rfl,?_⟩
   simp_arith[]
   rfl) (by show _<=16777216;rw[aa];have:=K.rul;omega)
  unfold roL tis;rw[this,aD,aD];rfl
 have T26:(tis H).length<=26:=by unfold tis;rw[aa];exact K.rul
 obtain⟨out,z,w1,w2,w3⟩:=a7H (ct:=ct) (k:=k+4) (n:=n) (d:=h.length) f39 f40 K D0 a2u (tis H) [] (x++[.lst ((tis H).map .str)]++[.lst []]) x.length (x++[Cell.lst ((tis H).map .str)]).length none (OInv.init K.run) (((Pf.refl x).app _).app _) (by simp) (by simp) b6 (b5 b6) (by show _<1000000;omega)
 have hd:∀T,K2 (exs ct (b4 ct F (k+6)) (.cons (.set 1 (.call 38 (.cons (.v 0) .nil))) (.cons (.set 2 roL) (.cons (.set 3 (.lst .nil)) (.cons (.whl roT roB) T)))) [some (.ref n),none,none,none,none] h)=K2 ((R.ok out z).bind fun o h1=>match o with
  |.nx env'=>exs ct (b4 ct F (k+6)) T env' h1
  |.rt d=>.ok (.rt d) h1):=fun T=>by
  rw[seq (env':=[some (.ref n),some (.ref h.length),none,none,none]) (h':=x) (by simp_arith[e1])]
  rw[seq (env':=[some (.ref n),some (.ref h.length),some (.ref x.length),none,none]) (h':=x++[.lst ((tis H).map .str)]) (by rw[a3b,el,b8];rfl)]
  rw[seq (env':=[some (.ref n),some (.ref h.length),some (.ref x.length),some (.ref (x++[Cell.lst ((tis H).map .str)]).length),none]) (h':=x++[.lst ((tis H).map .str)]++[.lst []]) (by simp_arith[y9])]
  rw[G5,b1w,w1]
  all_goals (cases out<;>rfl)
 have xl:=p1.len
 rcases w3 with⟨v1,lc',e4',R,rfl,r2,r3⟩|⟨v1,q,R,rfl,r2,r3,r4⟩
 · have wo:N7 H="order":=by unfold N7;rw[av v1]
   refine⟨(x++[Cell.lst ((tis H).map .str)]).length,R,z,?_,p1.trans w2,by rw[am];omega,r2,.inl ⟨wo,r3⟩⟩
   rw[i6 f37 rfl,wo];simp only[L8];rw[gc0];refine(hd _).trans ?_
   rw[b8];simp_arith[]
 · have wo:N7 H="ring":=by unfold N7;rw[aw (by rw[v1];decide)]
   refine⟨q,R,z,?_,p1.trans w2,by omega,r3,.inr ⟨wo,r4⟩⟩
   rw[i6 f37 rfl,wo];simp only[L8];rw[gc0];refine(hd _).trans ?_
   rw[b8];simp_arith[]
end
theorem a5P:∀(r pre:List (Str×D)),((pre++r).map (·.1)).Nodup->(kd r).foldl (fun a p=>a1g a p.1 p.2) (kd pre)=kd (pre++r)
 |[],pre,_=>by rw[aQ];rfl
 | p::r,pre,h=>by
  have hp:p.1∉pre.map (·.1):=fun hm=>by
   rw[al,map_cons] at h;exact(nodup_append.mp h).2.2 _ hm _ (by simp) rfl
  rw[show kd (p::r)=(.str p.1,p.2)::kd r from rfl,foldl_cons]
  show List.foldl _ (a1g (kd pre) (.str p.1) p.2) (kd r)=_
  rw[a6N hp,a5P r (pre++[(p.1,p.2)]) (by rw[ax];exact h),ax]
  rfl
def ruL(l:List Ru):List (Str×D):=l.map fun r=>(r.t,ruD r)
def ruP(r:Ru):D:=.tup [.str r.t,ruD r]
theorem b0l:∀l:List Ru,a8I (l.map ruP)=some (kd (ruL l))
 |[]=>rfl
 |r::l=>by
  rw[map_cons,show ruP r=.tup [.str r.t,ruD r] from rfl,a8I,av (show(J6 (D.str r.t)).isSome=true from rfl),b0l l];rfl
theorem b3Q{H:HL}(K:HLok H)(e:h[n]? =some (.lst (H.ru.map ruP))):biD .dict h [.ref n]=.ok (.ref h.length) (h++[.dict (kd (ruL H.ru))]):=by
 have r1:rdL h n=some (H.ru.map ruP):=by unfold rdL;rw[e]
 have fo:(kd (ruL H.ru)).foldl (fun a p=>a1g a p.1 p.2) []=kd (ruL H.ru):=a5P (ruL H.ru) [] (by rw[nil_append];unfold ruL;rw[aD];exact K.run)
 simp only[biD,e,r1,b0l,fo,y9]
theorem a7A(l:List Ru):(ruL l).map (·.1)=l.map (·.t):=by unfold ruL;rw[aD];rfl
theorem a7B{H:HL}(K:HLok H)(e:h[n]? =some (.dict (kd (ruL H.ru))))(hx:x∈tis H):ixD h (.ref n) (.str x)=.ok (ruD (O5 H x)) h:=by
 have h1:(n9 (kd (ruL H.ru)) (.str x)).isSome=true:=by
  rw[a3a,a7A];exact aR hx
 obtain⟨d,hd⟩:=Option.isSome_iff_exists.mp h1;obtain⟨r,hr,e2⟩:=ak.mp (a8e hd);cases e2;simp only[ixD,e,W9,hd,if_true];rw[W5 K hr]
theorem b5B{l:List (Str×D)}{k:Str}(e:h[n]? =some (.dict (kd l))):O1 true h (.str k) (.ref n)=.ok (.bl (decide (k∈l.map (·.1)) !=true)) h:=by
 simp only[O1,e,W9,if_true,a3a]
theorem b8X{x:Str}:∀{l:List Str},l.Nodup->x∈l->(l.countP fun y=>decide (y=x))=1
 |a::l,n,h=>by
  rw[aN] at n;rw[countP_cons]
  by_cases e:a=x
  · have:(l.countP fun y=>decide (y=x))=0:=List.countP_eq_zero.mpr fun y hy z=>n.1 (by rw[e,←aq z];exact hy)
    rw[this,aR e];rfl
  · rw[b8X n.2 ((aB.mp h).resolve_left (Ne.symm e)),bf e];rfl
theorem a5x:∀xs ys:List Str,a0E (xs.map .str) (ys.map .str)=(xs.zip ys).map fun p=>D.tup [.str p.1,.str p.2]
 |[],_=>rfl
 |_::_,[]=>rfl
 |x::xs,y::ys=>by
  rw[map_cons,map_cons,a0E,a5x xs ys];rfl
theorem c0n:op2 .ne h (.str x) (.str y)=.ok (.bl (!decide (x=y))) h:=rfl
theorem b3T(xs:List D):S8 xs none (some 1)=xs.take 1:=by
 unfold S8
 cases xs with
 |nil=>rfl
 |cons a l=>
  have h1:HT.sIx (a::l).length (a::l).length (some 1)=1:=by simp[HT.sIx]
  have h0:HT.sIx (a::l).length 0 none=0:=rfl
  rw[h1,h0];rfl
noncomputable def b8e(h:AH):D->R D
 |.tup _=>.ok (.bl true) h
 |_=>.no
noncomputable def b8f(h:AH):D->R D
 |.str _=>.ok (.bl true) h
 |_=>.no
section
variable{F:Nat->Option Fn}
theorem b6t{a:E}:ev ct c (.ist a) env h=(ev ct c a env h).bind fun x h1=>b8e h1 x:=by
 (rw[ev];try rfl)
theorem b6u{a:E}:ev ct c (.iss a) env h=(ev ct c a env h).bind fun x h1=>b8f h1 x:=by
 (rw[ev];try rfl)
theorem b6v{a:E}(e:ev ct c a env h=.ok (.ref n) h)(hn:h[n]? =some (.lst l)):ev ct c (.isl a) env h=.ok (.bl true) h:=by
 rw[ev,e,b8,av (a4W hn)]
theorem b6p(e:env[i]? =some (some (.ref n)))(hn:h[n]? =some (.lst l)):ev ct c (.rvs (.v i)) env h=.ok .non (h.set n (.lst l.reverse)):=by
 rw[ev,b8B,e];simp only[b8,hn]
theorem b3A{a:E}{l:List α}{x:AH}(rp:α->D)(P:o9->Prop)(hP:P env)(ha:ev ct c a env h=.ok (.ref s) x)(hs:x[s]? =some (.lst (l.map rp)))
 (hb:∀y∈l,∀env,P env->∃env1 env',D6 p (rp y) env=some env1/\exs ct c body env1 x=.ok (.nx env') x/\P env'):∃env',ex ct c (.for p (.seq a) body) env h=.ok (.nx env') x/\P env':=by
 obtain⟨env',h',q1,rfl,q2⟩:=B9 (g:=[(s,.lst (l.map rp))]) (p:=p) (body:=exs ct c body) (fun _ env h1=>h1=x/\P env) (fun j env h1 S=>by
  rw[S.1];simp[gOk,hs]) (l.map rp) 0 env x (fun j y env h1 hx hP=>by
  have hj:j<l.length:=by simpa using(ac.mp hx).1
  rw[aj,af hj] at hx
  obtain rfl:rp l[j]=y:=au hx;obtain⟨rfl,hP⟩:=hP;obtain⟨env1,env',b1,b2,b3⟩:=hb l[j] (bc hj) env hP;exact⟨env1,env',h1,b1,b2,rfl,b3⟩) ⟨rfl,hP⟩
 refine⟨env',?_,q2⟩
 rw[a0f,M6,ha,b8];simp only[L4,hs];rw[b8];exact q1
theorem a9R {k:Nat} {H:HL} {w:Str} {R:List Str} (f217:F 217=some z9) (f218:F 218=some A8) (hF:F 219=some K8) (K:HLok H) (h5:Tl[5]? =some (.ref f)) (h7:Tl[7]? =some (.ref j)) (hf:h[f]? =some (.lst (H.cs.map csD))) (hj:h[j]? =some (.lst (H.ru.map ruD))) (hq:h[q]? =some (.lst (R.map .str))) (hT:b9K H w R):
 b4 ct F (k+3) 219 [.tup Tl,.tup [.str w,.ref q]] h=.ok (.bl true) h:=by
 have t0:∀g,ixD g (.tup [.str w,.ref q]) (.int 0)=.ok (.str w) g:=fun g=>ix_tup (i:=0) rfl
 have t1:∀g,ixD g (.tup [.str w,.ref q]) (.int 1)=.ok (.ref q) g:=fun g=>ix_tup (i:=1) rfl
 have t7:∀g,ixD g (.tup Tl) (.int 7)=.ok (.ref j) g:=fun g=>ix_tup (i:=7) h7
 have l2:∀g,biD .len g [.tup [.str w,.ref q]]=.ok (.int 2) g:=fun g=>rfl
 have T26:H.ru.length<=26:=K.rul
 have nd:R.Nodup:=by rcases hT with⟨_,o⟩|⟨_,o⟩<;>exact o.nd
 have sb:∀x∈R,x∈tis H:=by rcases hT with⟨_,o⟩|⟨_,o⟩<;>exact o.sub
 have Rl:R.length<=26:=by
  have:=a2U nd sb
  unfold tis at this;rw[aa] at this;omega
 have cc:ev ct (b4 ct F (k+2)) rgC [some (.tup Tl),some (.tup [.str w,.ref q]),none,none,none,none,none,none] h=.ok (.ref h.length) (h++[.lst (H.ru.map ruP)]):=by
  have:=p8 (ct:=ct) (c:=b4 ct F (k+2)) (env:=[some (.tup Tl),some (.tup [.str w,.ref q]),none,none,none,none,none,none]) (h:=h) (e:=(.tup (.cons (.ix (.v 0) (.k (.int (0)))) (.cons (.v 0) .nil)))) (p:=.nm 0) (it:=(.seq (.ix (.v 0) (.k (.int (7)))))) (n:=1) (fr:=[]) (l:=H.ru.map ruD) (g:=[(j,.lst (H.ru.map ruD))]) (h1:=h) (by simp_arith[t7,L4,hj]) (by simp[gOk,hj]) (fun d=>.tup [ttD d,d]) (fun d=>[some d]) (fun d hd=>by
   obtain⟨o,_,rfl⟩:=ak.mp hd;refine⟨rfl,?_⟩
   have e0:∀g,ixD g (ruD o) (.int 0)=.ok (.str o.t) g:=fun g=>ix_tup (i:=0) rfl
   simp_arith[e0]
   rfl) (by show _<=16777216;rw[aa];omega)
  unfold rgC;rw[this,aD];rfl
 have P1:Pf h (h++[Cell.lst (H.ru.map ruP)]):=(Pf.refl h).app _
 have dk:=b3Q (h:=h++[Cell.lst (H.ru.map ruP)]) (n:=h.length) K b6
 have gD:(h++[Cell.lst (H.ru.map ruP)]++[Cell.dict (kd (ruL H.ru))])[(h++[Cell.lst (H.ru.map ruP)]).length]? =some (.dict (kd (ruL H.ru))):=b6
 have P2:Pf h (h++[Cell.lst (H.ru.map ruP)]++[Cell.dict (kd (ruL H.ru))]):=P1.app _
 generalize h++[Cell.lst (H.ru.map ruP)]++[Cell.dict (kd (ruL H.ru))]=x at dk gD P2;generalize (h++[Cell.lst (H.ru.map ruP)]).length=y at dk gD
 have fe:∀z,Pf x z->∀a∈tis H,∀b∈tis H,b4 ct F (k+2) 218 [.tup Tl,ruD (O5 H a),ruD (O5 H b)] z=.ok (.bl (decide (a∈fdr H b))) z:=fun z pz a ha b hb=>by
  rw[a3V (ct:=ct) (k:=k) f217 f218 K h5 ((P2.trans pz).at hf) (b2v K hb).1];congr 2
  have:=b3C K (t:=b) ha
  cases e:B6 H (O5 H a) (O5 H b) with
  |true=>exact(aR (this.mpr e)).symm
  |false=>exact(bf fun z=>by rw[this.mp z] at e;cases e).symm
 rw[i6 hF rfl];simp only[K8]
 show gcR 1 h (K2 (exs ct (b4 ct F (k+2)) _ [some (.tup Tl),some (.tup [.str w,.ref q]),none,none,none,none,none,none] h))=_
 have key:∃z,Pf h z/\K2 (exs ct (b4 ct F (k+2)) (.cons (.iff rgT (.cons (.ret (.k (.bl false))) .nil) .nil) (.cons (.set 2 (.bi .dict (.cons rgC .nil))) (.cons (.set 3 (.ix (.v 1) (.k (.int (1))))) (.cons (.for (.nm 4) (.seq (.v 3)) a9T) (.cons (.iff (.cmp .eq (.ix (.v 1) (.k (.int (0)))) (.k (.str "order"))) rgO .nil) (.cons (.iff (.orr (.cmp .ne (.ix (.v 1) (.k (.int (0)))) (.k (.str "ring"))) (.cmp .eq (.bi .len (.cons (.v 3) .nil)) (.k (.int (0))))) (.cons (.ret (.k (.bl false))) .nil) .nil) (.cons (.for p67 (.zip (.v 3) rgZ) a9S) (.cons (.ret (.k (.bl true))) .nil)))))))) [some (.tup Tl),some (.tup [.str w,.ref q]),none,none,none,none,none,none] h)=.ok (.bl true) z:=by
  rw[seq (env':=[some (.tup Tl),some (.tup [.str w,.ref q]),none,none,none,none,none,none]) (h':=h) (by
   unfold rgT;simp_arith[b6t,b8e,l2,nei,decide_true,Bool.not_true,b6v (n:=q) (show ev ct (b4 ct F (k+2)) (.ix (.v 1) (.k (.int 1))) [some (.tup Tl),some (.tup [.str w,.ref q]),none,none,none,none,none,none] h=.ok (.ref q) h by simp_arith[t1]) hq])]
  rw[seq (env':=[some (.tup Tl),some (.tup [.str w,.ref q]),some (.ref y),none,none,none,none,none]) (h':=x) (by simp_arith[cc,dk])]
  rw[seq (env':=[some (.tup Tl),some (.tup [.str w,.ref q]),some (.ref y),some (.ref q),none,none,none,none]) (h':=x) (by simp_arith[t1])]
  obtain⟨env',q1,e4,rfl⟩:=a9f (ct:=ct) (c:=b4 ct F (k+2)) (p:=.nm 4) (a:=(.v 3)) (body:=a9T) (l:=R) (h:=x) D.str (fun env=>∃e4,env=[some (.tup Tl),some (.tup [.str w,.ref q]),some (.ref y),some (.ref q),e4,none,none,none]) (env:=[some (.tup Tl),some (.tup [.str w,.ref q]),some (.ref y),some (.ref q),none,none,none,none]) ⟨_,rfl⟩ (by simp_arith[]) (P2.at hq) (fun s hs env hP=>by
   obtain⟨e4,rfl⟩:=hP;refine⟨_,[some (.tup Tl),some (.tup [.str w,.ref q]),some (.ref y),some (.ref q),some (.str s),none,none,none],rfl,?_,_,rfl⟩
   show exs ct (b4 ct F (k+2)) a9T [some (.tup Tl),some (.tup [.str w,.ref q]),some (.ref y),some (.ref q),some (.str s),none,none,none] x=_
   unfold a9T;have nk:=b5B (k:=s) gD;rw[a7A,aR (show s∈H.ru.map (·.t) from sb s hs)] at nk
   have c1:=b5K (t:=s) (P2.at hq);rw[b8X nd hs] at c1;simp_arith[b6u,b8f,op2,nk,b4p,a4W (P2.at hq),c1,Bool.not_true,bne_self_eq_false,a1h,eqS,Int.cast_ofNat_Int,decide_true])
  rw[seq q1];have ln:=n8 (P2.at hq);rw[aa] at ln
  rcases hT with⟨rfl,o⟩|⟨rfl,o⟩
  · have ok:∃z,Pf h z/\K2 (exs ct (b4 ct F (k+2)) rgO [some (.tup Tl),some (.tup [.str "order",.ref q]),some (.ref y),some (.ref q),e4,none,none,none] x)=.ok (.bl true) z:=by
     obtain⟨env',z,w1,⟨e5,e6,rfl⟩,pz⟩:=B9 (g:=[]) (p:=.nm 5) (body:=exs ct (b4 ct F (k+2)) b2x)
      (fun i env z=>(∃e5 e6,env=[some (.tup Tl),some (.tup [.str "order",.ref q]),some (.ref y),some (.ref q),e4,e5,e6,none])/\Pf x z) (fun i env z S=>rfl) ((List.range R.length).map fun i=>.int ((0:Int)+(i:Nat))) 0 [some (.tup Tl),some (.tup [.str "order",.ref q]),some (.ref y),some (.ref q),e4,none,none,none] x (fun i d env z hd S=>by
       obtain⟨⟨e5,e6,rfl⟩,pz⟩:=S;obtain⟨hi,rfl⟩:=a1E hd
       have Pz:Pf x (z++[Cell.lst ((R.drop i).map .str)]):=pz.app _
       have sl:slD z (some ((i:Nat):Int)) none (.ref q)=.ok (.ref z.length) (z++[.lst ((R.drop i).map .str)]):=by rw[J5 (pz.at (P2.at hq)),G7,map_drop]
       have xi:R[i]? =some R[i]:=af hi
       have iR:ixD (z++[Cell.lst ((R.drop i).map .str)]) (.ref q) (.int (i:Int))=.ok (.str R[i]) _:=C7 (Pz.at (P2.at hq)) (by rw[aj,xi];rfl)
       have xT:=sb R[i] (bc hi)
       obtain⟨env',q2,e6',rfl⟩:=b3A (ct:=ct) (c:=b4 ct F (k+2)) (p:=.nm 6) (a:=(.sl (.v 3) (.at (.v 5)) .no)) (body:=a7I) (l:=R.drop i) (h:=z) (x:=z++[.lst ((R.drop i).map .str)]) D.str (fun env=>∃e6,env=[some (.tup Tl),some (.tup [.str "order",.ref q]),some (.ref y),some (.ref q),e4,some (.int (i:Int)),e6,none]) (env:=[some (.tup Tl),some (.tup [.str "order",.ref q]),some (.ref y),some (.ref q),e4,some (.int (i:Int)),e6,none]) ⟨_,rfl⟩ (by simp_arith[sl]) b6 (fun s hs env hP=>by
        obtain⟨e6,rfl⟩:=hP;refine⟨_,[some (.tup Tl),some (.tup [.str "order",.ref q]),some (.ref y),some (.ref q),e4,some (.int (i:Int)),some (.str s),none],rfl,?_,_,rfl⟩
        show exs ct (b4 ct F (k+2)) a7I [some (.tup Tl),some (.tup [.str "order",.ref q]),some (.ref y),some (.ref q),e4,some (.int (i:Int)),some (.str s),none] _=_
        unfold a7I;have sT:=sb s (mem_of_mem_drop hs);simp_arith[a7B K (Pz.at gD) sT,iR,a7B K (Pz.at gD) xT,fe _ Pz s sT R[i] xT,bf (o.ok i _ s xi hs)])
       refine⟨_,_,z++[.lst ((R.drop i).map .str)],rfl,?_,⟨some (.int (i:Int)),e6',rfl⟩,Pz⟩
       show exs ct (b4 ct F (k+2)) b2x [some (.tup Tl),some (.tup [.str "order",.ref q]),some (.ref y),some (.ref q),e4,some (.int (i:Int)),e6,none] z=_
       unfold b2x;rw[seq q2,a1q]) ⟨⟨none,none,rfl⟩,Pf.refl x⟩
     refine⟨z,P2.trans pz,?_⟩
     unfold rgO
     rw[seq (env':=[some (.tup Tl),some (.tup [.str "order",.ref q]),some (.ref y),some (.ref q),e4,e5,e6,none]) (h':=z) (by
      rw[a0f,a3e];simp_arith[ln,a0P (show R.length<=1000000 by omega)]
      exact w1)]
     have ln2:=n8 (pz.at (P2.at hq));rw[aa] at ln2;have lk:=a2V (pz.at gD);rw[show(ruL H.ru).length=(tis H).length by unfold ruL tis;rw[aa,aa]] at lk
     simp_arith[ln2,lk,eqi,o.len,decide_true]
    obtain⟨z,pz,ez⟩:=ok;refine⟨z,pz,?_⟩
    rw[G5];simp_arith[t0,op2,C0,eqS,decide_true];generalize exs ct (b4 ct F (k+2)) rgO [some (.tup Tl),some (.tup [.str "order",.ref q]),some (.ref y),some (.ref q),e4,none,none,none] x=rr at ez
    cases rr with
    |no=>cases ez
    |ok oo hh=>
     cases oo with
     |nx env=>exact absurd ez (by rw[a7O];intro hz;cases hz)
     |rt d=>exact ez
  · have Rne:=o.ne
    have Rp:R.length≠0:=fun z=>Rne (length_eq_zero_iff.mp z)
    rw[seq (env':=[some (.tup Tl),some (.tup [.str "ring",.ref q]),some (.ref y),some (.ref q),e4,none,none,none]) (h':=x) (by simp_arith[t0,op2,C0,eqS,decide_false])]
    rw[seq (env':=[some (.tup Tl),some (.tup [.str "ring",.ref q]),some (.ref y),some (.ref q),e4,none,none,none]) (h':=x) (by simp_arith[t0,c0n,decide_true,Bool.not_true,ln,eqi,show decide (((R.length:Nat):Int)=0)=false from bf (by omega)])]
    have s1:slD x (some 1) none (.ref q)=.ok (.ref x.length) (x++[.lst ((R.drop 1).map .str)]):=by rw[J5 (P2.at hq),show(some (1:Int))=some ((1:Nat):Int) from rfl,G7,map_drop]
    have X1:Pf x (x++[Cell.lst ((R.drop 1).map .str)]):=(Pf.refl x).app _
    have s2:slD (x++[Cell.lst ((R.drop 1).map .str)]) none (some 1) (.ref q)=.ok (.ref (x++[Cell.lst ((R.drop 1).map .str)]).length) (x++[.lst ((R.drop 1).map .str)]++[.lst ((R.take 1).map .str)]):=by
     rw[J5 (X1.at (P2.at hq)),b3T,List.map_take]
    have ad:=a3t (g:=x++[Cell.lst ((R.drop 1).map .str)]++[Cell.lst ((R.take 1).map .str)]) (b5 (g:=[Cell.lst ((R.take 1).map .str)]) (show(x++[Cell.lst ((R.drop 1).map .str)])[x.length]? =some (.lst ((R.drop 1).map .str)) from b6)) b6 (by rw[aa,aa,bg,aG];omega)
    have X3:Pf x (x++[Cell.lst ((R.drop 1).map .str)]++[Cell.lst ((R.take 1).map .str)]++[Cell.lst ((R.drop 1).map .str++(R.take 1).map .str)]):=(X1.app _).app _
    have gz:(x++[Cell.lst ((R.drop 1).map .str)]++[Cell.lst ((R.take 1).map .str)]++[Cell.lst ((R.drop 1).map .str++(R.take 1).map .str)])[(x++[Cell.lst ((R.drop 1).map .str)]++[Cell.lst ((R.take 1).map .str)]).length]? =some (.lst ((R.drop 1++R.take 1).map .str)):=by rw[b6,al]
    have ez:ev ct (b4 ct F (k+2)) rgZ [some (.tup Tl),some (.tup [.str "ring",.ref q]),some (.ref y),some (.ref q),e4,none,none,none] x=.ok (.ref (x++[Cell.lst ((R.drop 1).map .str)]++[Cell.lst ((R.take 1).map .str)]).length) (x++[Cell.lst ((R.drop 1).map .str)]++[Cell.lst ((R.take 1).map .str)]++[Cell.lst ((R.drop 1).map .str++(R.take 1).map .str)]):=by
     unfold rgZ;simp_arith[s1,s2,op2,ad]
    generalize x++[Cell.lst ((R.drop 1).map .str)]++[Cell.lst ((R.take 1).map .str)]++[Cell.lst ((R.drop 1).map .str++(R.take 1).map .str)]=z at ez gz X3;generalize (x++[Cell.lst ((R.drop 1).map .str)]++[Cell.lst ((R.take 1).map .str)]).length=zz at ez gz
    obtain⟨env',z',w1,⟨⟨e6,e7,rfl⟩,rfl⟩⟩:=B9 (g:=[(q,.lst (R.map .str)),(zz,.lst ((R.drop 1++R.take 1).map .str))]) (p:=p67) (body:=exs ct (b4 ct F (k+2)) a9S)
     (fun i env z'=>(∃e6 e7,env=[some (.tup Tl),some (.tup [.str "ring",.ref q]),some (.ref y),some (.ref q),e4,none,e6,e7])/\z'=z) (fun i env z' S=>by
      rw[S.2];simp[gOk,X3.at (P2.at hq),gz]) ((R.zip (R.drop 1++R.take 1)).map fun p=>D.tup [.str p.1,.str p.2]) 0 [some (.tup Tl),some (.tup [.str "ring",.ref q]),some (.ref y),some (.ref q),e4,none,none,none] z (fun i d env z' hd S=>by
      obtain⟨⟨e6,e7,rfl⟩,rfl⟩:=S;obtain⟨⟨a,b⟩,hp,rfl⟩:=ak.mp (mem_iff_getElem?.mpr ⟨i,hd⟩);refine⟨_,[some (.tup Tl),some (.tup [.str "ring",.ref q]),some (.ref y),some (.ref q),e4,none,some (.str a),some (.str b)],z',rfl,?_,⟨_,_,rfl⟩,rfl⟩
      show exs ct (b4 ct F (k+2)) a9S [some (.tup Tl),some (.tup [.str "ring",.ref q]),some (.ref y),some (.ref q),e4,none,some (.str a),some (.str b)] z'=_
      unfold a9S;have aT:=sb a (of_mem_zip hp).1
      have bT:=sb b (by
       rcases aF.mp (of_mem_zip hp).2 with h|h
       · exact mem_of_mem_drop h
       · exact List.mem_of_mem_take h)
      simp_arith[a7B K (X3.at gD) aT,a7B K (X3.at gD) bT,fe _ X3 a aT b bT,aR (o.ok a b hp),Bool.not_true]) ⟨⟨none,none,rfl⟩,rfl⟩
    refine⟨z',P2.trans X3,?_⟩
    rw[seq (env':=[some (.tup Tl),some (.tup [.str "ring",.ref q]),some (.ref y),some (.ref q),e4,none,e6,e7]) (h':=z') (by
     rw[a0f,a8i];simp_arith[ez];simp only[a9q,a3W,X3.at (P2.at hq),gz,a5x];rw[b8];exact w1)]
    simp_arith[]
 obtain⟨z,pz,ez⟩:=key;rw[ez];exact b6e pz rfl
end
section
variable{F:Nat->Option Fn}
theorem b1W{H:HL}(K:HLok H){l:List Ru}(h1:∀r∈l,r∈H.ru)(h2:(l.map (·.t)).Nodup)(h3:l.length<=26):HLok {H with ru:=l}:=
 ⟨K.sh,K.mr,K.mko,K.pt,K.ptl,K.pto,K.ls,K.lsn,K.lso,K.gp,K.cs,K.csn,K.cso,K.fe,K.fen,h3,h2,fun r hr=>K.ruo r (h1 r hr)⟩
theorem b3x{k a:Nat}{bits e2:D}{H:HL}{kept:List Ru}{r:Ru}{z:AH}(f217:F 217=some z9)(f218:F 218=some A8)(K:HLok H)(h5:Tl[5]? =some (.ref f))(hf:z[f]? =some (.lst (H.cs.map csD)))(ha:z[a]? =some (.lst (kept.map ruD)))(hk:∀x∈kept,x∈H.ru)(hr:r∈H.ru)(hl:kept.length<=26):
 ∃z' b,Pf z z'/\ev ct (b4 ct F (k+2)) (.bi .any (.cons fwC .nil)) [some (.tup Tl),some bits,some e2,some (.ref a),some (ruD r)] z=.ok (.bl b) z':=by
 have P1:Pf z (z++[Cell.lst [ruD r]]):=(Pf.refl z).app _
 have ad:=a3t (g:=z++[Cell.lst [ruD r]]) (P1.at ha) (show(z++[Cell.lst [ruD r]])[z.length]? =some (.lst [ruD r]) from b6) (by rw[aa];simp;omega)
 have P2:Pf z (z++[Cell.lst [ruD r]]++[Cell.lst (kept.map ruD++[ruD r])]):=P1.app _
 have gk:(z++[Cell.lst [ruD r]]++[Cell.lst (kept.map ruD++[ruD r])])[(z++[Cell.lst [ruD r]]).length]? =some (.lst ((kept++[r]).map ruD)):=by rw[b6,al];rfl
 generalize hy:z++[Cell.lst [ruD r]]++[Cell.lst (kept.map ruD++[ruD r])]=y at P2 gk ad;generalize hs:(z++[Cell.lst [ruD r]]).length=s at gk ad
 have es:ev ct (b4 ct F (k+2)) (.bin .add (.v 3) (.lst (.cons (.v 4) .nil))) [some (.tup Tl),some bits,some e2,some (.ref a),some (ruD r)] z=.ok (.ref s) y:=by
  simp_arith[y9,op2,ad]
 have cc:ev ct (b4 ct F (k+2)) fwC [some (.tup Tl),some bits,some e2,some (.ref a),some (ruD r)] z=.ok (.ref y.length) (y++[.lst (((kept++[r]).map ruD).map fun d=>match d with
  |.tup (.str t::_)=>D.bl (B6 H r (O5 H t))
  |_=>.non)]):=by
  unfold fwC;refine p8 (l:=(kept++[r]).map ruD) (g:=[(s,.lst ((kept++[r]).map ruD))]) (h1:=y) (by rw[M6,es,b8];simp only[L4,gk]) (by simp[gOk,gk]) _ (fun d=>[some d,some (.tup Tl),some (ruD r)]) (fun d hd=>?_) (by show _<=16777216;rw[aa,am];simp;omega)
  obtain⟨o,ho,rfl⟩:=ak.mp hd
  have ho':o∈H.ru:=by
   rcases aF.mp ho with h|h
   · exact hk o h
   · rw[aI] at h;rw[h];exact hr
  refine⟨rfl,?_⟩
  simp_arith[a3V (ct:=ct) (k:=k) (a:=r) f217 f218 K h5 (P2.at hf) ho']
  show R.ok (D.bl (B6 H r o)) y=.ok (D.bl (B6 H r (O5 H o.t))) y
  rw[W5 K ho']
 have an:=a5t (h:=y) (P:=fun o:Ru=>B6 H r (O5 H o.t)) (l:=kept++[r])
 rw[aD,show((fun d:D=>match d with
  |.tup (.str t::_)=>D.bl (B6 H r (O5 H t))
  |_=>.non)∘ruD)=fun o:Ru=>D.bl (B6 H r (O5 H o.t)) from rfl] at cc
 refine⟨y++[Cell.lst ((kept++[r]).map fun o:Ru=>D.bl (B6 H r (O5 H o.t)))],(kept++[r]).any fun o:Ru=>B6 H r (O5 H o.t),P2.app _,?_⟩
 simp_arith[cc];exact an
theorem a7h{k a b c d e:Nat}{n:Int}{H:HL}(f217:F 217=some z9)(f218:F 218=some A8)(hF:F 220=some F6)(K:HLok H)(A:HAt H g a b c d e f i j):
 ∃H' g' j',HLok H'/\Pf g g'/\HAt H' g' a b c d e f i j'/\b4 ct F (k+3) 220 [.tup [.ref a,.ref b,.ref c,.ref d,.ref e,.ref f,.ref i,.ref j],.int n] g=.ok (.tup [.ref a,.ref b,.ref c,.ref d,.ref e,.ref f,.ref i,.ref j']) g':=by
 have t7:∀h,ixD h (.tup [.ref a,.ref b,.ref c,.ref d,.ref e,.ref f,.ref i,.ref j]) (.int 7)=.ok (.ref j) h:=fun h=>ix_tup (i:=7) rfl
 have s7:∀h,slD h none (some 7) (.tup [.ref a,.ref b,.ref c,.ref d,.ref e,.ref f,.ref i,.ref j])=.ok (.tup [.ref a,.ref b,.ref c,.ref d,.ref e,.ref f,.ref i]) h:=fun h=>rfl
 have ta:∀h q,V8 h (.tup [.ref a,.ref b,.ref c,.ref d,.ref e,.ref f,.ref i]) (.tup [.ref q])=.ok (.tup [.ref a,.ref b,.ref c,.ref d,.ref e,.ref f,.ref i,.ref q]) h:=fun h q=>by
  show(if[D.ref a,.ref b,.ref c,.ref d,.ref e,.ref f,.ref i]≠[]/\7+1<=SL then R.ok (D.tup [.ref a,.ref b,.ref c,.ref d,.ref e,.ref f,.ref i,.ref q]) h else .no)=_
  rw[av ⟨by simp,by decide⟩]
 have h5:[D.ref a,.ref b,.ref c,.ref d,.ref e,.ref f,.ref i,.ref j][5]? =some (.ref f):=rfl
 generalize hT:[D.ref a,.ref b,.ref c,.ref d,.ref e,.ref f,.ref i,.ref j]=Tl at t7 s7 h5;rw[i6 hF rfl];simp only[F6];rw[gc0]
 show∃H' g' j',_/\_/\_/\K2 (exs ct (b4 ct F (k+2)) _ [some (.tup Tl),some (.int n),none,none,none] g)=_
 rw[seq (env':=[some (.tup Tl),some (.int n),some (.ref j),none,none]) (h':=g) (by simp_arith[t7])]
 by_cases hn:n%2=0
 · refine⟨H,g,j,K,Pf.refl g,A,?_⟩
   simp_arith[op2,Z5 (i:=n) (j:=2) (by decide),hn,C0,eqS,decide_true]
   rw[←hT]
 · rw [seq (env':=[some (.tup Tl),some (.int n),some (.ref j),none,none]) (h':=g) (by simp_arith[op2,Z5 (i:=n) (j:=2) (by decide),C0,eqS,bf hn])]
   rw[seq (env':=[some (.tup Tl),some (.int n),some (.ref j),some (.ref g.length),none]) (h':=g++[.lst []]) (by simp_arith[y9])]
   have P0:Pf g (g++[Cell.lst []]):=(Pf.refl g).app _
   obtain⟨env',z,q1,e4,kept,rfl,pz,ck,sk⟩:=B9 (g:=[(j,.lst (H.ru.map ruD))]) (p:=.nm 4) (body:=exs ct (b4 ct F (k+2)) fwB)
    (fun m env z=>∃e4 kept,env=[some (.tup Tl),some (.int n),some (.ref j),some (.ref g.length),e4]/\Pf g z/\z[g.length]? =some (.lst (kept.map ruD))/\kept.Sublist (H.ru.take m)) (fun m env z S=>by
     obtain⟨_,_,_,p,_⟩:=S;simp[gOk,p.at A.ru]) (H.ru.map ruD) 0 [some (.tup Tl),some (.int n),some (.ref j),some (.ref g.length),none] (g++[.lst []]) (fun m x env z hx S=>by
     obtain⟨e4,kept,rfl,p,ck,sk⟩:=S;rw[ay] at sk
     have hm:m<H.ru.length:=by simpa using(ac.mp hx).1
     rw[aj,af hm] at hx
     obtain rfl:ruD H.ru[m]=x:=au hx
     have hr:H.ru[m]∈H.ru:=bc hm
     have hk:∀x∈kept,x∈H.ru:=fun x hx=>List.mem_of_mem_take (sk.subset hx)
     have kl:kept.length<=26:=by
      have:=sk.length_le
      rw[aG] at this
      have:=K.rul
      omega
     obtain⟨z',bb,pz',eb⟩:=b3x (ct:=ct) (k:=k) (Tl:=Tl) (bits:=.int n) (e2:=.ref j) (r:=H.ru[m]) f217 f218 K h5 (p.at A.cs) ck hk hr kl
     have tk:H.ru.take (0+m+1)=H.ru.take m++[H.ru[m]]:=by rw[ay,take_succ_eq_append_getElem hm]
     cases bb with
     |true=>
      refine⟨_,[some (.tup Tl),some (.int n),some (.ref j),some (.ref g.length),some (ruD H.ru[m])],z',rfl,?_,some (ruD H.ru[m]),kept,rfl,p.trans pz',pz'.at ck,by rw[tk];exact sk.trans (List.sublist_append_left _ _)⟩
      show exs ct (b4 ct F (k+2)) fwB [some (.tup Tl),some (.int n),some (.ref j),some (.ref g.length),some (ruD H.ru[m])] z=_
      unfold fwB;rw[G5,a7k,a6D,a4p,eb];simp_arith[Bool.not_true]
     |false=>
      refine⟨_,[some (.tup Tl),some (.int n),some (.ref j),some (.ref g.length),some (ruD H.ru[m])],z'.set g.length (.lst (kept.map ruD++[ruD H.ru[m]])),rfl,?_,some (ruD H.ru[m]),kept++[H.ru[m]],rfl,(p.trans pz').set (ai _),by rw[u7 (pz'.at ck),al];rfl,by rw[tk];exact List.Sublist.append sk (List.Sublist.refl _)⟩
      show exs ct (b4 ct F (k+2)) fwB [some (.tup Tl),some (.int n),some (.ref j),some (.ref g.length),some (ruD H.ru[m])] z=_
      unfold fwB;rw[G5,a7k,a6D,a4p,eb];simp_arith[Bool.not_false,E3 (pz'.at ck),K9 (d:=ruD H.ru[m]) (pz'.at ck) (by rw[aa];omega)]) ⟨none,[],rfl,P0,b6,nil_sublist _⟩
   rw[aa,ay,aS] at sk
   rw[seq (env':=[some (.tup Tl),some (.int n),some (.ref j),some (.ref g.length),e4]) (h':=z) (by
    rw[a0f,M6];simp_arith[L4,P0.at A.ru];exact q1)]
   have kl:kept.length<=26:=aK sk.length_le K.rul
   have nd:(kept.map (·.t)).Nodup:=K.run.sublist (sk.map _)
   have fin:∀(l:List Ru) (y:AH),(∀r∈l,r∈H.ru)->(l.map (·.t)).Nodup->l.length<=26->Pf g y->y[g.length]? =some (.lst (l.map ruD))→
    ∃H' g' j',HLok H'/\Pf g g'/\HAt H' g' a b c d e f i j'/\K2 (exs ct (b4 ct F (k+2)) (.cons (.ret (.bin .add (.sl (.v 0) .no (.at (.k (.int (7))))) (.tup (.cons (.v 3) .nil)))) .nil) [some (.tup Tl),some (.int n),some (.ref j),some (.ref g.length),e4] y)=.ok (.tup [.ref a,.ref b,.ref c,.ref d,.ref e,.ref f,.ref i,.ref j']) g':=fun l y l1 l2 l3 py cy=>
    ⟨{H with ru:=l},y,g.length,b1W K l1 l2 l3,py,⟨py.at A.sh,py.at A.mr,py.at A.pt,py.at A.ls,py.at A.gp,py.at A.cs,py.at A.fe,cy⟩,by simp_arith[s7,op2,ta]⟩
   by_cases hr:n/2%2=1
   · rw[seq (env':=[some (.tup Tl),some (.int n),some (.ref j),some (.ref g.length),e4]) (h':=z.set g.length (.lst (kept.map ruD).reverse)) (by simp_arith[op2,a7m (i:=n) (j:=2) (by decide) (by decide),Z5 (i:=n/2) (j:=2) (by decide),C0,eqS,aR hr,b6p (i:=3) (n:=g.length) (l:=kept.map ruD) (env:=[some (.tup Tl),some (.int n),some (.ref j),some (.ref g.length),e4]) rfl ck])]
     refine fin kept.reverse _ (fun r h=>sk.subset (List.mem_reverse.mp h)) (by rw[map_reverse];exact List.pairwise_reverse.mpr (nd.imp fun h=>Ne.symm h)) (by rw[length_reverse];exact kl) (pz.set (ai _)) (by rw[u7 ck,map_reverse])
   · rw[seq (env':=[some (.tup Tl),some (.int n),some (.ref j),some (.ref g.length),e4]) (h':=z) (by simp_arith[op2,a7m (i:=n) (j:=2) (by decide) (by decide),Z5 (i:=n/2) (j:=2) (by decide),C0,eqS,bf hr])]
     exact fin kept z (fun r h=>sk.subset h) nd kl pz ck
variable(W:PF F)(f33:F 33=some Y0)(f34:F 34=some n4)
include W f33 f34
theorem b5M{d:Nat}(f35:F 35=some Y1)(f36:F 36=some x4)(f37:F 37=some L8)(f38:F 38=some u5)(f39:F 39=some a0c)(f40:F 40=some C9)(f201:F 201=some C6)(f202:F 202=some o5)(f203:F 203=some m8)(f204:F 204=some x5)(f205:F 205=some u8)(f206:F 206=some z3)(f207:F 207=some y7)(f208:F 208=some v5)(f209:F 209=some v7)(f210:F 210=some w5)(f211:F 211=some p7)(f212:F 212=some F5)(f213:F 213=some y8)(f214:F 214=some y0)(f215:F 215=some C2)(f217:F 217=some z9)(f218:F 218=some A8)(f219:F 219=some K8)(f220:F 220=some F6)(f221:F 221=some a6l)(hin:ct.init 6=32):∃h',b4 ct F (d+11) 221 [.ref 0] [.rol (ns.map .int)]=.ok (.bl true) h':=by
 generalize hg0:[Cell.rol (ns.map .int)]=g0
 have hr:g0[0]? =some (.rol (ns.map .int)):=by rw[←hg0];rfl
 obtain⟨c4,hc4⟩:=Y3 (ct:=ct) (k:=d+9) (j:=4) f201 hr;obtain⟨m,hm⟩:=Int.eq_ofNat_of_zero_le (show 0<=c4%10 from Int.emod_nonneg c4 (by decide))
 have hm8:m<=26:=by
  have:=Int.emod_lt_of_pos c4 (show(0:Int)<10 by decide)
  omega
 obtain⟨H0,g1,a,b,c,d',e,f,i,j0,K0,hlen,P0,A0,hH⟩:=b3q (ct:=ct) (k:=d+7) (n:=0) (m:=m) (ns:=ns) (h:=g0) f201 f202 f203 f204 f205 f206 f207 f208 f209 f210 f211 f212 hr hm8;obtain⟨c5,hc5⟩:=Y3 (ct:=ct) (k:=d+9) (j:=5) f201 (P0.at hr);obtain⟨H,g,j,K,Pg,A,hW⟩:=a7h (ct:=ct) (k:=d+7) (n:=c5) f217 f218 f220 K0 A0;have hT:=b1b (ct:=ct) (k:=d+8) K f213 f214 f215 A;obtain⟨h,ht,hA,hR⟩:=a4E (ct:=ct) (d:=d+8) (h:=g) (text:=a6g H) (H':=a0T H) W hin (by have:=b1Y K;omega) (by rw[a8v K];exact a8F W K)
 have P1:Pf g h:=⟨by rw[←ht,aG];omega,fun i hi=>by
  have:(h.take g.length)[i]? =g[i]? :=by rw[ht]
  rw[←this,bh hi]⟩
 obtain⟨q1,R1,x1,r1,p1,b1,c1,t1⟩:=a5O (ct:=ct) (k:=d+3) f39 W f33 f34 f35 f36 f37 f38 f40 K hA;have L1:=a9R (ct:=ct) (k:=d+7) (Tl:=[.ref a,.ref b,.ref c,.ref d',.ref e,.ref f,.ref i,.ref j]) (w:=N7 H) f217 f218 f219 K rfl rfl ((P1.trans p1).at A.cs) ((P1.trans p1).at A.ru) c1 t1
 have P2:Pf h (x1.set q1 (.lst (R1.map .str++[.str ""]))):=p1.set b1
 obtain⟨q2,R2,x2,r2,p2,b2,c2,t2⟩:=a5O (ct:=ct) (k:=d+3) f39 W f33 f34 f35 f36 f37 f38 f40 K (hA.mono P2);have L2:=a9R (ct:=ct) (k:=d+7) (Tl:=[.ref a,.ref b,.ref c,.ref d',.ref e,.ref f,.ref i,.ref j]) (w:=N7 H) f217 f218 f219 K rfl rfl ((P1.trans (P2.trans p2)).at A.cs) ((P1.trans (P2.trans p2)).at A.ru) c2 t2
 have Rl:R1.length<=26:=by
  have nd:R1.Nodup:=by rcases t1 with⟨_,o⟩|⟨_,o⟩<;>exact o.nd
  have sb:∀x∈R1,x∈tis H:=by rcases t1 with⟨_,o⟩|⟨_,o⟩<;>exact o.sub
  have:=a2U nd sb
  unfold tis at this;rw[aa] at this
  have:=K.rul
  omega
 have i0:∀q g,ixD g (.tup [.str (N7 H),.ref q]) (.int 0)=.ok (.str (N7 H)) g:=fun q g=>ix_tup (i:=0) rfl
 have i1:∀q g,ixD g (.tup [.str (N7 H),.ref q]) (.int 1)=.ok (.ref q) g:=fun q g=>ix_tup (i:=1) rfl
 generalize N7 H=w at r1 L1 r2 L2 i0 i1;generalize hTt:D.tup [.ref a,.ref b,.ref c,.ref d',.ref e,.ref f,.ref i,.ref j]=T at hW hT L1 L2;generalize hT0:D.tup [.ref a,.ref b,.ref c,.ref d',.ref e,.ref f,.ref i,.ref j0]=T0 at hH hW;rw[i6 f221 rfl];simp only[a6l];rw[gc0];refine⟨x2,?_⟩
 show K2 (exs ct (b4 ct F (d+10)) _ [some (.ref 0),none,none,none,none] g0)=_
 rw[seq (env':=[some (.ref 0),some T,none,none,none]) (h':=g) (by simp_arith[show b4 ct F (d+10) 201 [.ref 0,.int 4] g0=.ok (.int c4) g0 from hc4,show b4 ct F (d+10) 201 [.ref 0,.int 5] g1=.ok (.int c5) g1 from hc5,op2,Z5 (h:=g0) (i:=c4) (j:=10) (by decide),hm,hH,hW])]
 rw[seq (env':=[some (.ref 0),some T,some (.ref g.length),none,none]) (h':=h) (by simp_arith[hT,hR])]
 rw[seq (env':=[some (.ref 0),some T,some (.ref g.length),some (.tup [.str w,.ref q1]),none]) (h':=x1) (by simp_arith[r1])]
 unfold lw3;rw[seq (env':=[some (.ref 0),some T,some (.ref g.length),some (.tup [.str w,.ref q1]),none]) (h':=x1) (by simp_arith[L1,Bool.not_true])]
 rw[seq (env':=[some (.ref 0),some T,some (.ref g.length),some (.tup [.str w,.ref q1]),none]) (h':=x1.set q1 (.lst (R1.map .str++[.str ""]))) (by simp_arith[i1,E3 c1,K9 (d:=.str "") c1 (by rw[aa];omega)])]
 rw[seq (env':=[some (.ref 0),some T,some (.ref g.length),some (.tup [.str w,.ref q1]),some (.tup [.str w,.ref q2])]) (h':=x2) (by simp_arith[r2])]
 simp_arith[L2,i0,op2,C0,eqS,decide_true]
end
end EV
namespace K34
open PySem L2 EV
theorem pf:PF F:=⟨rfl,rfl,rfl,rfl,rfl,rfl,rfl,rfl,rfl,rfl,rfl,rfl,rfl,rfl,rfl,rfl,rfl,rfl,rfl,rfl,rfl,rfl,rfl,rfl,rfl,rfl,rfl,rfl,rfl,rfl,rfl,rfl⟩
end K34
theorem a6Z:∀ns:List Int,ns.length<=63->∃h',EV.b4 K34.ct K34.F 20 221 [.ref 0] [.rol (ns.map .int)]=.ok (.bl true) h':=fun ns _=>EV.b5M (d:=9) K34.pf rfl rfl rfl rfl rfl rfl rfl rfl rfl rfl rfl rfl rfl rfl rfl rfl rfl rfl rfl rfl rfl rfl rfl rfl rfl rfl rfl rfl rfl
open PySem PySem.W PyProof.Rows
end
namespace PySem.W.Fast
def tw16127796048269463257:Nat:=0
def tw3094701115853657799:Nat:=0
def tw8338134941888842479:Nat:=0
def tw1647960591809683682:Nat:=0
def tw17911559230558050065:Nat:=0
def tw7082109938346884881:Nat:=0
def tw13766275175789548255:Nat:=0
def tw2300198801221460004:Nat:=0
def tw17905071958575636500:Nat:=0
def tw12475445505340892312:Nat:=0
def tw4502922686166606849:Nat:=0
def tw6784790241324674965:Nat:=0
def tw7639243092425863354:Nat:=0
def tw2369557315865637268:Nat:=0
def tw16884622931589843948:Nat:=0
def tw15886500619415505586:Nat:=0
def tw6017506618534441898:Nat:=0
def tw6397798872860733234:Nat:=0
def tw2372776141545564530:Nat:=0
def tw11002848052431835627:Nat:=0
def tw10042499479572932358:Nat:=0
def tw4038909232737020655:Nat:=0
def tw802917404587063742:Nat:=0
def tw5030944203280556702:Nat:=0
def tw11443537319070666379:Nat:=0
def tw317932667124481529:Nat:=0
def tw17119971604622065936:Nat:=0
def tw234749781942434899:Nat:=0
def tw2766794811542550618:Nat:=0
def tw8369868683130302868:Nat:=0
def tw14112606434462084385:Nat:=0
def tw17847650733935569616:Nat:=0
def tw69414778264802052:Nat:=0
def tw12798869161161681673:Nat:=0
def tw13231743877010270464:Nat:=0
def tw12976177241038019767:Nat:=0
def tw3092117133297227249:Nat:=0
def tw5552461122284547459:Nat:=0
def tw18277388166739348960:Nat:=0
def tw5713610079918043996:Nat:=0
def tw10896712999787139778:Nat:=0
def tw1833547357909804662:Nat:=0
def tw11188117447681078326:Nat:=0
def tw15223397061033166810:Nat:=0
def tw7076977106511060911:Nat:=0
def tw17643754061406199020:Nat:=0
def tw7363425622247834253:Nat:=0
def tw14374603453287560736:Nat:=0
def tw14678158920106854735:Nat:=0
def tw11990459337992974956:Nat:=0
def tw11586196018267737339:Nat:=0
def tw8621301723031713458:Nat:=0
def tw5623994078177797194:Nat:=0
def tw17513604867990543079:Nat:=0
def tw12300527617525357084:Nat:=0
def tw5105673956185107153:Nat:=0
def tw9835382159548102362:Nat:=0
def tw4636031889025220839:Nat:=0
def tw10746989603658154836:Nat:=0
def tw8667492640987031791:Nat:=0
def tw726985913927333873:Nat:=0
def tw17334881123488906936:Nat:=0
def tw12532165626772418067:Nat:=0
def tw10780761586765376359:Nat:=0
def tw6905212232875527693:Nat:=0
def tw11732214188671553305:Nat:=0
def tw3101917741504857134:Nat:=0
def tw16550838102048051623:Nat:=0
def tw3373145609055282853:Nat:=0
def tw14199714164133228370:Nat:=0
def tw10155365746132046468:Nat:=0
def tw11289143093466461953:Nat:=0
def tw10846345724684618374:Nat:=0
def tw2484844197603217540:Nat:=0
def tw11843833423457600547:Nat:=0
def tw3471986238504059686:Nat:=0
def tw15069716523494295500:Nat:=0
def tw1349388230604553621:Nat:=0
def tw2385268686561707046:Nat:=0
def tw8237626310708396552:Nat:=0
def tw5427499738942290107:Nat:=0
def tw4626940704210403192:Nat:=0
def tw12523711969749109062:Nat:=0
def tw8621336744817483243:Nat:=0
def tw9508736203920968164:Nat:=0
def tw4203021270051977171:Nat:=0
def tw5916140570258018564:Nat:=0
def tw112567504061534027:Nat:=0
def tw274189353798237994:Nat:=0
def tw6771182271545134960:Nat:=0
def tw9601000219436670146:Nat:=0
def tw4621932581444047675:Nat:=0
def tw14398365135244066966:Nat:=0
def tw4589182232624314844:Nat:=0
def tw742405457713269000:Nat:=0
def tw16968176118458789586:Nat:=0
def tw9761588102954696855:Nat:=0
def tw13478877428745155630:Nat:=0
def tw5426448371682200115:Nat:=0
def tw3083371992184736890:Nat:=0
def tw3482820431698744051:Nat:=0
def tw1385777081429181588:Nat:=0
def tw539595736760451978:Nat:=0
def tw18042889414512086050:Nat:=0
def tw15545184769064153574:Nat:=0
def tw8160871880118814707:Nat:=0
def tw17338234738716814015:Nat:=0
def tw17427895641331663283:Nat:=0
def tw16932301668260661676:Nat:=0
def tw10052001805573714066:Nat:=0
def tw6731276024794131016:Nat:=0
def tw5661640270340304354:Nat:=0
def tw15261137711255440680:Nat:=0
def tw4033379813872489195:Nat:=0
def tw14613296582639449008:Nat:=0
def tw5485572742587201778:Nat:=0
def tw5011889884212318148:Nat:=0
def tw17996964024917085871:Nat:=0
def tw1541540961381408409:Nat:=0
def tw5015507407206683207:Nat:=0
def tw13426244417702134072:Nat:=0
def tw8697654515486363317:Nat:=0
def tw15755044616229629136:Nat:=0
def tw7524379617451308511:Nat:=0
def tw12325562205625792791:Nat:=0
def tw17094580856887593759:Nat:=0
def tw7618804249908900691:Nat:=0
def tw10209164474934016114:Nat:=0
def tw17590088832654516399:Nat:=0
def tw16266442582153907279:Nat:=0
def tw6205024481829086969:Nat:=0
def tw16286715671046524454:Nat:=0
def tw12712400820596877648:Nat:=0
def tw4954584648838934644:Nat:=0
def tw11712190458185945011:Nat:=0
def tw12048056826642495367:Nat:=0
def tw15632992782082381434:Nat:=0
def tw7875376050956498882:Nat:=0
def tw15724745641170818534:Nat:=0
def tw2947586027576077979:Nat:=0
def tw10335527622381539264:Nat:=0
def tw14501001857826371202:Nat:=0
def tw18167724695441219349:Nat:=0
def tw11763852733077360975:Nat:=0
def tw1267704075650749254:Nat:=0
def tw670427922429333600:Nat:=0
def tw12319047049370110589:Nat:=0
def tw12018387782679925087:Nat:=0
def tw16279701975793424917:Nat:=0
def tw7470021291188754609:Nat:=0
def tw15213048550514571353:Nat:=0
def tw5587826856885255690:Nat:=0
def tw14805814515597417852:Nat:=0
def tw4179031660912777645:Nat:=0
def tw17960848765466677729:Nat:=0
def tw17456480263006714056:Nat:=0
def tw316514102143019080:Nat:=0
def tw17093224777342109595:Nat:=0
def tw3822784309164373692:Nat:=0
def tw8864380892348041232:Nat:=0
def tw7523194637212750777:Nat:=0
def tw3121739546393284973:Nat:=0
def tw16396790404030501481:Nat:=0
def tw2962324470309885386:Nat:=0
def tw11519117686961666697:Nat:=0
def tw2257529940240947247:Nat:=0
def tw4968929673044707356:Nat:=0
def tw16472409268878238316:Nat:=0
def tw11930311979851757478:Nat:=0
def tw14869557710840242666:Nat:=0
def tw897888412878121761:Nat:=0
def tw6951939212644042833:Nat:=0
def tw1620389302784492585:Nat:=0
def tw15845117809764550140:Nat:=0
def tw14495299557687959983:Nat:=0
def tw4584130408075211490:Nat:=0
def tw1173414789623836638:Nat:=0
def tw4843473975253519250:Nat:=0
def tw11849525312028181438:Nat:=0
def tw15622835117965313283:Nat:=0
def tw9774394379856643515:Nat:=0
def tw15515405784836723652:Nat:=0
def tw3857615796733700780:Nat:=0
def tw17698735102306075112:Nat:=0
def tw14788362278542820120:Nat:=0
def tw14566440943485919492:Nat:=0
def tw12694589447371642155:Nat:=0
def tw9840342860782594374:Nat:=0
def tw17849293660312457548:Nat:=0
def tw2335157872551914648:Nat:=0
def tw15452572443179084588:Nat:=0
def tw16970792351503237766:Nat:=0
def tw14245618210516037357:Nat:=0
def tw4026151001005817321:Nat:=0
def tw8789256864460932259:Nat:=0
def tw8903238766108814736:Nat:=0
def tw734138898119960010:Nat:=0
def tw804092199982636349:Nat:=0
def tw13829591483307370896:Nat:=0
def tw16317983856663788926:Nat:=0
def tw16749348522385944071:Nat:=0
def tw9296360433889664002:Nat:=0
def tw7097827964152542560:Nat:=0
def tw13792483299354683862:Nat:=0
def tw12514039047250868702:Nat:=0
def tw12184380411685104690:Nat:=0
def tw13481268755573549168:Nat:=0
def tw16131593051203169754:Nat:=0
def tw1391549112126926301:Nat:=0
def tw11418939547134857076:Nat:=0
def tw9897558803702562313:Nat:=0
def tw9685044298169568939:Nat:=0
def tw9585978970863474492:Nat:=0
def tw9192171586001469603:Nat:=0
def tw9161490523856799436:Nat:=0
def tw8605165415444627158:Nat:=0
def tw8553059368797141306:Nat:=0
def tw7158441374720773216:Nat:=0
def tw7042659310547366237:Nat:=0
def tw671769174312181376:Nat:=0
def tw6315216371427503177:Nat:=0
def tw5835942142707902020:Nat:=0
def tw5674458297940323589:Nat:=0
def tw5609530884314319229:Nat:=0
def tw4185518321428705831:Nat:=0
def tw4177351759533223642:Nat:=0
def tw3808584094389355786:Nat:=0
def tw3664731896753646195:Nat:=0
def tw3103751414666246812:Nat:=0
def tw305048472116853797:Nat:=0
def tw2927799364441409784:Nat:=0
def tw2648174423076098445:Nat:=0
def tw1998032249293215463:Nat:=0
def tw1948689806639624469:Nat:=0
def tw18182889222666715495:Nat:=0
def tw17882641709403210578:Nat:=0
def tw17857563459279650048:Nat:=0
def tw17802128708061929859:Nat:=0
def tw16655083059833703075:Nat:=0
def tw16469568281967520401:Nat:=0
def tw15862806813707239167:Nat:=0
def tw15155859288707382567:Nat:=0
def tw14949513074056673275:Nat:=0
def tw14790834132378566595:Nat:=0
def tw14064692534454641163:Nat:=0
def tw1354003750591732747:Nat:=0
def tw1322031339247656150:Nat:=0
def tw12487779173672901959:Nat:=0
def tw12434779806091606683:Nat:=0
def tw11654023200298843171:Nat:=0
def tw1147522009701800784:Nat:=0
def tw11347631108264317165:Nat:=0
def tw10393078302967963895:Nat:=0
def tw10131873952172028942:Nat:=0
def tw4157206338815638501:Nat:=0
def tw13979331037414246438:Nat:=0
def tw8934421753687110507:Nat:=0
def tw8249347019533418915:Nat:=0
def tw2450569374399577549:Nat:=0
def tw18329075359065952542:Nat:=0
def tw17601101962401091345:Nat:=0
def tw1567247161763788871:Nat:=0
def tw13887902116395311400:Nat:=0
def tw12221415409051222339:Nat:=0
def tw10497823618577955822:Nat:=0
def tw10015853644003576960:Nat:=0
def tw16504757533647375273:Nat:=0
def tw13323373534744806615:Nat:=0
def tw5036445103931068615:Nat:=0
def tw5681066748535004433:Nat:=0
def tw10299302589577801163:Nat:=0
def tw9455475090630465045:Nat:=0
def tw8131721106225051767:Nat:=0
def tw7395645310213146516:Nat:=0
def tw729466047920990731:Nat:=0
def tw6999941293234460784:Nat:=0
def tw3016012700857477809:Nat:=0
def tw2873748437651673626:Nat:=0
def tw16463793508043411602:Nat:=0
def tw13949155002146243131:Nat:=0
def tw13517250619966689955:Nat:=0
def tw7317576523658780031:Nat:=0
def tw15854262060937163188:Nat:=0
def tw13952158723898717365:Nat:=0
def tw2852278927748849453:Nat:=0
def tw17878424488110687958:Nat:=0
def tw9497945907656264259:Nat:=0
def tw4361700775904427359:Nat:=0
def tw10426125643436316091:Nat:=0
def tw8454840944936950519:Nat:=0
def tw6252695792229605141:Nat:=0
def tw3520363519792060846:Nat:=0
def tw11187973929812520656:Nat:=0
def tw10667965978278278033:Nat:=0
def tw5312734613080425828:Nat:=0
def tw9516800180062724845:Nat:=0
def tw9515242367644423802:Nat:=0
def tw931956834028986255:Nat:=0
def tw9156678896304099913:Nat:=0
def tw8839083969933755074:Nat:=0
def tw8824595633291508535:Nat:=0
def tw8526028360262338249:Nat:=0
def tw8436589768386056944:Nat:=0
def tw8426798971799828003:Nat:=0
def tw8174591469460913490:Nat:=0
def tw8164005668110941744:Nat:=0
def tw8078195926588453703:Nat:=0
def tw7945405709010385892:Nat:=0
def tw7894344252036594922:Nat:=0
def tw7498633149979677338:Nat:=0
def tw7388713464098733815:Nat:=0
def tw7340446101256811000:Nat:=0
def tw7317234293075219:Nat:=0
def tw7215932318001415403:Nat:=0
def tw7090585071989052306:Nat:=0
def tw6737687440995333003:Nat:=0
def tw6662249597110656733:Nat:=0
def tw6623812351622530092:Nat:=0
def tw6606014719576569030:Nat:=0
def tw6511239469406747073:Nat:=0
def tw644751248652905101:Nat:=0
def tw5845538515087863352:Nat:=0
def tw5759927347364260171:Nat:=0
def tw5738919822854818926:Nat:=0
def tw5680315236850328200:Nat:=0
def tw5613845454599061817:Nat:=0
def tw5587484289544270231:Nat:=0
def tw529536973988259948:Nat:=0
def tw517312751163448032:Nat:=0
def tw4842887358765978389:Nat:=0
def tw4674102799890499726:Nat:=0
def tw4491058772748593153:Nat:=0
def tw4475145619620083286:Nat:=0
def tw4425046354534653865:Nat:=0
def tw4419873286371483742:Nat:=0
def tw438459731153329746:Nat:=0
def tw4248988804066548162:Nat:=0
def tw4227517698962585424:Nat:=0
def tw4211700434839312001:Nat:=0
def tw4153491320931672185:Nat:=0
def tw3992908553847606798:Nat:=0
def tw3942624392001961204:Nat:=0
def tw3934833063311361131:Nat:=0
def tw3302770140995672700:Nat:=0
def tw3241244739717862871:Nat:=0
def tw3172541193896328996:Nat:=0
def tw3133745999044795564:Nat:=0
def tw2680141511932349947:Nat:=0
def tw2456577590951144490:Nat:=0
def tw1906743188756502811:Nat:=0
def tw1877378965866140348:Nat:=0
def tw18431155831084640082:Nat:=0
def tw17969941481158815411:Nat:=0
def tw17960406059949683352:Nat:=0
def tw17845374550828520631:Nat:=0
def tw17704188385166749297:Nat:=0
def tw17624731456758155189:Nat:=0
def tw17619882183920601743:Nat:=0
def tw17312996333117680517:Nat:=0
def tw17108046237660401759:Nat:=0
def tw17004574920194074796:Nat:=0
def tw16915470645016011554:Nat:=0
def tw16629561534657121264:Nat:=0
def tw16607927582987124570:Nat:=0
def tw16408362238061914836:Nat:=0
def tw16172578528114110199:Nat:=0
def tw16002967266952078866:Nat:=0
def tw15943592676296772274:Nat:=0
def tw15679247252792206210:Nat:=0
def tw15508019666092448443:Nat:=0
def tw15431134087688302020:Nat:=0
def tw15221209806709932071:Nat:=0
def tw15078095837771203109:Nat:=0
def tw14734032772098568817:Nat:=0
def tw14731147920152588799:Nat:=0
def tw14712817762504950641:Nat:=0
def tw14323227155912201964:Nat:=0
def tw14267268813261638861:Nat:=0
def tw14191745827877185554:Nat:=0
def tw13989995598129119793:Nat:=0
def tw13553050674002434610:Nat:=0
def tw13350131943787299761:Nat:=0
def tw13218621648322568166:Nat:=0
def tw13056512690104125533:Nat:=0
def tw12996339429388188178:Nat:=0
def tw12661032092557703082:Nat:=0
def tw12392129776423771058:Nat:=0
def tw12079628635447562283:Nat:=0
def tw12068798485007620914:Nat:=0
def tw12059592832596718669:Nat:=0
def tw1176975735165151067:Nat:=0
def tw11630328935867623959:Nat:=0
def tw11300376045408061371:Nat:=0
def tw10800367221633172730:Nat:=0
def tw10693841506766600124:Nat:=0
def tw10354477200866600673:Nat:=0
def tw10241233070082051121:Nat:=0
def tw10069975712529536831:Nat:=0
end PySem.W.Fast
open_top head for PySem.Challenge.rw_glyphhall_k34_rings_walked
theorem PySem.Challenge.cw_glyphhall_k34_rings_walked_holds : PySem.Challenge.rw_glyphhall_k34_rings_walked.Holds :=
 head (by
 refine K34.b7k (l:=PySem.Challenge.rw_glyphhall_k34_rings_walked) (n:=63) (k:=46) (x:="_law_script") (CX:=fun _=>L2.CX0) (sp:=K34.spK) rfl (by decide) rfl ⟨rfl,by decide,by decide⟩ (fun w h Y=>PySem.W.kIn_of Y) ?F ?S ?C
 case F=>
  intro w mg fa h KX G hmg
  have T:∃cA,K34.DfE (L2.KOf KX) "law" (K34.top 85)/\∀{h:Heap} {mg:Str->Option Value},(L2.KOf KX).In h->h.Ns mainGlobals mg->EV.Stat PySem.Challenge.rw_glyphhall_k34_rings_walked.prog w ⟨L2.KOf KX,cA,[6],[]⟩ K34.G K34.ct K34.F mg:=by
   dsimp only[L2.KOf]
   clear hmg
   refine' K34.b2m ?a0 ?a1 ?a2 ?a3 ?a4 ?a5 ?a6 ?a7 ?a8 ?a9 ?a10 ?a11 ?a12 ?a13 ?a14 ?a15 ?a16 ?a17 ?a18 ?a19 ?a20 ?a21 ?a22 ?a23 ?a24 ?a25 ?a26 ?a27 ?a28 ?a29 ?a30 ?a31 ?a32 ?a33 ?a34 ?a35 ?a36 ?a37 ?a38 ?a39 ?a40 ?a41 ?a42 ?a43 ?a44 ?a45 ?a46 ?a47 ?a48 ?a49 ?a50 ?a51 ?a52 ?a53 ?a54 ?a55 ?a56 ?a57 ?a58 ?a59 ?a60 ?a61 ?a62 ?a63 ?a64 ?a65 ?a66 ?a67 ?a68 ?a69 ?a70 ?a71 ?a72 ?a73 ?a74 ?a75 ?a76 ?a77 ?a78 ?a79 ?a80 ?a81 ?a82 ?a83 ?a84 ?a85 ?a86 ?a87 ?a88 ?a89 ?a90 ?a91 ?a92 ?a93 ?a94 ?a95 ?a96 ?a97 ?a98 ?a99 ?a100 ?a101
   (case a0|a80|a81|a82|a83|a84|a85|a86|a87|a88|a89|a90|a91|a92|a93|a94|a95|a96|a97|a98|a99|a100|a101=>k_is)
   (case a1|a2|a3|a4|a5|a6|a7|a8|a9|a10|a11|a12|a13|a14|a15|a16|a17|a18|a19|a20|a21|a22|a23|a24|a25|a26|a27|a28|a29|a30|a31|a32|a33|a34|a35|a36|a37|a38|a39|a40|a41|a42|a43|a44|a45|a46|a47|a48|a49|a50|a51|a52|a53|a54|a55|a56|a57|a58|a59=>refine' K34.b8x ?x ?y ?z ?u;(case x=>k_is);(case y=>k_is);(case z=>k_is);(case u=>k_is))
   (case a60|a61|a62=>refine' K34.b4F ?e1;(case e1=>k_is))
   (case a63|a64|a65|a66|a67|a68|a69|a70|a71|a72|a73=>refine' K34.b5Z ?e1;(case e1=>k_is))
   (case a74|a75=>refine' K34.b2b ?e1 ?e2;(case e1=>k_is);(case e2=>k_is))
   (case a76=>refine' K34.b2a ?e1 ?e2;(case e1=>k_is);(case e2=>k_is))
   (case a77=>refine' K34.b3R ?e1 ?e2 ?e3 ?e4 ?e5 ?e6 ?e7 ?e8;(case e1=>k_is);(case e2=>k_is);(case e3=>decide);(case e4=>rfl);(case e5=>rfl);(case e6=>rfl);(case e7=>rfl);(case e8=>decide))
   (case a78=>refine' K34.b3r ?m1 ?m2 ?m3 ?m4 ?e2 ?e3 ?e4;(case m1=>k_is);(case m2=>k_is);(case m3=>k_is);(case m4=>k_is);(case e2=>k_is);(case e3=>k_is);(case e4=>k_is))
   (case a79=>refine' ⟨?p1,?p2,?p3,?p4⟩;(case p1=>k_is);(case p2=>k_is);(case p3=>k_is);(case p4=>k_is))
  obtain⟨cA,D,T⟩:=T;obtain⟨fd,h1,h2⟩:=K34.b6h D (T KX G) KX G hmg;exact⟨fd,h1,fun base _ _=>h2 base⟩
 case S=>
  intro w H a ns hl hO hS;refine K34.b5L a6Z ?nl hl hO hS
  (case nl=>kernel_rfl)
 case C=>exact fun w H s e s' z=>z)
